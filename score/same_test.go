package score_test

import (
	"math"
	"slices"
	"testing"

	"partita/api"
	"partita/score"
)

// P8.2

// changes are such of rich, each in one thing that it has.
func changes() []func(s *api.Score) {
	l := []func(s *api.Score){
		func(s *api.Score) { s.Title = "rich" }, func(s *api.Score) { s.Title = "" }, func(s *api.Score) { s.Title = "\xff" },
		func(s *api.Score) { s.Bars = nil }, func(s *api.Score) { s.Bars = s.Bars[:2] }, func(s *api.Score) { s.Bars = s.Bars[1:] }, func(s *api.Score) { s.Bars = append(s.Bars, api.Bar{}) }, func(s *api.Score) { slices.Reverse(s.Bars) },
		func(s *api.Score) { s.Parts = nil }, func(s *api.Score) { s.Parts = s.Parts[:2] }, func(s *api.Score) { s.Parts = s.Parts[1:] }, func(s *api.Score) { s.Parts = append(s.Parts, api.Part{}) }, func(s *api.Score) { slices.Reverse(s.Parts) },
	}
	for i := range 3 {
		for _, how := range barChanges() {
			l = append(l, func(s *api.Score) { how(&s.Bars[i]) })
		}
		for _, how := range partChanges() {
			l = append(l, func(s *api.Score) { how(&s.Parts[i]) })
		}
	}
	return append(l, listChanges()...)
}

// barChanges and partChanges may be made to any bar, or part, of rich.
func barChanges() []func(b *api.Bar) {
	return []func(b *api.Bar){
		func(b *api.Bar) { b.Meter.Num++ }, func(b *api.Bar) { b.Meter.Num = math.MinInt }, func(b *api.Bar) { b.Meter.Den *= 4 }, func(b *api.Bar) { b.Meter.Den = math.MaxInt }, func(b *api.Bar) { b.Meter.Groups = append(b.Meter.Groups, 1) }, func(b *api.Bar) { b.Meter.Groups = []int{7, 7} },
		func(b *api.Bar) { b.Key.Fifths++ }, func(b *api.Bar) { b.Key.Fifths = math.MinInt }, func(b *api.Bar) { b.Key.Minor = !b.Key.Minor },
		func(b *api.Bar) { b.Turn.Begin = !b.Turn.Begin }, func(b *api.Bar) { b.Turn.Times++ }, func(b *api.Bar) { b.Turn.Endings = append(b.Turn.Endings, 3) }, func(b *api.Bar) { b.Turn.Endings = []int{7} }, func(b *api.Bar) { b.Turn.Sign = !b.Turn.Sign }, func(b *api.Bar) { b.Turn.Coda = !b.Turn.Coda }, func(b *api.Bar) { b.Turn.ToCoda = !b.Turn.ToCoda }, func(b *api.Bar) { b.Turn.Fine = !b.Turn.Fine }, func(b *api.Bar) { b.Turn.Jump++ }, func(b *api.Bar) { b.Turn.Jump = math.MaxInt },
		func(b *api.Bar) { b.Tempos = append(b.Tempos, api.Tempo{}) }, func(b *api.Bar) { b.Tempos = append([]api.Tempo{{Micros: 7}}, b.Tempos...) },
	}
}

func partChanges() []func(p *api.Part) {
	l := []func(p *api.Part){
		func(p *api.Part) { p.Name += " " }, func(p *api.Part) { p.Name = "" }, func(p *api.Part) { p.Clef++ }, func(p *api.Part) { p.Clef = math.MinInt }, func(p *api.Part) { p.Channel-- }, func(p *api.Part) { p.Channel = math.MaxInt },
		func(p *api.Part) { p.Cells = nil }, func(p *api.Part) { p.Cells = p.Cells[:2] }, func(p *api.Part) { p.Cells = append(p.Cells, nil) }, func(p *api.Part) { slices.Reverse(p.Cells) },
		func(p *api.Part) { p.Dyns = nil }, func(p *api.Part) { p.Dyns = p.Dyns[:2] }, func(p *api.Part) { p.Dyns = append(p.Dyns, nil) },
	}
	for j := range 3 {
		l = append(l,
			func(p *api.Part) { p.Cells[j] = nil }, func(p *api.Part) { p.Cells[j] = append(p.Cells[j], api.Voice{}) }, func(p *api.Part) { p.Cells[j] = append([]api.Voice{{}}, p.Cells[j]...) },
			func(p *api.Part) { p.Cells[j][0].L = nil }, func(p *api.Part) { v := &p.Cells[j][0]; v.L = append(v.L, api.Event{}) }, func(p *api.Part) { v := &p.Cells[j][0]; v.L = append([]api.Event{{Word: "x"}}, v.L...) },
			func(p *api.Part) { p.Cells[j][0].L[0].Kind = 9 }, func(p *api.Part) { p.Cells[j][0].L[0].Value.Dots++ }, func(p *api.Part) { p.Cells[j][0].L[0].Value.Num = 9 }, func(p *api.Part) { p.Cells[j][0].L[0].Word = "no" }, func(p *api.Part) { e := &p.Cells[j][0].L[0]; e.Marks = append(e.Marks, 9) }, func(p *api.Part) { e := &p.Cells[j][0].L[0]; e.Pitches = append(e.Pitches, api.Pitch{}) }, func(p *api.Part) { e := &p.Cells[j][0].L[0]; e.Ties = append(e.Ties, true) },
			func(p *api.Part) { p.Dyns[j] = append(p.Dyns[j], api.Dyn{}) }, func(p *api.Part) { p.Dyns[j] = append([]api.Dyn{{Level: 7}}, p.Dyns[j]...) })
	}
	return l
}

// listChanges are such of what some bars and parts alone have.
func listChanges() []func(s *api.Score) {
	tempo := func(how func(x *api.Tempo)) func(s *api.Score) {
		return func(s *api.Score) { how(&s.Bars[0].Tempos[1]) }
	}
	dyn := func(how func(x *api.Dyn)) func(s *api.Score) {
		return func(s *api.Score) { how(&s.Parts[2].Dyns[1][1]) }
	}
	last := func(how func(e *api.Event)) func(s *api.Score) {
		return func(s *api.Score) { how(&s.Parts[0].Cells[0][0].L[1]) }
	}
	return []func(s *api.Score){
		tempo(func(x *api.Tempo) { x.At.Num-- }), tempo(func(x *api.Tempo) { x.At.Den++ }), tempo(func(x *api.Tempo) { x.Micros++ }), tempo(func(x *api.Tempo) { x.Ramp = false }), func(s *api.Score) { s.Bars[0].Tempos = s.Bars[0].Tempos[:1] }, func(s *api.Score) { slices.Reverse(s.Bars[0].Tempos) }, func(s *api.Score) { s.Bars[2].Tempos = nil },
		dyn(func(x *api.Dyn) { x.At.Num-- }), dyn(func(x *api.Dyn) { x.At.Den++ }), dyn(func(x *api.Dyn) { x.Level++ }), dyn(func(x *api.Dyn) { x.Hair = false }), func(s *api.Score) { s.Parts[0].Dyns[0] = s.Parts[0].Dyns[0][:1] }, func(s *api.Score) { slices.Reverse(s.Parts[0].Dyns[0]) }, func(s *api.Score) { d := s.Parts[0].Dyns; d[0], d[1] = d[1], d[0] },
		last(func(e *api.Event) { e.Ties[1] = false }), last(func(e *api.Event) { e.Pitches[1].Alter++ }), last(func(e *api.Event) { e.Marks[1]-- }), last(func(e *api.Event) { e.Value.Base = math.MinInt }), last(func(e *api.Event) { e.Value.Den = 3 }), last(func(e *api.Event) { e.Pitches[0].Octave = math.MinInt }), last(func(e *api.Event) { e.Pitches[0].Step++ }),
		func(s *api.Score) { s.Bars[1].Meter.Groups = nil }, func(s *api.Score) { s.Bars[1].Meter.Groups = []int{3, 2} }, func(s *api.Score) { s.Bars[1].Meter.Groups = []int{2} }, func(s *api.Score) { s.Bars[1].Turn.Endings = nil }, func(s *api.Score) { s.Bars[1].Turn.Endings = []int{2, 1} }, func(s *api.Score) { s.Bars[1].Turn.Endings = []int{1} },
		func(s *api.Score) { slices.Reverse(s.Parts[0].Cells[0]) }, func(s *api.Score) { slices.Reverse(s.Parts[0].Cells[0][1].L) }, func(s *api.Score) { s.Parts[0].Cells[0] = s.Parts[0].Cells[0][:2] },
	}
}

// equal holds scores against each other apart from the package.
func equal(a, b api.Score) bool {
	bars := func(a, b api.Bar) bool {
		x, y := a.Turn, b.Turn
		return a.Meter.Num == b.Meter.Num && a.Meter.Den == b.Meter.Den && slices.Equal(a.Meter.Groups, b.Meter.Groups) && a.Key == b.Key && x.Begin == y.Begin && x.Times == y.Times && slices.Equal(x.Endings, y.Endings) && x.Sign == y.Sign && x.Coda == y.Coda && x.ToCoda == y.ToCoda && x.Fine == y.Fine && x.Jump == y.Jump && slices.Equal(a.Tempos, b.Tempos)
	}
	cells := func(a, b []api.Voice) bool { return slices.EqualFunc(a, b, equalVoices) }
	parts := func(a, b api.Part) bool {
		return a.Name == b.Name && a.Clef == b.Clef && a.Channel == b.Channel && slices.EqualFunc(a.Cells, b.Cells, cells) && slices.EqualFunc(a.Dyns, b.Dyns, slices.Equal[[]api.Dyn])
	}
	return a.Title == b.Title && slices.EqualFunc(a.Bars, b.Bars, bars) && slices.EqualFunc(a.Parts, b.Parts, parts)
}

func expectSame(t *testing.T, a, b api.Score, want bool) {
	t.Helper()
	if got := score.Same(a, b); got != want {
		t.Errorf("Same(%s, %s): %t", shown(a), shown(b), got)
	}
}

// TestSameInEachField holds rich, changed in one thing, against rich, and against what is changed in another thing.
func TestSameInEachField(t *testing.T) {
	var l []api.Score
	for i, how := range changes() {
		s := changed(rich(), how)
		if equal(s, rich()) {
			t.Fatalf("change %d is none", i)
		}
		expectSame(t, s, rich(), false)
		expectSame(t, rich(), s, false)
		expectSame(t, s, copied(s), true)
		l = append(l, s)
	}
	for i, a := range l {
		for _, b := range l[max(0, i-40):i] {
			expectSame(t, a, b, equal(a, b))
		}
	}
}

func TestSame(t *testing.T) {
	l := append([]api.Score{{}, {Title: "x"}, {Bars: make([]api.Bar, 1)}, {Bars: make([]api.Bar, 2)}, {Parts: make([]api.Part, 1)}, {Parts: make([]api.Part, 1000)}, {Bars: make([]api.Bar, 1000)}}, someScores()[:60]...)
	for i, a := range l {
		for j, b := range l {
			expectSame(t, a, copied(b), i == j || equal(a, b))
		}
	}
}

// emptied is a score whose nil lists are empty ones, and the other way round.
func emptied(s api.Score) api.Score {
	s = copied(s)
	for i := range s.Bars {
		b := &s.Bars[i]
		b.Meter.Groups, b.Turn.Endings, b.Tempos = other(b.Meter.Groups), other(b.Turn.Endings), other(b.Tempos)
	}
	for i := range s.Parts {
		p := &s.Parts[i]
		for j, cell := range p.Cells {
			for k := range cell {
				for n := range cell[k].L {
					e := &cell[k].L[n]
					e.Pitches, e.Ties, e.Marks = other(e.Pitches), other(e.Ties), other(e.Marks)
				}
				cell[k].L = other(cell[k].L)
			}
			p.Cells[j] = other(cell)
		}
		for j := range p.Dyns {
			p.Dyns[j] = other(p.Dyns[j])
		}
		p.Cells, p.Dyns = other(p.Cells), other(p.Dyns)
	}
	s.Bars, s.Parts = other(s.Bars), other(s.Parts)
	return s
}

// other is an empty list, if it was handed nil, and the other way round.
func other[T any](l []T) []T {
	switch {
	case l == nil:
		return []T{}
	case len(l) == 0:
		return nil
	}
	return l
}

// TestNilAndEmptyAreOne holds scores with nil lists against such with empty ones, and asks both about all.
func TestNilAndEmptyAreOne(t *testing.T) {
	for _, s := range append(someScores()[:60], api.Score{}, api.Score{Bars: make([]api.Bar, 2), Parts: make([]api.Part, 2)}, api.Score{Parts: []api.Part{{Cells: make([][]api.Voice, 2), Dyns: make([][]api.Dyn, 2)}}}) {
		o := emptied(s)
		expectSame(t, s, o, true)
		expectSame(t, o, s, true)
		at, errno := score.Check(s)
		expect(t, o, at, errno)
		a, _ := score.Sounds(s, 0)
		b, _ := score.Sounds(o, 0)
		v, _ := score.Joined(s, 0, 1)
		w, _ := score.Joined(o, 0, 1)
		if !equalSounds(a, b) || !equalVoices(v, w) {
			t.Errorf("%s: nil and empty are not one", shown(s))
		}
	}
}
