package edit_test

import (
	"slices"
	"strings"

	"partita/api"
	"partita/value"
)

// Right scores, and edits of them, thrown by dice.

func units(m api.Meter) int { return m.Num * 64 / m.Den }

// sixtyFourths is a length of so many of them.
func sixtyFourths(n int) api.Ratio {
	den := 64
	for n%2 == 0 && den > 1 {
		n, den = n/2, den/2
	}
	return of(n, den)
}

// filled is a voice that fills a bar of so many sixty-fourths.
func filled(next func(int) int, units int) api.Voice {
	groups := []struct {
		text  string
		units int
	}{{"1", 64}, {"2", 32}, {"4", 16}, {"8", 8}, {"16", 4}, {"4.", 24}, {"8..", 14}, {"8*3:2|8*3:2|8*3:2", 16}, {"4*3:2|8*3:2", 16}}
	var v api.Voice
	for range next(6) {
		g := groups[next(len(groups))]
		if g.units <= units {
			v.L = append(v.L, sung(g.text)...)
			units -= g.units
		}
	}
	if units > 0 {
		l, _ := value.Split(sixtyFourths(units))
		for _, x := range l {
			v.L = append(v.L, api.Event{Value: x})
		}
	}
	voiced(next, v)
	return v
}

// voiced gives some of the events pitches, marks and words.
func voiced(next func(int) int, v api.Voice) {
	for i := range v.L {
		e := &v.L[i]
		for _, name := range []string{"B3", "C4", "C#4", "Db4", "G4"} {
			if next(3) == 0 {
				e.Kind, e.Pitches, e.Ties = api.Chord, append(e.Pitches, named(name)), append(e.Ties, false)
			}
		}
		for mark := api.Staccato; e.Kind == api.Chord && mark <= api.Fermata; mark++ {
			if next(4) == 0 {
				e.Marks = append(e.Marks, mark)
			}
		}
		if e.Kind == api.Chord && next(5) == 0 {
			e.Word = "la"
		}
	}
}

// behind is the event behind that of a place; false, if there is none.
func behind(s api.Score, p api.Place) (api.Event, bool) {
	cells := s.Parts[p.Part].Cells
	if v := cells[p.Bar][p.Voice]; p.At+1 < len(v.L) {
		return v.L[p.At+1], true
	}
	if p.Bar+1 == len(cells) || p.Voice >= len(cells[p.Bar+1]) {
		return api.Event{}, false
	}
	return cells[p.Bar+1][p.Voice].L[0], true
}

// tiedOn ties some pitches that the event behind has.
func tiedOn(next func(int) int, s api.Score) {
	for _, p := range allPlaces(s) {
		e := s.Parts[p.Part].Cells[p.Bar][p.Voice].L[p.At]
		b, ok := behind(s, p)
		for i, x := range e.Pitches {
			e.Ties[i] = ok && slices.Contains(b.Pitches, x) && next(3) == 0
		}
	}
}

// spread are some places in a bar, in order.
func spread(next func(int) int, units int) []api.Ratio {
	var l []api.Ratio
	for at := next(16); at < units && len(l) < 3; at += 1 + next(20) {
		l = append(l, sixtyFourths(at))
	}
	return l
}

// overlaid is a bar of some meter with anything else.
func overlaid(next func(int) int, m api.Meter) api.Bar {
	b := api.Bar{Meter: m, Key: api.Key{Fifths: next(9) - 4, Minor: next(2) == 0}}
	if next(3) == 0 {
		b.Meter.Groups = []int{b.Meter.Num}
	}
	for _, at := range spread(next, units(m)) {
		b.Tempos = append(b.Tempos, api.Tempo{At: at, Micros: 100000 + next(3900001), Ramp: next(2) == 0})
	}
	b.Turn = api.Turn{Begin: next(2) == 0, Times: next(5) - 1, Endings: []int{next(3), next(3)}[:next(3)], Jump: next(9) - 1}
	return b
}

func thrownBar(next func(int) int) api.Bar {
	meters := []string{"4/4", "3/4", "2/4", "5/8", "6/8", "7/16", "1/64", "2/1"}
	return overlaid(next, timed(meters[next(len(meters))]))
}

func thrownCell(next func(int) int, b api.Bar) []api.Voice {
	var cell []api.Voice
	for range 1 + next(4) {
		cell = append(cell, filled(next, units(b.Meter)))
	}
	return cell
}

func thrownDyns(next func(int) int, b api.Bar) []api.Dyn {
	var dyns []api.Dyn
	for _, at := range spread(next, units(b.Meter)) {
		dyns = append(dyns, api.Dyn{At: at, Level: 1 + next(127), Hair: next(2) == 0})
	}
	return dyns
}

// thrown is a right score of at most so many bars and parts.
func thrown(next func(int) int, bars, parts int) api.Score {
	s := api.Score{Title: strings.Repeat("t", next(41))}
	for range 1 + next(bars) {
		s.Bars = append(s.Bars, thrownBar(next))
	}
	for range 1 + next(parts) {
		p := api.Part{Name: strings.Repeat("ä", next(21)), Clef: next(4), Channel: next(16)}
		for _, b := range s.Bars {
			p.Cells, p.Dyns = append(p.Cells, thrownCell(next, b)), append(p.Dyns, thrownDyns(next, b))
		}
		s.Parts = append(s.Parts, p)
	}
	tiedOn(next, s)
	return s
}

// spotted is a place of a score's event, thrown.
func spotted(next func(int) int, s api.Score) api.Place {
	l := allPlaces(s)
	return l[next(len(l))]
}

// thrownEvents has some events of a voice give way to such that are as long, or to a whole other voice.
func thrownEvents(next func(int) int, s api.Score) api.Op {
	p := spotted(next, s)
	v := s.Parts[p.Part].Cells[p.Bar][p.Voice]
	if next(3) == 0 {
		p.At = 0
		return api.Op{Kind: api.OpEvents, Place: p, Count: len(v.L), Events: filled(next, units(s.Bars[p.Bar].Meter)).L}
	}
	count := next(len(v.L) - p.At + 1)
	var l []api.Event
	for _, e := range v.L[p.At : p.At+count] {
		one := api.Voice{L: []api.Event{{Value: e.Value}}}
		voiced(next, one)
		l = append(l, one.L...)
	}
	return api.Op{Kind: api.OpEvents, Place: p, Count: count, Events: l}
}

func thrownBarsIn(next func(int) int, s api.Score) api.Op {
	op := api.Op{Kind: api.OpBarsIn, Place: api.Place{Bar: next(len(s.Bars) + 1)}, Cells: make([][][]api.Voice, len(s.Parts)), Dyns: make([][][]api.Dyn, len(s.Parts))}
	for range next(4) {
		b := thrownBar(next)
		op.Bars = append(op.Bars, b)
		for i := range s.Parts {
			op.Cells[i], op.Dyns[i] = append(op.Cells[i], thrownCell(next, b)), append(op.Dyns[i], thrownDyns(next, b))
		}
	}
	return op
}

// thrownOp is an edit of a score that can be done more often than not.
func thrownOp(next func(int) int, s api.Score) api.Op {
	p := spotted(next, s)
	b := s.Bars[p.Bar]
	switch kind := 1 + next(9); kind {
	case api.OpEvents:
		return thrownEvents(next, s)
	case api.OpBarsIn:
		return thrownBarsIn(next, s)
	case api.OpBarsOut:
		return api.Op{Kind: kind, Place: api.Place{Bar: p.Bar}, Count: next(min(3, len(s.Bars)-p.Bar+1))}
	case api.OpBar:
		return api.Op{Kind: kind, Place: api.Place{Bar: p.Bar}, Bars: []api.Bar{overlaid(next, api.Meter{Num: b.Meter.Num, Den: b.Meter.Den})}}
	case api.OpDyns:
		return api.Op{Kind: kind, Place: p, Dyns: [][][]api.Dyn{{thrownDyns(next, b)}}}
	case api.OpVoiceIn:
		p.Voice += next(2)
		return api.Op{Kind: kind, Place: p, Cells: [][][]api.Voice{{{filled(next, units(b.Meter))}}}}
	case api.OpVoiceOut:
		return api.Op{Kind: kind, Place: p}
	case api.OpUp:
		by := []api.Interval{{}, {Steps: 4, Halves: 7}, {Steps: -3, Halves: -5}, {Steps: 7, Halves: 12}, {Steps: 1, Halves: 1}, {Steps: -1, Halves: -2}, {Steps: 30, Halves: 52}}
		return api.Op{Kind: kind, Place: api.Place{Part: next(len(s.Parts)+2) - 2}, Interval: by[next(len(by))]}
	}
	return api.Op{Kind: api.OpTitle, Text: strings.Repeat("new ", next(12))}
}

// off is an edit with one of its numbers, or the number of its lists' items, gone wrong.
func off(next func(int) int, op api.Op) api.Op {
	op = copiedOp(op)
	numbers := []*int{&op.Kind, &op.Place.Part, &op.Place.Bar, &op.Place.Voice, &op.Place.At, &op.Count, &op.Interval.Steps, &op.Interval.Halves}
	wrong := append(extremes(), -1, 0, 1, 2, 3, 9, 100)
	switch next(6) {
	case 0:
		op.Events = append(op.Events, written("4 C4"))
	case 1:
		op.Bars = append(op.Bars, barred("4/4")...)
	case 2:
		op.Cells = append(op.Cells, cells("1"))
	case 3:
		op.Dyns = append(op.Dyns, make([][]api.Dyn, 1))
	default:
		*numbers[next(len(numbers))] = wrong[next(len(wrong))]
	}
	return op
}
