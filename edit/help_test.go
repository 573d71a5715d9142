// Package edit_test asks the exported functions alone: what it holds them against is worked out here, apart from the package.
package edit_test

import (
	"fmt"
	"math"
	"slices"
	"strconv"
	"strings"
	"testing"

	"partita/api"
	"partita/edit"
	"partita/pitch"
	"partita/score"
	"partita/value"
)

func of(num, den int) api.Ratio { return api.Ratio{Num: num, Den: den} }

func named(name string) api.Pitch {
	p, e := pitch.Read(name)
	if e != api.OK {
		panic(name)
	}
	return p
}

// written is an event such as "4. C4~ E4 !13 'la": a value, pitches (a ~ behind those that are tied), marks, a word. One without pitches is a rest.
func written(text string) api.Event {
	words := strings.Fields(text)
	v, errno := value.Read(words[0])
	if errno != api.OK {
		panic(text)
	}
	e := api.Event{Kind: api.Rest, Value: v}
	for _, word := range words[1:] {
		switch word[0] {
		case '\'':
			e.Word = word[1:]
		case '!':
			for _, digit := range word[1:] {
				e.Marks = append(e.Marks, int(digit-'0'))
			}
		default:
			name, tied := strings.CutSuffix(word, "~")
			e.Kind, e.Pitches, e.Ties = api.Chord, append(e.Pitches, named(name)), append(e.Ties, tied)
		}
	}
	return e
}

// sung are such events with | between; none of an empty text.
func sung(text string) []api.Event {
	var l []api.Event
	for _, e := range strings.Split(text, "|") {
		if text != "" {
			l = append(l, written(e))
		}
	}
	return l
}

// celled is a cell of voices, with / between.
func celled(text string) []api.Voice {
	var l []api.Voice
	for _, v := range strings.Split(text, "/") {
		l = append(l, api.Voice{L: sung(v)})
	}
	return l
}

// cells are such, with ; between; none of an empty text.
func cells(text string) [][]api.Voice {
	var l [][]api.Voice
	for _, cell := range strings.Split(text, ";") {
		if text != "" {
			l = append(l, celled(cell))
		}
	}
	return l
}

func timed(text string) api.Meter {
	num, den, _ := strings.Cut(text, "/")
	var m api.Meter
	m.Num, _ = strconv.Atoi(num)
	m.Den, _ = strconv.Atoi(den)
	return m
}

// barred are bars of some meters, such as "4/4 3/4".
func barred(meters string) []api.Bar {
	var l []api.Bar
	for _, m := range strings.Fields(meters) {
		l = append(l, api.Bar{Meter: timed(m)})
	}
	return l
}

// scored is a score of such bars, and of parts, each a text of its cells.
func scored(meters string, parts ...string) api.Score {
	s := api.Score{Title: "Air", Bars: barred(meters)}
	for i, text := range parts {
		s.Parts = append(s.Parts, api.Part{Name: "part " + strconv.Itoa(i), Cells: cells(text), Dyns: make([][]api.Dyn, len(s.Bars))})
	}
	return s
}

// plain is a score of so many parts and bars, of whole notes.
func plain(parts, bars int) api.Score {
	var l []string
	for range parts {
		l = append(l, strings.TrimSuffix(strings.Repeat("1 C4;", bars), ";"))
	}
	return scored(strings.Repeat("4/4 ", bars), l...)
}

func tempo(at api.Ratio, micros int) []api.Tempo { return []api.Tempo{{At: at, Micros: micros}} }

func loud(at api.Ratio, level int) []api.Dyn { return []api.Dyn{{At: at, Level: level}} }

// rich is a right score that has something everywhere: three bars of 4/4, 5/8 and 2/4, three parts.
func rich() api.Score {
	s := scored("4/4 5/8 2/4",
		"2 G4|2 C4~ E4~ !24 / 4|4 C4~|2 C4 'la / 1 A3 ; 4 C4~ E4 G4 !1|4 C4|8 / 2 C4|8 / 2 A3~|8 A3 ; 4 C4|4*3:2|8*3:2 E4 / 2",
		"1 C3 E3 G3 B3 C4 E4 G4 B4~ ; 8 B4 'lo|2 !4 ; 4 C3|4 D3",
		"1 ; 2|8 ; 4.. C5 !1234|16 C5 / 2 / 2 / 2 B2")
	s.Title = "Rich"
	s.Bars[0].Tempos = []api.Tempo{{At: of(0, 1), Micros: 500000}, {At: of(1, 2), Micros: 400000, Ramp: true}}
	s.Bars[0].Turn = api.Turn{Begin: true, Sign: true, Coda: true}
	s.Bars[1].Meter.Groups = []int{2, 3}
	s.Bars[1].Key = api.Key{Fifths: -3, Minor: true}
	s.Bars[1].Turn = api.Turn{Times: 2, Endings: []int{1, 2}, ToCoda: true}
	s.Bars[2].Tempos = tempo(of(1, 8), 300000)
	s.Bars[2].Turn = api.Turn{Fine: true, Jump: api.DaCapo}
	s.Parts[1].Clef, s.Parts[1].Channel = api.Bass, 9
	s.Parts[2].Clef, s.Parts[2].Channel = api.Tenor, 15
	s.Parts[0].Dyns[0] = []api.Dyn{{At: of(0, 1), Level: 80, Hair: true}, {At: of(3, 4), Level: 127}}
	s.Parts[0].Dyns[2] = loud(of(1, 3), 1)
	s.Parts[2].Dyns[1] = []api.Dyn{{At: of(1, 4), Level: 64}, {At: of(1, 2), Level: 65, Hair: true}}
	return s
}

func list[T any](l []T) []T { return append([]T(nil), l...) }

// lists copies lists of lists, with what copies each of their items.
func lists[T any](l []T, each func(T) T) []T {
	var all []T
	for _, item := range l {
		all = append(all, each(item))
	}
	return all
}

func copiedEvent(e api.Event) api.Event {
	e.Pitches, e.Ties, e.Marks = list(e.Pitches), list(e.Ties), list(e.Marks)
	return e
}

func copiedVoice(v api.Voice) api.Voice { return api.Voice{L: lists(v.L, copiedEvent)} }

func copiedCell(c []api.Voice) []api.Voice { return lists(c, copiedVoice) }

func copiedCells(l [][]api.Voice) [][]api.Voice { return lists(l, copiedCell) }

func copiedDyns(l [][]api.Dyn) [][]api.Dyn { return lists(l, list[api.Dyn]) }

func copiedBar(b api.Bar) api.Bar {
	b.Meter.Groups, b.Turn.Endings, b.Tempos = list(b.Meter.Groups), list(b.Turn.Endings), list(b.Tempos)
	return b
}

func copiedPart(p api.Part) api.Part {
	p.Cells, p.Dyns = copiedCells(p.Cells), copiedDyns(p.Dyns)
	return p
}

// copied is a score of memory of its own.
func copied(s api.Score) api.Score {
	s.Bars, s.Parts = lists(s.Bars, copiedBar), lists(s.Parts, copiedPart)
	return s
}

// copiedOp is an edit of memory of its own.
func copiedOp(op api.Op) api.Op {
	op.Events, op.Bars = lists(op.Events, copiedEvent), lists(op.Bars, copiedBar)
	op.Cells, op.Dyns = lists(op.Cells, copiedCells), lists(op.Dyns, copiedDyns)
	return op
}

func changed(s api.Score, how func(*api.Score)) api.Score {
	s = copied(s)
	how(&s)
	return s
}

// What holds things against each other in all that they have, apart from the packages; nil and empty lists are one.

func equalEvents(a, b api.Event) bool {
	return a.Kind == b.Kind && a.Value == b.Value && a.Word == b.Word && slices.Equal(a.Pitches, b.Pitches) && slices.Equal(a.Ties, b.Ties) && slices.Equal(a.Marks, b.Marks)
}

func equalBars(a, b api.Bar) bool {
	x, y := a.Turn, b.Turn
	turns := x.Begin == y.Begin && x.Times == y.Times && slices.Equal(x.Endings, y.Endings) && x.Sign == y.Sign && x.Coda == y.Coda && x.ToCoda == y.ToCoda && x.Fine == y.Fine && x.Jump == y.Jump
	return turns && a.Meter.Num == b.Meter.Num && a.Meter.Den == b.Meter.Den && slices.Equal(a.Meter.Groups, b.Meter.Groups) && a.Key == b.Key && slices.Equal(a.Tempos, b.Tempos)
}

func equalCells(a, b [][]api.Voice) bool {
	voices := func(a, b api.Voice) bool { return slices.EqualFunc(a.L, b.L, equalEvents) }
	return slices.EqualFunc(a, b, func(a, b []api.Voice) bool { return slices.EqualFunc(a, b, voices) })
}

func equalDyns(a, b [][]api.Dyn) bool { return slices.EqualFunc(a, b, slices.Equal[[]api.Dyn]) }

func equalParts(a, b api.Part) bool {
	return a.Name == b.Name && a.Clef == b.Clef && a.Channel == b.Channel && equalCells(a.Cells, b.Cells) && equalDyns(a.Dyns, b.Dyns)
}

func equal(a, b api.Score) bool {
	return a.Title == b.Title && slices.EqualFunc(a.Bars, b.Bars, equalBars) && slices.EqualFunc(a.Parts, b.Parts, equalParts)
}

func equalOps(a, b api.Op) bool {
	lists := slices.EqualFunc(a.Events, b.Events, equalEvents) && slices.EqualFunc(a.Bars, b.Bars, equalBars) && slices.EqualFunc(a.Cells, b.Cells, equalCells) && slices.EqualFunc(a.Dyns, b.Dyns, equalDyns)
	return lists && a.Kind == b.Kind && a.Place == b.Place && a.Count == b.Count && a.Interval == b.Interval && a.Text == b.Text
}

// brief is a thing as it is told of where a test fails: its beginning, if it is long.
func brief(x any) string {
	text := fmt.Sprintf("%+v", x)
	if len(text) > 700 {
		return text[:700] + ".."
	}
	return text
}

// extremes are the numbers at which others go round.
func extremes() []int {
	return []int{math.MaxInt, math.MaxInt - 1, math.MinInt, math.MinInt + 1, 1 << 31, 1 << 32, 1<<32 + 1, -1 << 32, 1 << 62}
}

// dice are numbers below those asked for, always the same ones.
func dice() func(n int) int {
	state := uint64(7)
	return func(n int) int {
		state = state*6364136223846793005 + 1442695040888963407
		return int(state>>33) % n
	}
}

// expectDone asks for an edit that can be done, with junk in all that it does not need, and for what takes it back, and for what takes that back.
func expectDone(t *testing.T, s api.Score, op api.Op, want api.Score, back api.Op) {
	t.Helper()
	if _, e := score.Check(want); e != api.OK {
		t.Fatalf("%s: what is wanted is not right: error %d", brief(op), e)
	}
	for _, asked := range []api.Op{op, cluttered(op)} {
		u, b, e := edit.Apply(s, asked)
		if e != api.OK || !equal(u, want) {
			t.Errorf("%s: error %d, %s, want %s", brief(asked), e, brief(u), brief(want))
			return
		}
		if !equalOps(b, back) {
			t.Errorf("%s is taken back by %s, want %s", brief(asked), brief(b), brief(back))
		}
		v, again, e := edit.Apply(u, b)
		if e != api.OK || !equal(v, s) {
			t.Errorf("%s: taken back: error %d, %s", brief(asked), e, brief(v))
		}
		if w, _, e := edit.Apply(v, again); e != api.OK || !equal(w, want) {
			t.Errorf("%s: made again: error %d, %s", brief(asked), e, brief(w))
		}
	}
}

// expectRefused asks for an edit that can't be done, with junk in all that it does not need too.
func expectRefused(t *testing.T, s api.Score, op api.Op, errno api.Errno) {
	t.Helper()
	for _, asked := range []api.Op{op, cluttered(op)} {
		u, b, e := edit.Apply(s, asked)
		if e != errno || !equal(u, api.Score{}) || !equalOps(b, api.Op{}) {
			t.Errorf("%s: error %d, %s, %s, want error %d", brief(asked), e, brief(u), brief(b), errno)
		}
	}
}

// junk is an edit that is wrong in each field.
func junk() api.Op {
	wrong := api.Event{Kind: 7, Word: "\xff"}
	return api.Op{
		Place: api.Place{Part: -9, Bar: math.MaxInt, Voice: math.MinInt, At: -1}, Count: -7, Events: []api.Event{wrong, wrong}, Bars: make([]api.Bar, 3),
		Cells: [][][]api.Voice{{{{L: []api.Event{wrong}}, {}}, nil}, nil}, Dyns: [][][]api.Dyn{nil, {{{Level: 200}}}, nil}, Interval: api.Interval{Steps: math.MinInt, Halves: 999}, Text: "\n",
	}
}

// cluttered is an edit with junk in all that the table does not name for its kind.
func cluttered(op api.Op) api.Op {
	j := junk()
	j.Kind = op.Kind
	switch op.Kind {
	case api.OpEvents:
		j.Place, j.Count, j.Events = op.Place, op.Count, op.Events
	case api.OpBarsIn:
		j.Place.Bar, j.Bars, j.Cells, j.Dyns = op.Place.Bar, op.Bars, op.Cells, op.Dyns
	case api.OpBarsOut:
		j.Place.Bar, j.Count = op.Place.Bar, op.Count
	case api.OpBar:
		j.Place.Bar, j.Bars = op.Place.Bar, op.Bars
	case api.OpDyns:
		j.Place.Part, j.Place.Bar, j.Dyns = op.Place.Part, op.Place.Bar, op.Dyns
	case api.OpVoiceIn:
		j.Place, j.Cells = op.Place, op.Cells
		j.Place.At = math.MinInt
	case api.OpVoiceOut:
		j.Place = op.Place
		j.Place.At = math.MaxInt
	case api.OpUp:
		j.Place.Part, j.Interval = op.Place.Part, op.Interval
	case api.OpTitle:
		j.Text = op.Text
	}
	return j
}
