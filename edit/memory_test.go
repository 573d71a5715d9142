package edit_test

import (
	"reflect"
	"slices"
	"testing"

	"partita/api"
	"partita/edit"
)

// R3: what is handed in is left, what is answered is new.

// room puts something into the spare room of a list.
func room[T any](l []T, spare T) []T { return append(list(l), spare, spare)[:len(l)] }

func roomyEvent(e api.Event) api.Event {
	e.Pitches, e.Ties, e.Marks = room(e.Pitches, api.Pitch{Step: 9}), room(e.Ties, true), room(e.Marks, 9)
	return e
}

func roomyEvents(l []api.Event) []api.Event {
	return room(lists(l, roomyEvent), roomyEvent(api.Event{Kind: 9}))
}

func roomyBars(l []api.Bar) []api.Bar {
	return room(lists(l, func(b api.Bar) api.Bar {
		b.Meter.Groups, b.Turn.Endings, b.Tempos = room(b.Meter.Groups, 9), room(b.Turn.Endings, 9), room(b.Tempos, api.Tempo{Micros: 9})
		return b
	}), api.Bar{Meter: api.Meter{Num: 9}})
}

func roomyCells(l [][]api.Voice) [][]api.Voice {
	return room(lists(l, func(cell []api.Voice) []api.Voice {
		voices := lists(cell, func(v api.Voice) api.Voice { return api.Voice{L: roomyEvents(v.L)} })
		return room(voices, api.Voice{L: make([]api.Event, 9)})
	}), make([]api.Voice, 9))
}

func roomyDyns(l [][]api.Dyn) [][]api.Dyn {
	return room(lists(l, func(dyns []api.Dyn) []api.Dyn { return room(dyns, api.Dyn{Level: 9}) }), make([]api.Dyn, 9))
}

// roomy and roomyOp are such whose lists all have spare room with something in it.
func roomy(s api.Score) api.Score {
	s.Bars = roomyBars(s.Bars)
	s.Parts = room(lists(s.Parts, func(p api.Part) api.Part {
		p.Cells, p.Dyns = roomyCells(p.Cells), roomyDyns(p.Dyns)
		return p
	}), api.Part{Name: "9"})
	return s
}

func roomyOp(op api.Op) api.Op {
	op.Events, op.Bars = roomyEvents(op.Events), roomyBars(op.Bars)
	op.Cells, op.Dyns = room(lists(op.Cells, roomyCells), make([][]api.Voice, 9)), room(lists(op.Dyns, roomyDyns), make([][]api.Dyn, 9))
	return op
}

// opened is a copy of a thing, whose lists have what was in their spare room too.
func opened(x any) any {
	var open func(v reflect.Value) reflect.Value
	open = func(v reflect.Value) reflect.Value {
		o := reflect.New(v.Type()).Elem()
		switch v.Kind() {
		case reflect.Slice:
			v = v.Slice(0, v.Cap())
			for i := range v.Len() {
				o = reflect.Append(o, open(v.Index(i)))
			}
		case reflect.Struct:
			for i := range v.NumField() {
				o.Field(i).Set(open(v.Field(i)))
			}
		default:
			o.Set(v)
		}
		return o
	}
	return open(reflect.ValueOf(x)).Interface()
}

// spans are the addresses of all lists of a thing, spare room too.
func spans(x any) [][2]uintptr {
	var l [][2]uintptr
	var walk func(v reflect.Value)
	walk = func(v reflect.Value) {
		switch v.Kind() {
		case reflect.Slice:
			v = v.Slice(0, v.Cap())
			if v.Len() > 0 {
				from := v.Pointer()
				l = append(l, [2]uintptr{from, from + uintptr(v.Len())*v.Type().Elem().Size()})
			}
			for i := range v.Len() {
				walk(v.Index(i))
			}
		case reflect.Struct:
			for i := range v.NumField() {
				walk(v.Field(i))
			}
		}
	}
	walk(reflect.ValueOf(x))
	return l
}

// overlap tells whether two of some spans have an address in common.
func overlap(l [][2]uintptr) bool {
	slices.SortFunc(l, func(a, b [2]uintptr) int { return slices.Compare(a[:], b[:]) })
	for i := 1; i < len(l); i++ {
		if l[i][0] < l[i-1][1] {
			return true
		}
	}
	return false
}

// distinct are spans, each of them once.
func distinct(l [][2]uintptr) [][2]uintptr {
	slices.SortFunc(l, func(a, b [2]uintptr) int { return slices.Compare(a[:], b[:]) })
	return slices.Compact(l)
}

func TestSpansOfSharedLists(t *testing.T) {
	c := celled("2 C4 E4 !13|2 E4")
	for _, x := range []any{[][]api.Voice{c, c}, [][]api.Voice{c[:1], list(c)}, []api.Voice{c[0], {L: c[0].L[1:]}}, []api.Event{c[0].L[0], {Marks: c[0].L[0].Marks[1:]}}} {
		if !overlap(spans(x)) {
			t.Errorf("%s shares nothing", brief(x))
		}
	}
	if overlap(spans(rich())) || len(spans(rich())) < 50 {
		t.Errorf("rich shares something, or has %d lists alone", len(spans(rich())))
	}
}

// expectNew asks for edits, one by one and as a run, and looks at what was handed in, and at the memory of all that is answered.
func expectNew(t *testing.T, s api.Score, l []api.Op) {
	t.Helper()
	before, ops := opened(s), opened(l)
	for _, op := range l {
		u, back, _ := edit.Apply(s, op)
		looked(t, brief(op), []any{s, op}, []any{u, back})
	}
	u, back, _, _ := edit.Run(s, l)
	looked(t, brief(l), []any{s, l}, []any{u, back})
	if !reflect.DeepEqual(opened(s), before) || !reflect.DeepEqual(opened(l), ops) {
		t.Errorf("%s: wrote into what was handed in", brief(l))
	}
}

func looked(t *testing.T, name string, given, told []any) {
	t.Helper()
	var in, out [][2]uintptr
	for _, x := range given {
		in = append(in, spans(x)...)
	}
	for _, x := range told {
		out = append(out, spans(x)...)
	}
	if overlap(out) {
		t.Errorf("%s: what is answered shares memory", name)
	}
	if in = distinct(in); overlap(in) {
		return // what was handed in shares parts of lists: only that what is answered shares none was asked
	}
	if overlap(append(in, out...)) {
		t.Errorf("%s: what is answered has memory of what was handed in", name)
	}
}

func TestMemory(t *testing.T) {
	for _, op := range append(someOps(), opBarsIn(0, "", "", ""), opBarsOut(0, 0), opBarsOut(0, 2), opEvents(api.Place{}, 0, ""), opEvents(api.Place{At: 1}, 1, "8 C4|8"), opDyns(0, 0), opTitle("\n"), opUp(0, 0, 120), api.Op{}, junk()) {
		expectNew(t, pick(), []api.Op{op})
		expectNew(t, roomy(pick()), []api.Op{roomyOp(op)})
	}
	expectNew(t, roomy(pick()), lists(someOps(), roomyOp))
	expectNew(t, roomy(pick()), room(lists(kindly(), roomyOp), junk()))
	full := []api.Op{moreBars(1), opBar(0, rich().Bars[0]), opDyns(0, 0, rich().Parts[0].Dyns[0]...), opBarsOut(1, 3), opUp(-1, 1, 2), opVoiceOut(0, 0, 1), {Kind: api.OpVoiceIn, Cells: [][][]api.Voice{{untied().Parts[0].Cells[0][:1]}}}, opEvents(api.Place{}, 2, "2 C4 E4 !134 'la|2 A3 !2")}
	for n := range full {
		expectNew(t, untied(), full[n:n+1])
		expectNew(t, roomy(untied()), lists(full[:n+1], roomyOp))
	}
	_, _, n, e := edit.Run(untied(), full)
	if n != len(full) || e != api.OK {
		t.Errorf("%d done, error %d", n, e)
	}
}

// TestMemoryOfShared hands in lists that are the same memory: scores whose cells, bars and dynamics are one, and edits with what the score has.
func TestMemoryOfShared(t *testing.T) {
	cell, dyns := celled("2 C4 E4 !13|2 E4 !24/1 C4 !4"), loud(of(1, 4), 9)
	bar := api.Bar{Meter: api.Meter{Num: 4, Den: 4, Groups: []int{2, 2}}, Turn: api.Turn{Endings: []int{1}}, Tempos: tempo(of(0, 1), 500000)}
	part := api.Part{Cells: slices.Repeat([][]api.Voice{cell}, 3), Dyns: slices.Repeat([][]api.Dyn{dyns}, 3)}
	s := api.Score{Bars: slices.Repeat([]api.Bar{bar}, 3), Parts: []api.Part{part, part}}
	in := api.Op{Kind: api.OpBarsIn, Place: api.Place{Bar: 1}, Bars: s.Bars, Cells: [][][]api.Voice{part.Cells, part.Cells}, Dyns: [][][]api.Dyn{part.Dyns, part.Dyns}}
	l := []api.Op{in, in, opBarsOut(1, 4), opBar(1, bar), opBar(1, bar), {Kind: api.OpDyns, Dyns: [][][]api.Dyn{{dyns}}}, {Kind: api.OpVoiceIn, Cells: [][][]api.Voice{{cell[:1]}}}, {Kind: api.OpVoiceIn, Cells: [][][]api.Voice{{cell[1:]}}}, opVoiceOut(0, 0, 1), {Kind: api.OpEvents, Count: 1, Events: cell[1].L}, {Kind: api.OpEvents, Place: api.Place{Part: 1}, Count: 2, Events: cell[0].L}, opUp(-1, 0, 1)}
	if _, _, n, e := edit.Run(s, l); n != len(l) || e != api.OK {
		t.Fatalf("%d done, error %d", n, e)
	}
	expectNew(t, s, l)
	before := copied(s)
	expectDone(t, s, opUp(1, 0, 1), changed(s, func(s *api.Score) {
		s.Parts[1].Cells = slices.Repeat([][]api.Voice{celled("2 C#4 E#4 !13|2 E#4 !24/1 C#4 !4")}, 3)
	}), opUp(1, 0, -1))
	if !equal(s, before) {
		t.Error("wrote into what was handed in")
	}
}

// TestNotKept writes into what was handed in, and into what was answered, and asks again.
func TestNotKept(t *testing.T) {
	s, op := rich(), opEvents(api.Place{Part: 1, Bar: 2}, 1, "8 G4|8")
	want, back, _ := made(s, op)
	u, b, _ := edit.Apply(s, op)
	op.Events[0].Pitches[0].Step, s.Parts[1].Cells[2][0].L[0].Pitches[0].Step, s.Bars[1].Meter.Groups[0] = 0, 6, 9
	if !equal(u, want) || !equalOps(b, back) {
		t.Error("what is answered is what was handed in")
	}
	u.Parts[0].Cells[0][0].L[0].Pitches[0].Step, b.Events[0].Ties[0] = 0, true
	if v, c, e := edit.Apply(rich(), opEvents(api.Place{Part: 1, Bar: 2}, 1, "8 G4|8")); e != api.OK || !equal(v, want) || !equalOps(c, back) {
		t.Error("what was answered is kept")
	}
}

// emptied is a thing whose nil lists are empty ones, and the other way round.
func emptied[T any](x T) T {
	var other func(v reflect.Value) reflect.Value
	other = func(v reflect.Value) reflect.Value {
		o := reflect.New(v.Type()).Elem()
		switch v.Kind() {
		case reflect.Slice:
			if v.IsNil() {
				return reflect.MakeSlice(v.Type(), 0, 0)
			}
			for i := range v.Len() {
				o = reflect.Append(o, other(v.Index(i)))
			}
		case reflect.Struct:
			for i := range v.NumField() {
				o.Field(i).Set(other(v.Field(i)))
			}
		default:
			o.Set(v)
		}
		return o
	}
	return other(reflect.ValueOf(x)).Interface().(T)
}

func TestNilAndEmptyAreOne(t *testing.T) {
	for _, op := range append(someOps(), opBarsIn(0, "", "", ""), opBarsOut(3, 0), opEvents(api.Place{}, 0, ""), opDyns(0, 0), opEvents(api.Place{}, 2, ""), api.Op{Kind: api.OpBarsIn}, api.Op{Kind: api.OpDyns, Dyns: make([][][]api.Dyn, 1)}, api.Op{Kind: api.OpVoiceIn, Cells: make([][][]api.Voice, 1)}) {
		want, back, errno := made(pick(), op)
		for _, s := range []api.Score{pick(), emptied(pick())} {
			for _, asked := range []api.Op{op, emptied(op)} {
				if u, b, e := edit.Apply(s, asked); e != errno || !equal(u, want) || !equalOps(b, back) {
					t.Errorf("%s: error %d, %s, want error %d", brief(asked), e, brief(u), errno)
				}
			}
		}
	}
}
