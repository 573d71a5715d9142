package event

import (
	"math"
	"math/big"
	"slices"
	"strings"
	"testing"

	"partita/api"
	"partita/pitch"
	"partita/value"
)

var (
	far = []int{-1, 2, 3, 5, 100, -100, 1 << 32, -1 << 32, 1<<32 + 1, 1 << 62, -1 << 62, math.MaxInt, math.MaxInt - 1, math.MinInt, math.MinInt + 1}
	// naturals are written down apart from the package that counts with them.
	naturals = []int{0, 2, 4, 5, 7, 9, 11}
	quarter  = api.Value{Base: 2}
	half     = api.Value{Base: 1}
	triplet  = api.Value{Base: 3, Num: 3, Den: 2}
)

func at(step, alter, octave int) api.Pitch {
	return api.Pitch{Step: step, Alter: alter, Octave: octave}
}

func up(steps, halves int) api.Interval { return api.Interval{Steps: steps, Halves: halves} }

// named are the pitches of a text such as "C4 E4".
func named(names string) []api.Pitch {
	var l []api.Pitch
	for _, name := range strings.Fields(names) {
		p, e := pitch.Read(name)
		if e != api.OK {
			panic(name)
		}
		l = append(l, p)
	}
	return l
}

// chord is a quarter with the pitches of a text; those with a ~ behind them are tied.
func chord(names string) api.Event {
	e := api.Event{Kind: api.Chord, Value: quarter}
	for _, name := range strings.Fields(names) {
		bare, tied := strings.CutSuffix(name, "~")
		e.Pitches = append(e.Pitches, named(bare)...)
		e.Ties = append(e.Ties, tied)
	}
	return e
}

func rest(marks ...int) api.Event { return api.Event{Kind: api.Rest, Value: quarter, Marks: marks} }

func valued(e api.Event, v api.Value) api.Event {
	e.Value = v
	return e
}

func marked(e api.Event, marks ...int) api.Event {
	e.Marks = marks
	return e
}

func worded(e api.Event, word string) api.Event {
	e.Word = word
	return e
}

func kinded(e api.Event, kind int) api.Event {
	e.Kind = kind
	return e
}

func tiesOf(e api.Event, ties ...bool) api.Event {
	e.Ties = ties
	return e
}

func pitched(e api.Event, l ...api.Pitch) api.Event {
	e.Pitches = l
	return e
}

const (
	eight = "C4 D4 E4 F4 G4 A4 B4 C5"
	nine  = eight + " D5"
	forty = "0123456789012345678901234567890123456789"
)

// rights are right events, no two the same.
func rights() []api.Event {
	return []api.Event{
		rest(), rest(api.Fermata), valued(rest(), half), valued(rest(api.Fermata), triplet), valued(rest(), api.Value{}), valued(rest(), api.Value{Base: 6, Dots: 2, Num: 15, Den: 1}),
		chord("C4"), chord("C4~"), chord("C4 E4"), chord("C4~ E4"), chord("C4 E4~"), chord("C4~ E4~"), chord(eight), chord("C4~ D4~ E4~ F4~ G4~ A4~ B4~ C5~"),
		chord("C#4 Db4"), chord("B3 Cb4"), chord("B#3 C4 Dbb4"), chord("C-1"), chord("G9"), chord("C-1 G9"), chord("F##9"), chord("F##9 G9 Abb9"),
		marked(chord("C4"), 1), marked(chord("C4"), 4), marked(chord("C4"), 1, 4), marked(chord("C4"), 1, 2, 3, 4), marked(chord("C4 E4~"), 2, 3),
		worded(chord("C4"), "la"), worded(chord("C4"), " "), worded(chord("C4"), "~"), worded(chord("C4"), forty), worded(chord("C4"), strings.Repeat("é", 20)), worded(chord("C4~"), "日é"), worded(chord("C4"), "\ufffd"), worded(chord("C4"), "\u0080"), worded(chord("C4"), "\U0010ffff"),
		valued(chord("C4"), half), valued(chord("C4"), triplet), valued(worded(marked(chord("C4 E4~"), 1, 3), "o"), triplet),
	}
}

// wrongs are events that are not right, no two the same.
func wrongs() []api.Event {
	l := []api.Event{
		{Kind: 2}, {Kind: -1}, {Kind: api.Chord}, {Kind: api.Chord, Ties: []bool{true}}, {Kind: api.Chord, Pitches: []api.Pitch{{}}},
		pitched(rest(), at(0, 0, 4)), tiesOf(rest(), false), tiesOf(rest(), true), kinded(chord("C4"), api.Rest), kinded(chord("C4~"), api.Rest), worded(rest(), "a"), worded(rest(), " "), worded(rest(api.Fermata), "a"), rest(1), rest(2), rest(3), rest(1, 4), rest(3, 4), rest(4, 4), rest(0), rest(5), rest(4, 5), rest(0, 4),
		chord(""), chord(nine), chord("C4 C4"), chord("C4~ C4"), chord("E4 C4"), chord("C4 E4 D4"), chord("E4 C4 G4"), chord("Db4 C#4"), chord("Cb4 B3"), chord("C4 E4 E4 G4"),
		tiesOf(chord("C4")), tiesOf(chord("C4"), false, false), tiesOf(chord("C4"), true, true), tiesOf(chord("C4 E4"), true), tiesOf(chord("C4 E4")), tiesOf(chord("C4 E4"), false, true, false), tiesOf(chord(eight), make([]bool, 9)...), tiesOf(chord(eight), make([]bool, 7)...),
		pitched(chord("C4"), at(7, 0, 4)), pitched(chord("C4"), at(-1, 0, 4)), pitched(chord("C4"), at(0, 3, 4)), pitched(chord("C4"), at(0, -3, 4)), pitched(chord("C4"), at(0, 0, 10)), pitched(chord("C4"), at(0, 0, -2)), pitched(chord("C4"), at(0, -1, -1)), pitched(chord("C4"), at(4, 1, 9)),
		pitched(chord("C4 E4"), at(7, 0, 4), at(2, 0, 4)), pitched(chord("C4 E4"), at(0, 0, 4), at(7, 0, 4)), pitched(chord("C4 E4"), at(7, 0, 4), at(7, 0, 4)), pitched(chord("C4 D4 E4"), at(0, 0, 4), at(7, 0, 4), at(4, 0, 4)),
		marked(chord("C4"), 0), marked(chord("C4"), 5), marked(chord("C4"), -1), marked(chord("C4"), 1, 1), marked(chord("C4"), 4, 4), marked(chord("C4"), 3, 1), marked(chord("C4"), 1, 3, 2), marked(chord("C4"), 2, 2, 3), marked(chord("C4"), 0, 1), marked(chord("C4"), 4, 5), marked(chord("C4"), 1, 2, 3, 4, 5), marked(chord("C4"), 1, 2, 3, 4, 4),
		worded(chord("C4"), forty+"0"), worded(chord("C4"), strings.Repeat("é", 20)+"a"), worded(chord("C4"), strings.Repeat("日", 14)), worded(chord("C4"), strings.Repeat("a", 100000)), worded(chord("C4"), "\x1f"), worded(chord("C4"), "\x7f"), worded(chord("C4"), "a\n"), worded(chord("C4"), "\x00"), worded(chord("C4"), "\xff"), worded(chord("C4"), forty[:39]+"\xc3"),
		valued(chord("C4"), api.Value{Base: 7}), valued(chord("C4"), api.Value{Base: -1}), valued(chord("C4"), api.Value{Dots: 3}), valued(chord("C4"), api.Value{Num: 3, Den: 3}), valued(chord("C4"), api.Value{Num: 1, Den: 2}), valued(chord("C4"), api.Value{Den: 2}), valued(rest(), api.Value{Base: 7}), valued(rest(), api.Value{Num: 3}),
	}
	for _, n := range []int{math.MaxInt, math.MinInt, math.MinInt + 1, 1 << 32} {
		l = append(l, kinded(rest(), n), kinded(chord("C4"), n), rest(n), marked(chord("C4"), n), marked(chord("C4"), 1, n), pitched(chord("C4"), at(n, 0, 4)), pitched(chord("C4"), at(0, n, 4)), pitched(chord("C4"), at(0, 0, n)), pitched(chord("C4"), at(n, n, n)), valued(chord("C4"), api.Value{Base: n}), valued(rest(), api.Value{Dots: n}), valued(rest(), api.Value{Num: n, Den: 2}), valued(rest(), api.Value{Num: 3, Den: n}))
	}
	return append(l, marked(chord("C4"), math.MinInt, math.MaxInt), marked(chord("C4"), math.MaxInt, math.MinInt), api.Event{Kind: math.MinInt, Value: api.Value{Base: math.MinInt, Dots: math.MaxInt, Num: math.MinInt, Den: math.MinInt}, Marks: []int{math.MinInt}, Word: "\xff"})
}

// copied is an event of memory of its own.
func copied(e api.Event) api.Event {
	e.Pitches, e.Ties, e.Marks = slices.Clone(e.Pitches), slices.Clone(e.Ties), slices.Clone(e.Marks)
	return e
}

// equal holds two events against each other apart from the package.
func equal(a, b api.Event) bool {
	return a.Kind == b.Kind && a.Value == b.Value && a.Word == b.Word && slices.Equal(a.Pitches, b.Pitches) && slices.Equal(a.Ties, b.Ties) && slices.Equal(a.Marks, b.Marks)
}

// P6.1

func expectRight(t *testing.T, e api.Event, want bool) {
	t.Helper()
	if Right(e) != want {
		t.Errorf("Right(%+v): %t, want %t", e, !want, want)
	}
}

func TestRightWritten(t *testing.T) {
	for _, e := range rights() {
		expectRight(t, e, true)
	}
	for _, e := range wrongs() {
		expectRight(t, e, false)
	}
	expectRight(t, api.Event{}, true) // a whole rest
}

func TestRightKinds(t *testing.T) {
	for _, kind := range far {
		expectRight(t, kinded(rest(), kind), false)
		expectRight(t, kinded(chord("C4"), kind), false)
	}
	expectRight(t, kinded(rest(), api.Chord), false)
	expectRight(t, kinded(chord("C4"), api.Rest), false)
}

func TestRightValues(t *testing.T) {
	numbers := []int{-1, 0, 1, 2, 3, 4, 7, 14, 15, 16, math.MaxInt, math.MinInt}
	for base := -1; base <= 7; base++ {
		for dots := -1; dots <= 3; dots++ {
			for _, num := range numbers {
				for _, den := range numbers {
					v := api.Value{Base: base, Dots: dots, Num: num, Den: den}
					tuplet := num == 0 && den == 0 || num >= 2 && num <= 15 && den >= 1 && den <= 15 && num != den
					want := base >= 0 && base <= 6 && dots >= 0 && dots <= 2 && tuplet
					expectRight(t, valued(rest(), v), want)
					expectRight(t, valued(chord("C4 E4~"), v), want)
				}
			}
		}
	}
}

// lists are all lists of at most so many of some numbers.
func lists(most int, numbers []int) [][]int {
	all := [][]int{nil}
	if most == 0 {
		return all
	}
	for _, shorter := range lists(most-1, numbers) {
		for _, n := range numbers {
			all = append(all, append(slices.Clone(shorter), n))
		}
	}
	return all
}

func TestRightMarks(t *testing.T) {
	var rightOnes [][]int
	for subset := range 16 {
		var marks []int
		for i := range 4 {
			if subset>>i&1 == 1 {
				marks = append(marks, i+1)
			}
		}
		rightOnes = append(rightOnes, marks)
	}
	for _, marks := range lists(5, []int{0, 1, 2, 3, 4, 5}) {
		want := slices.ContainsFunc(rightOnes, func(l []int) bool { return slices.Equal(l, marks) })
		expectRight(t, marked(chord("C4"), marks...), want)
		expectRight(t, rest(marks...), len(marks) == 0 || slices.Equal(marks, []int{4}))
	}
	for _, n := range far {
		want := n == 2 || n == 3
		expectRight(t, marked(chord("C4"), n), want)
		expectRight(t, rest(n), false)
		expectRight(t, rest(n, 4), false)
	}
}

func TestRightBytes(t *testing.T) {
	for b := range 256 {
		want := b >= 32 && b < 127
		for _, word := range []string{string([]byte{byte(b)}), "a" + string([]byte{byte(b)}), string([]byte{byte(b)}) + "a", "é" + string([]byte{byte(b)}) + "日", forty[:39] + string([]byte{byte(b)})} {
			expectRight(t, worded(chord("C4"), word), want)
			expectRight(t, worded(rest(), word), false)
		}
		expectRight(t, worded(chord("C4"), forty+string([]byte{byte(b)})), false)
	}
}

func TestRightWords(t *testing.T) {
	for n := range 100 {
		expectRight(t, worded(chord("C4"), strings.Repeat("x", n)), n <= 40)
		expectRight(t, worded(chord("C4"), strings.Repeat("é", n)), n <= 20)
		expectRight(t, worded(chord("C4"), strings.Repeat("日", n)), n <= 13)
		expectRight(t, worded(chord("C4"), strings.Repeat("𝄞", n)), n <= 10)
	}
	for _, broken := range []string{"\x80", "\xc0\x80", "\xc1\xbf", "\xc3", "\xe6\x97", "\xe0\x80\x80", "\xed\xa0\x80", "\xf0\x9d\x84", "\xf4\x90\x80\x80", "\xf5\x80\x80\x80", "\xfe", "\xc3\xc3\xa9"} {
		expectRight(t, worded(chord("C4"), broken), false)
		expectRight(t, worded(chord("C4"), "la"+broken), false)
		expectRight(t, worded(chord("C4"), broken+"la"), false)
	}
}

// somePitches are right ones and wrong ones, all together.
func somePitches() []api.Pitch {
	var l []api.Pitch
	for step := -1; step <= 7; step++ {
		for alter := -3; alter <= 3; alter++ {
			for octave := -2; octave <= 10; octave++ {
				l = append(l, at(step, alter, octave))
			}
		}
	}
	return l
}

// place is where a pitch is in the order of right ones, by the words of chapter 2; false, if it is not right.
func place(p api.Pitch) (int, bool) {
	if p.Step < 0 || p.Step > 6 || p.Alter < -2 || p.Alter > 2 || p.Octave < -1 || p.Octave > 9 {
		return 0, false
	}
	number := 12*(p.Octave+1) + naturals[p.Step] + p.Alter
	return 1000*number + 7*p.Octave + p.Step, number >= 0 && number <= 127
}

func TestRightPitches(t *testing.T) {
	all := somePitches()
	for _, a := range all {
		placeA, okA := place(a)
		expectRight(t, pitched(chord("C4"), a), okA)
		for _, b := range all {
			placeB, okB := place(b)
			e := api.Event{Kind: api.Chord, Pitches: []api.Pitch{a, b}, Ties: []bool{true, false}}
			expectRight(t, e, okA && okB && placeA < placeB)
		}
	}
}

func TestRightCounts(t *testing.T) {
	for pitches := range 12 {
		for ties := range 12 {
			e := api.Event{Kind: api.Chord, Ties: make([]bool, ties)}
			for i := range pitches {
				e.Pitches = append(e.Pitches, at(i%7, 0, 3+i/7))
			}
			expectRight(t, e, pitches >= 1 && pitches <= 8 && pitches == ties)
			expectRight(t, kinded(e, api.Rest), pitches == 0 && ties == 0)
		}
	}
}

// P6.2

func TestSame(t *testing.T) {
	all := append(rights(), wrongs()...)
	for i, a := range all {
		for j, b := range all {
			if got := Same(a, copied(b)); got != (i == j) {
				t.Errorf("Same(%+v, %+v): %t", a, b, got)
			}
		}
	}
}

// unlike are events that are not as e is, in one thing each; e needs two pitches, two ties and two marks.
func unlike(e api.Event) []api.Event {
	var l []api.Event
	change := func(how func(e *api.Event)) {
		other := copied(e)
		how(&other)
		l = append(l, other)
	}
	for _, by := range []int{1, -1, math.MinInt, 1 << 32} {
		for i := range 2 {
			change(func(e *api.Event) { e.Pitches[i].Step += by })
			change(func(e *api.Event) { e.Pitches[i].Alter += by })
			change(func(e *api.Event) { e.Pitches[i].Octave += by })
			change(func(e *api.Event) { e.Marks[i] += by })
		}
		change(func(e *api.Event) { e.Kind += by })
		change(func(e *api.Event) { e.Value.Base += by })
		change(func(e *api.Event) { e.Value.Dots += by })
		change(func(e *api.Event) { e.Value.Num += by })
		change(func(e *api.Event) { e.Value.Den += by })
	}
	change(func(e *api.Event) { e.Ties[0] = !e.Ties[0] })
	change(func(e *api.Event) { e.Ties[1] = !e.Ties[1] })
	change(func(e *api.Event) { e.Pitches = e.Pitches[:1] })
	change(func(e *api.Event) { e.Pitches = e.Pitches[1:] })
	change(func(e *api.Event) { e.Pitches = nil })
	change(func(e *api.Event) { e.Pitches = append(e.Pitches, api.Pitch{}) })
	change(func(e *api.Event) { slices.Reverse(e.Pitches) })
	change(func(e *api.Event) { e.Ties = e.Ties[:1] })
	change(func(e *api.Event) { e.Ties = nil })
	change(func(e *api.Event) { e.Ties = append(e.Ties, false) })
	change(func(e *api.Event) { e.Marks = e.Marks[:1] })
	change(func(e *api.Event) { e.Marks = nil })
	change(func(e *api.Event) { e.Marks = append(e.Marks, 0) })
	change(func(e *api.Event) { slices.Reverse(e.Marks) })
	change(func(e *api.Event) { e.Word = "" })
	change(func(e *api.Event) { e.Word += "a" })
	change(func(e *api.Event) { e.Word += "\x00" })
	change(func(e *api.Event) { e.Word = e.Word[1:] })
	change(func(e *api.Event) { e.Word = strings.ToUpper(e.Word) })
	return l
}

func TestSameInEachField(t *testing.T) {
	rightOne := worded(marked(chord("C4 E4~"), 1, 3), "la")
	wrongOne := api.Event{Kind: 7, Pitches: []api.Pitch{at(9, 9, 9), at(-5, 0, 0)}, Ties: []bool{true, false}, Value: api.Value{Base: 99, Dots: -4, Num: 1, Den: 1}, Marks: []int{99, -99}, Word: "a\xff"}
	farOne := api.Event{Kind: math.MinInt, Pitches: []api.Pitch{at(math.MinInt, math.MaxInt, 0), at(math.MaxInt, 0, math.MinInt)}, Ties: []bool{true, false}, Value: api.Value{Base: math.MaxInt, Dots: math.MinInt, Num: math.MinInt, Den: math.MaxInt}, Marks: []int{math.MinInt, math.MaxInt}, Word: "b\x00"}
	for _, e := range []api.Event{rightOne, wrongOne, farOne} {
		if !Same(e, e) || !Same(e, copied(e)) {
			t.Errorf("Same: %+v is not as it is", e)
		}
		for _, other := range unlike(e) {
			if Same(e, other) || Same(other, e) {
				t.Errorf("Same: %+v is as %+v", e, other)
			}
			if !Same(other, copied(other)) {
				t.Errorf("Same: %+v is not as it is", other)
			}
		}
	}
}

func TestNilAndEmptyAreOne(t *testing.T) {
	empty := api.Event{Pitches: []api.Pitch{}, Ties: []bool{}, Marks: []int{}}
	if !Same(empty, api.Event{}) || !Same(api.Event{}, empty) || !Right(empty) {
		t.Error("empty lists are not as nil ones")
	}
	expectUp(t, empty, up(1, 2), api.Event{}, api.OK)
	expectChord(t, []api.Event{empty}, api.Event{}, api.OK)
	expectChord(t, []api.Event{}, api.Event{}, api.ErrArg)
}

// P6.3

func TestLength(t *testing.T) {
	for _, x := range []struct {
		v    api.Value
		want api.Ratio
	}{
		{api.Value{}, api.Ratio{Num: 1, Den: 1}}, {half, api.Ratio{Num: 1, Den: 2}}, {quarter, api.Ratio{Num: 1, Den: 4}}, {triplet, api.Ratio{Num: 1, Den: 12}}, {api.Value{Base: 3, Dots: 1}, api.Ratio{Num: 3, Den: 16}}, {api.Value{Base: 6, Dots: 2}, api.Ratio{Num: 7, Den: 256}}, {api.Value{Base: 6, Dots: 2, Num: 15, Den: 1}, api.Ratio{Num: 7, Den: 3840}}, {api.Value{Num: 2, Den: 15}, api.Ratio{Num: 15, Den: 2}},
	} {
		for _, e := range rights() {
			if n, errno := Length(valued(e, x.v)); n != x.want || errno != api.OK {
				t.Errorf("Length(%+v): %v error %d, want %v", valued(e, x.v), n, errno, x.want)
			}
		}
	}
	for _, e := range wrongs() {
		if n, errno := Length(e); n != (api.Ratio{}) || errno != api.ErrEvent {
			t.Errorf("Length(%+v): %v error %d, want ErrEvent", e, n, errno)
		}
	}
}

func TestLengthAll(t *testing.T) {
	for base := range 7 {
		for dots := range 3 {
			for num := 2; num <= 15; num++ {
				for den := 1; den <= 15; den++ {
					if num == den {
						continue
					}
					v := api.Value{Base: base, Dots: dots, Num: num, Den: den}
					quarters := []int64{4, 6, 7}[dots]
					want := big.NewRat(quarters*int64(den), int64(4*num)<<base)
					n, e := Length(valued(chord("C4 E4"), v))
					if e != api.OK || int64(n.Num) != want.Num().Int64() || int64(n.Den) != want.Denom().Int64() {
						t.Errorf("Length of %v: %v error %d, want %v", v, n, e, want)
					}
				}
			}
		}
	}
}

// P6.4

func expectUp(t *testing.T, e api.Event, by api.Interval, want api.Event, wantErr api.Errno) {
	t.Helper()
	if got, errno := Up(e, by); !equal(got, want) || errno != wantErr {
		t.Errorf("Up(%+v, %v): %+v error %d, want %+v error %d", e, by, got, errno, want, wantErr)
	}
}

func TestUpWritten(t *testing.T) {
	full := worded(marked(chord("C4 E4~ Bb4"), 1, 4), "la")
	expectUp(t, full, up(1, 2), worded(marked(chord("D4 F#4~ C5"), 1, 4), "la"), api.OK)
	expectUp(t, full, up(0, 0), full, api.OK)
	expectUp(t, full, up(-7, -12), worded(marked(chord("C3 E3~ Bb3"), 1, 4), "la"), api.OK)
	expectUp(t, valued(full, triplet), up(7, 12), valued(worded(marked(chord("C5 E5~ Bb5"), 1, 4), "la"), triplet), api.OK)
	expectUp(t, chord("B3 Cb4"), up(1, 1), chord("C4 Dbb4"), api.OK)
	expectUp(t, chord("B3 Cb4"), up(2, 3), chord("D4 Ebb4"), api.OK)
	expectUp(t, chord("C#4 Db4~"), up(0, 1), chord("C##4 D4~"), api.OK)
	expectUp(t, chord("C-1"), up(74, 127), chord("G9"), api.OK)
	expectUp(t, chord("G9~"), up(-74, -127), chord("C-1~"), api.OK)
	expectUp(t, chord("C4 D4 E4 F4 G4 A4 B4 C5"), up(2, 4), chord("E4 F#4 G#4 A4 B4 C#5 D#5 E5"), api.OK)
}

func TestUpErrorsWritten(t *testing.T) {
	for _, x := range []struct {
		names string
		by    api.Interval
	}{
		{"C4", up(0, 3)}, {"C4", up(0, -3)}, {"C4", up(1, 5)}, {"G9", up(0, 1)}, {"C-1", up(0, -1)}, {"C-1", up(-1, -1)}, {"C-1", up(-1, 0)}, {"G9", up(1, 2)},
		{"C4 C##5", up(0, 1)}, {"C4 Ebb4 G4", up(0, -1)}, {"C4 G9", up(1, 1)}, {"C-1 C4", up(-1, -2)}, {"C4 D4 E4 F4 G4 A4 B4 C##5", up(0, 1)},
		{"C4", up(math.MaxInt, math.MaxInt)}, {"C4", up(math.MinInt, math.MinInt)}, {"C4", up(0, math.MinInt)}, {"C4", up(math.MaxInt, 0)}, {"C4 G9", up(math.MinInt, math.MaxInt)}, {"C4", up(1<<32, 1<<32)},
	} {
		expectUp(t, chord(x.names), x.by, api.Event{}, api.ErrPitch)
	}
}

func TestUpOfRests(t *testing.T) {
	for _, r := range []api.Event{rest(), rest(api.Fermata), valued(rest(), triplet), {}} {
		for _, n := range append(far, 0, 1) {
			expectUp(t, r, up(n, n), r, api.OK)
			expectUp(t, r, up(0, n), r, api.OK)
			expectUp(t, r, up(n, 0), r, api.OK)
		}
	}
}

func TestUpOfWrongOnes(t *testing.T) {
	for _, e := range wrongs() {
		for _, by := range []api.Interval{{}, up(1, 2), up(0, 99), up(math.MaxInt, math.MinInt), up(math.MinInt, math.MinInt)} {
			expectUp(t, e, by, api.Event{}, api.ErrEvent)
		}
	}
}

// lift is what Up answers of a chord by the words of P6.4: pitches are looked for among all.
func lift(e api.Event, by api.Interval) (api.Event, api.Errno) {
	e = copied(e)
	for i, p := range e.Pitches {
		found := false
		for _, q := range candidates(p, by) {
			if _, ok := place(q); ok {
				e.Pitches[i], found = q, true
			}
		}
		if !found {
			return api.Event{}, api.ErrPitch
		}
	}
	return e, api.OK
}

// candidates are the pitches, right or not, that are so many lines and half tones above p.
func candidates(p api.Pitch, by api.Interval) []api.Pitch {
	var l []api.Pitch
	for step := range 7 {
		for octave := -1; octave <= 9; octave++ {
			alter := 12*(p.Octave-octave) + naturals[p.Step] - naturals[step] + p.Alter + by.Halves
			if 7*octave+step == 7*p.Octave+p.Step+by.Steps {
				l = append(l, at(step, alter, octave))
			}
		}
	}
	return l
}

func intervals() []api.Interval {
	var l []api.Interval
	for steps := -9; steps <= 9; steps++ {
		for halves := -16; halves <= 16; halves++ {
			l = append(l, up(steps, halves))
		}
	}
	return append(l, up(35, 60), up(-35, -60), up(74, 127), up(-74, -127), up(75, 128), up(70, 120), up(-70, -120))
}

// someChords are right chords with pitches near the ends, and with such as have one number.
func someChords() []api.Event {
	l := []api.Event{chord("C-1 D-1"), chord("C-1 B#-1 C0"), chord("E9 F9 G9"), chord("F##9~ G9 Abb9"), chord("Dbb-1 C##-1"), chord("Dbb4 C##4"), chord("B#3 C4 Dbb4"), chord("B##3 C#4~ Db4")}
	for _, e := range rights() {
		if e.Kind == api.Chord {
			l = append(l, e)
		}
	}
	return l
}

func TestUpAll(t *testing.T) {
	told := map[api.Errno]int{}
	for _, e := range someChords() {
		for _, by := range intervals() {
			want, wantErr := lift(e, by)
			expectUp(t, e, by, want, wantErr)
			told[wantErr]++
		}
	}
	if told[api.OK] < 500 || told[api.ErrPitch] < 500 {
		t.Errorf("too few intervals are borne, or too few are not: %v", told)
	}
}

// TestRisingStaysRising goes through every two right pitches that stand next to each other in the order: what both bear leaves them so, thus no interval makes an event that is not right.
func TestRisingStaysRising(t *testing.T) {
	var all []api.Pitch
	for _, p := range somePitches() {
		if _, ok := place(p); ok {
			all = append(all, p)
		}
	}
	slices.SortFunc(all, func(a, b api.Pitch) int {
		placeA, _ := place(a)
		placeB, _ := place(b)
		return placeA - placeB
	})
	for i := 1; i < len(all); i++ {
		e := api.Event{Kind: api.Chord, Pitches: all[i-1 : i+1], Ties: []bool{false, true}}
		for _, by := range intervals() {
			if got, errno := Up(e, by); errno != api.ErrPitch && (errno != api.OK || !Right(got)) {
				t.Errorf("Up(%+v, %v): %+v error %d", e, by, got, errno)
			}
		}
	}
}

// P6.5

func expectChord(t *testing.T, l []api.Event, want api.Event, wantErr api.Errno) {
	t.Helper()
	if got, errno := Chord(l); !equal(got, want) || errno != wantErr {
		t.Errorf("Chord(%+v): %+v error %d, want %+v error %d", l, got, errno, want, wantErr)
	}
}

func events(l ...api.Event) []api.Event { return l }

func TestChordWritten(t *testing.T) {
	expectChord(t, events(chord("C4~"), chord("E4")), chord("C4~ E4"), api.OK)
	expectChord(t, events(chord("E4"), chord("C4~")), chord("C4~ E4"), api.OK)
	expectChord(t, events(chord("C4 G4"), chord("E4 G4")), chord("C4 E4 G4"), api.OK)
	expectChord(t, events(chord("G4 C5"), chord("E4"), chord("C4 D4")), chord("C4 D4 E4 G4 C5"), api.OK)
	expectChord(t, events(chord("Cb4"), chord("B3")), chord("B3 Cb4"), api.OK)
	expectChord(t, events(chord("Db4~"), chord("C#4")), chord("C#4 Db4~"), api.OK)
	expectChord(t, events(chord("C#4 Db4"), chord("C#4~ Db4")), chord("C#4~ Db4"), api.OK)
	expectChord(t, events(rest(), chord("C4~")), chord("C4~"), api.OK)
	expectChord(t, events(chord("C4~"), rest()), chord("C4~"), api.OK)
	expectChord(t, events(chord("C4 E4"), rest(4), chord("E4~ G4")), marked(chord("C4 E4~ G4"), 4), api.OK)
	expectChord(t, events(rest(), rest()), rest(), api.OK)
	expectChord(t, events(rest(), rest(4), rest()), rest(4), api.OK)
	expectChord(t, events(rest(4), rest(4)), rest(4), api.OK)
	expectChord(t, slices.Repeat(events(chord("C4"), chord("E4~"), rest(4)), 10000), marked(chord("C4 E4~"), 4), api.OK)
	expectChord(t, events(valued(chord("C4"), triplet), valued(chord("E4"), triplet), valued(rest(), triplet)), valued(chord("C4 E4"), triplet), api.OK)
}

func TestChordTies(t *testing.T) {
	expectChord(t, events(chord("C4~"), chord("C4")), chord("C4~"), api.OK)
	expectChord(t, events(chord("C4"), chord("C4~")), chord("C4~"), api.OK)
	expectChord(t, events(chord("C4~"), chord("C4~")), chord("C4~"), api.OK)
	expectChord(t, events(chord("C4"), chord("C4")), chord("C4"), api.OK)
	expectChord(t, events(chord("C4"), chord("C4~"), chord("C4")), chord("C4~"), api.OK)
	expectChord(t, events(chord("C4~ E4"), chord("C4 E4~")), chord("C4~ E4~"), api.OK)
	expectChord(t, events(chord("E4~ G4"), chord("C4 E4")), chord("C4 E4~ G4"), api.OK)
}

func TestChordMarks(t *testing.T) {
	expectChord(t, events(marked(chord("C4"), 2, 4), marked(chord("E4"), 1, 4)), marked(chord("C4 E4"), 1, 2, 4), api.OK)
	expectChord(t, events(marked(chord("C4"), 4), marked(chord("C4"), 3), marked(chord("C4"), 2), marked(chord("C4"), 1)), marked(chord("C4"), 1, 2, 3, 4), api.OK)
	expectChord(t, events(marked(chord("C4"), 1, 2, 3, 4), marked(chord("C4"), 1, 2, 3, 4)), marked(chord("C4"), 1, 2, 3, 4), api.OK)
	expectChord(t, events(chord("C4"), marked(chord("E4"), 3)), marked(chord("C4 E4"), 3), api.OK)
	expectChord(t, events(marked(chord("C4"), 3), rest(4)), marked(chord("C4"), 3, 4), api.OK)
}

func TestChordWords(t *testing.T) {
	c, e, both := chord("C4"), chord("E4"), chord("C4 E4")
	expectChord(t, events(worded(c, "a"), e), worded(both, "a"), api.OK)
	expectChord(t, events(c, worded(e, "b")), worded(both, "b"), api.OK)
	expectChord(t, events(worded(c, "a"), worded(e, "b")), worded(both, "a"), api.OK)
	expectChord(t, events(worded(e, "b"), worded(c, "a")), worded(both, "b"), api.OK)
	expectChord(t, events(c, e), both, api.OK)
	expectChord(t, events(rest(), c, worded(e, forty), worded(c, "a")), worded(both, forty), api.OK)
	expectChord(t, events(worded(c, " "), worded(e, "b")), worded(both, " "), api.OK)
}

func TestChordErrors(t *testing.T) {
	wrong, long := kinded(chord("C4"), 2), valued(chord("C4"), half)
	for _, x := range []struct {
		l    []api.Event
		want api.Errno
	}{
		{nil, api.ErrArg}, {events(), api.ErrArg},
		{events(chord("C4"), long), api.ErrArg}, {events(long, chord("C4")), api.ErrArg}, {events(rest(), valued(rest(), half)), api.ErrArg}, {events(chord("C4"), valued(rest(), half)), api.ErrArg}, {events(chord("C4"), chord("E4"), long), api.ErrArg}, {events(long, chord("C4"), long), api.ErrArg},
		// As long, and not of one value.
		{events(valued(rest(), api.Value{Base: 2, Num: 3, Den: 2}), valued(rest(), api.Value{Base: 2, Num: 6, Den: 4})), api.ErrArg}, {events(valued(rest(), api.Value{Base: 2}), valued(rest(), api.Value{Base: 3, Num: 2, Den: 4})), api.ErrArg},
		// Unlike in one of the value's fields.
		{events(valued(rest(), api.Value{Base: 3}), valued(rest(), api.Value{Base: 3, Dots: 1})), api.ErrArg}, {events(valued(rest(), triplet), valued(rest(), api.Value{Base: 3, Num: 5, Den: 2})), api.ErrArg}, {events(valued(rest(), triplet), valued(rest(), api.Value{Base: 3, Num: 3, Den: 1})), api.ErrArg},
		// What is not right is told ahead of unlike values, wherever it stands, and whatever stands there else.
		{events(wrong), api.ErrEvent}, {events(wrong, wrong), api.ErrEvent}, {events(chord("C4"), wrong), api.ErrEvent}, {events(wrong, chord("C4")), api.ErrEvent}, {events(long, chord("C4"), wrong), api.ErrEvent}, {events(wrong, long, chord("C4")), api.ErrEvent}, {events(long, wrong, chord("C4")), api.ErrEvent}, {events(chord(nine), long), api.ErrEvent},
		// Too many pitches together; unlike values are told ahead of that.
		{events(chord(eight), chord("D5")), api.ErrEvent}, {events(chord("D5"), chord(eight)), api.ErrEvent}, {events(chord("B#3"), chord(eight)), api.ErrEvent}, {events(chord("C4 D4 E4 F4"), chord("G4 A4 B4"), chord("C5 D5")), api.ErrEvent}, {events(chord(eight), chord("D5"), long), api.ErrArg},
	} {
		expectChord(t, x.l, api.Event{}, x.want)
	}
}

func TestChordOfEightPitches(t *testing.T) {
	expectChord(t, events(chord("C4 D4 E4 F4"), chord("G4 A4 B4 C5")), chord(eight), api.OK)
	expectChord(t, events(chord(eight), chord(eight), chord("G4~")), chord("C4 D4 E4 F4 G4~ A4 B4 C5"), api.OK)
	expectChord(t, events(chord("C4"), chord("B#3"), chord("Dbb4"), chord("C#4"), chord("Db4"), chord("B##3"), chord("D4"), chord("C##4")), chord("B#3 C4 Dbb4 B##3 C#4 Db4 C##4 D4"), api.OK)
}

func TestChordOfWrongOnes(t *testing.T) {
	for _, wrong := range wrongs() {
		expectChord(t, events(wrong), api.Event{}, api.ErrEvent)
		expectChord(t, events(wrong, chord("C4")), api.Event{}, api.ErrEvent)
		expectChord(t, events(valued(rest(), half), chord("C4"), wrong), api.Event{}, api.ErrEvent)
	}
}

// joined is what Chord answers of right events of one value by the words of P6.5: each pitch and mark that there is is asked for.
func joined(l []api.Event) (api.Event, api.Errno) {
	one := api.Event{Value: l[0].Value}
	for _, p := range slices.SortedFunc(slices.Values(somePitches()), func(a, b api.Pitch) int {
		placeA, _ := place(a)
		placeB, _ := place(b)
		return placeA - placeB
	}) {
		has, tied := false, false
		for _, e := range l {
			if i := slices.Index(e.Pitches, p); i >= 0 {
				has, tied = true, tied || e.Ties[i]
			}
		}
		if has {
			one.Kind, one.Pitches, one.Ties = api.Chord, append(one.Pitches, p), append(one.Ties, tied)
		}
	}
	for mark := 1; mark <= 4; mark++ {
		if slices.ContainsFunc(l, func(e api.Event) bool { return slices.Contains(e.Marks, mark) }) {
			one.Marks = append(one.Marks, mark)
		}
	}
	for _, e := range slices.Backward(l) {
		if e.Word != "" {
			one.Word = e.Word
		}
	}
	if len(one.Pitches) > 8 {
		return api.Event{}, api.ErrEvent
	}
	return one, api.OK
}

func TestChordAll(t *testing.T) {
	told := map[api.Errno]int{}
	all := rights()
	for i, a := range all {
		for j, b := range all {
			c := all[(7*i+11*j)%len(all)]
			for _, l := range [][]api.Event{events(a, b), events(a, valued(b, a.Value)), events(a, valued(b, a.Value), valued(c, a.Value))} {
				want, wantErr := joined(l)
				if l[1].Value != a.Value {
					want, wantErr = api.Event{}, api.ErrArg
				}
				expectChord(t, l, want, wantErr)
				told[wantErr]++
			}
		}
	}
	for _, e := range []api.Errno{api.OK, api.ErrArg, api.ErrEvent} {
		if told[e] < 100 {
			t.Errorf("error %d is to be told %d times alone", e, told[e])
		}
	}
}

// P6.6

func TestTied(t *testing.T) {
	for _, e := range rights() {
		want := false
		for _, tied := range e.Ties {
			want = want || tied
		}
		if Tied(e) != want {
			t.Errorf("Tied(%+v): %t", e, !want)
		}
	}
	for _, e := range wrongs() {
		if Tied(e) {
			t.Errorf("Tied(%+v): an event that is not right is tied", e)
		}
	}
	for _, names := range []string{"C4~", "C4~ E4", "C4 E4~", "C4 E4~ G4", "C4 D4 E4 F4 G4 A4 B4 C5~"} {
		if e := chord(names); !Tied(e) || Tied(worded(e, "\n")) || Tied(kinded(e, api.Rest)) || Tied(valued(e, api.Value{Base: 7})) || Tied(tiesOf(e)) {
			t.Errorf("Tied of %s, or of what is not right about it", names)
		}
	}
}

// P6.7

func TestUpAndDownAgain(t *testing.T) {
	back := 0
	for _, e := range append(someChords(), rest(), rest(4)) {
		for _, by := range intervals() {
			high, errno := Up(e, by)
			if errno != api.OK {
				continue
			}
			expectUp(t, high, up(-by.Steps, -by.Halves), e, api.OK)
			back++
		}
	}
	if back < 1000 {
		t.Errorf("%d ways up alone", back)
	}
}

func TestChordOfOneIsThatOne(t *testing.T) {
	for _, e := range append(someChords(), rights()...) {
		expectChord(t, events(e), e, api.OK)
		expectChord(t, events(e, e), e, api.OK)
		expectChord(t, events(e, e, e), e, api.OK)
	}
}

func TestChordInEitherTurn(t *testing.T) {
	for _, a := range rights() {
		for _, b := range rights() {
			b = valued(b, a.Value)
			there, errThere := Chord(events(a, b))
			back, errBack := Chord(events(b, a))
			if a.Word == "" || b.Word == "" || a.Word == b.Word {
				if !equal(there, back) {
					t.Errorf("Chord of %+v and %+v: %+v, and %+v", a, b, there, back)
				}
			}
			if errThere != errBack || !equal(worded(there, ""), worded(back, "")) {
				t.Errorf("Chord of %+v and %+v: %+v error %d, and %+v error %d", a, b, there, errThere, back, errBack)
			}
		}
	}
}

func TestLengthHangsOnNoPitches(t *testing.T) {
	for _, v := range []api.Value{{}, half, quarter, triplet, {Base: 6, Dots: 2, Num: 15, Den: 14}} {
		want, _ := value.Length(v)
		for _, e := range rights() {
			if n, errno := Length(valued(e, v)); n != want || errno != api.OK {
				t.Errorf("Length(%+v): %v error %d, want %v", valued(e, v), n, errno, want)
			}
		}
	}
}

// What all calls keep to: what is handed in is left, what is answered is new.

// roomy is an event whose lists have spare room with something in it.
func roomy() api.Event {
	return api.Event{
		Kind: api.Chord, Value: quarter, Word: "la",
		Pitches: []api.Pitch{at(0, 0, 4), at(2, 0, 4), at(6, 0, 6), at(6, 0, 6)}[:2],
		Ties:    []bool{true, false, true, true}[:2],
		Marks:   []int{2, 4, 9, 9}[:2],
	}
}

// opened is an event whose lists have their spare room too.
func opened(e api.Event) api.Event {
	e.Pitches, e.Ties, e.Marks = e.Pitches[:cap(e.Pitches)], e.Ties[:cap(e.Ties)], e.Marks[:cap(e.Marks)]
	return e
}

// spoil writes into the lists of an event and their spare room.
func spoil(e api.Event) {
	e = opened(e)
	for i := range e.Pitches {
		e.Pitches[i] = at(-9, -9, -9)
	}
	for i := range e.Ties {
		e.Ties[i] = !e.Ties[i]
	}
	for i := range e.Marks {
		e.Marks[i] = -9
	}
}

// calls are those that answer an event.
func calls() []func(e, with api.Event) (api.Event, api.Errno) {
	return []func(e, with api.Event) (api.Event, api.Errno){
		func(e, with api.Event) (api.Event, api.Errno) { return Up(e, up(1, 2)) },
		func(e, with api.Event) (api.Event, api.Errno) { return Up(e, up(0, 0)) },
		func(e, with api.Event) (api.Event, api.Errno) { return Chord(events(e)) },
		func(e, with api.Event) (api.Event, api.Errno) { return Chord(events(e, with)) },
		func(e, with api.Event) (api.Event, api.Errno) { return Chord(events(with, e)) },
	}
}

func TestAnswersAreNewMemory(t *testing.T) {
	for i, call := range calls() {
		e, with := roomy(), chord("C4 D4~")
		first, _ := call(e, with)
		spoiled, _ := call(e, with)
		kept := copied(first)
		spoil(spoiled)
		if !equal(first, kept) || !equal(opened(e), opened(roomy())) || !equal(with, chord("C4 D4~")) {
			t.Errorf("call %d: what is answered shares its memory", i)
		}
		spoil(e)
		spoil(with)
		if !equal(first, kept) {
			t.Errorf("call %d: what is handed in is kept", i)
		}
	}
}

func TestWhatIsHandedInIsLeft(t *testing.T) {
	for i, call := range calls() {
		e, with := roomy(), roomy()
		if _, errno := call(e, with); errno != api.OK {
			t.Errorf("call %d: error %d", i, errno)
		}
		if !equal(opened(e), opened(roomy())) || !equal(opened(with), opened(roomy())) {
			t.Errorf("call %d: wrote into what was handed in: %+v, %+v", i, opened(e), opened(with))
		}
	}
	e := roomy()
	Right(e)
	Same(e, e)
	Length(e)
	Tied(e)
	Up(e, up(0, 99))
	if !equal(opened(e), opened(roomy())) {
		t.Errorf("wrote into what was handed in: %+v", opened(e))
	}
	l := []api.Event{chord("E4"), chord("C4"), chord("G4"), kinded(rest(), 7)}
	Chord(l[:3])
	for i, want := range []api.Event{chord("E4"), chord("C4"), chord("G4"), kinded(rest(), 7)} {
		if !equal(l[i], want) {
			t.Errorf("Chord wrote into its list: %+v", l)
		}
	}
}
