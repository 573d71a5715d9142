package voice

import (
	"fmt"
	"math"
	"math/big"
	"slices"
	"strconv"
	"strings"
	"testing"

	"partita/api"
	"partita/pitch"
	"partita/value"
)

func of(num, den int) api.Ratio { return api.Ratio{Num: num, Den: den} }

func at(step, alter, octave int) api.Pitch {
	return api.Pitch{Step: step, Alter: alter, Octave: octave}
}

func named(name string) api.Pitch {
	p, e := pitch.Read(name)
	if e != api.OK {
		panic(name)
	}
	return p
}

// written is an event such as "4. C4~ E4 !13": a value, pitches (a ~ behind those that are tied), marks. One without pitches is a rest.
func written(text string) api.Event {
	words := strings.Fields(text)
	v, errno := value.Read(words[0])
	if errno != api.OK {
		panic(text)
	}
	e := api.Event{Kind: api.Rest, Value: v}
	for _, word := range words[1:] {
		if marks, ok := strings.CutPrefix(word, "!"); ok {
			for _, digit := range marks {
				e.Marks = append(e.Marks, int(digit-'0'))
			}
			continue
		}
		name, tied := strings.CutSuffix(word, "~")
		e.Kind, e.Pitches, e.Ties = api.Chord, append(e.Pitches, named(name)), append(e.Ties, tied)
	}
	return e
}

// sung is a voice of such events with bars between.
func sung(text string) api.Voice {
	var v api.Voice
	for _, e := range strings.FieldsFunc(text, func(r rune) bool { return r == '|' }) {
		v.L = append(v.L, written(e))
	}
	return v
}

func voiceOf(l ...api.Event) api.Voice { return api.Voice{L: l} }

func repeated(text string, n int) api.Voice {
	return voiceOf(slices.Repeat([]api.Event{written(text)}, n)...)
}

// together is one voice of several, one behind the other.
func together(l ...api.Voice) api.Voice {
	var v api.Voice
	for _, part := range l {
		v.L = append(v.L, part.L...)
	}
	return v
}

func changed(e api.Event, how func(*api.Event)) api.Event {
	e = copied(e)
	how(&e)
	return e
}

// wrongs are events that are not right.
func wrongs() []api.Event {
	rest, chord := written("4"), written("4 C4~ E4 !13")
	l := []api.Event{
		{Kind: 2}, {Kind: -1}, {Kind: api.Chord}, {Kind: api.Chord, Ties: []bool{true}}, {Kind: api.Chord, Pitches: []api.Pitch{at(0, 0, 4)}},
		changed(rest, func(e *api.Event) { e.Pitches, e.Ties = []api.Pitch{at(0, 0, 4)}, []bool{true} }),
		changed(rest, func(e *api.Event) { e.Word = "la" }),
		changed(rest, func(e *api.Event) { e.Marks = []int{api.Accent} }),
		changed(rest, func(e *api.Event) { e.Value.Base = 7 }),
		changed(chord, func(e *api.Event) { slices.Reverse(e.Pitches) }),
		changed(chord, func(e *api.Event) { e.Pitches[1] = e.Pitches[0] }),
		changed(chord, func(e *api.Event) { e.Ties = e.Ties[:1] }),
		changed(chord, func(e *api.Event) { e.Ties = nil }),
		changed(chord, func(e *api.Event) { e.Ties = append(e.Ties, true) }),
		changed(chord, func(e *api.Event) { e.Marks = []int{3, 1} }),
		changed(chord, func(e *api.Event) { e.Word = "\xff" }),
		changed(chord, func(e *api.Event) { e.Value.Num = 3 }),
		changed(chord, func(e *api.Event) { e.Kind = api.Rest }),
	}
	for _, n := range []int{math.MaxInt, math.MinInt, math.MinInt + 1, 1 << 32} {
		l = append(l, api.Event{Kind: n},
			changed(chord, func(e *api.Event) { e.Pitches[0] = at(n, n, n) }),
			changed(chord, func(e *api.Event) { e.Pitches[1].Octave = n }),
			changed(chord, func(e *api.Event) { e.Marks[1] = n }),
			changed(rest, func(e *api.Event) { e.Value = api.Value{Base: n, Dots: n, Num: n, Den: n} }))
	}
	return l
}

// copied is an event of memory of its own.
func copied(e api.Event) api.Event {
	e.Pitches, e.Ties, e.Marks = slices.Clone(e.Pitches), slices.Clone(e.Ties), slices.Clone(e.Marks)
	return e
}

func copiedVoice(v api.Voice) api.Voice {
	var w api.Voice
	for _, e := range v.L {
		w.L = append(w.L, copied(e))
	}
	return w
}

// shown is a voice as it is told of where a test fails: the first few events of many.
func shown(v api.Voice) string {
	few := v.L[:min(len(v.L), 6)]
	return fmt.Sprintf("%d events %+v", len(v.L), few)
}

// equalEvents and equalVoices hold events against each other apart from the packages.
func equalEvents(a, b api.Event) bool {
	return a.Kind == b.Kind && a.Value == b.Value && a.Word == b.Word && slices.Equal(a.Pitches, b.Pitches) && slices.Equal(a.Ties, b.Ties) && slices.Equal(a.Marks, b.Marks)
}

func equalVoices(a, b api.Voice) bool { return slices.EqualFunc(a.L, b.L, equalEvents) }

func equalSounds(a, b []api.Sound) bool {
	return slices.EqualFunc(a, b, func(a, b api.Sound) bool {
		return a.Pitch == b.Pitch && a.At == b.At && a.Length == b.Length && slices.Equal(a.Marks, b.Marks)
	})
}

// What is told of a voice by the chapter's words, in numbers of any size.

func exact(a api.Ratio) *big.Rat { return big.NewRat(int64(a.Num), int64(a.Den)) }

// fits tells whether a number of any size is a right ratio.
func fits(r *big.Rat) bool {
	most := big.NewInt(1000000000)
	return r.Num().CmpAbs(most) <= 0 && r.Denom().Cmp(most) <= 0
}

func right(r *big.Rat) api.Ratio { return of(int(r.Num().Int64()), int(r.Denom().Int64())) }

func plus(a, b *big.Rat) *big.Rat { return new(big.Rat).Add(a, b) }

// long is how long a right event is.
func long(e api.Event) *big.Rat {
	r := big.NewRat([]int64{4, 6, 7}[e.Value.Dots], 4<<e.Value.Base)
	if e.Value.Num != 0 {
		r.Mul(r, big.NewRat(int64(e.Value.Den), int64(e.Value.Num)))
	}
	return r
}

// places are those at which the events of a right voice begin, and that at which the last one ends.
func places(v api.Voice) []*big.Rat {
	l := []*big.Rat{new(big.Rat)}
	for i, e := range v.L {
		l = append(l, plus(l[i], long(e)))
	}
	return l
}

func ties(e api.Event, p api.Pitch) bool {
	i := slices.Index(e.Pitches, p)
	return i >= 0 && e.Ties[i]
}

// chain are the lengths of a pitch's sound, as the events that it is tied through are added one by one.
func chain(v api.Voice, from int, p api.Pitch) []*big.Rat {
	l := []*big.Rat{long(v.L[from])}
	for i := from; ties(v.L[i], p) && i+1 < len(v.L); i++ {
		l = append(l, plus(l[len(l)-1], long(v.L[i+1])))
	}
	return l
}

// heard are the sounds of a voice that Check lets through.
func heard(v api.Voice) ([]api.Sound, api.Errno) {
	begins := places(v)
	for _, r := range begins {
		if !fits(r) {
			return nil, api.ErrRatio
		}
	}
	var l []api.Sound
	for i, e := range v.L {
		for _, p := range e.Pitches {
			if i > 0 && ties(v.L[i-1], p) {
				continue
			}
			lengths := chain(v, i, p)
			length := lengths[len(lengths)-1]
			if !fits(length) {
				return nil, api.ErrRatio
			}
			l = append(l, api.Sound{Pitch: p, At: right(begins[i]), Length: right(length), Marks: e.Marks})
		}
	}
	return l, api.OK
}

// checked is what Check tells of a voice of at most 64 events, of which those that are not right are known.
func checked(v api.Voice, known func(api.Event) bool) (int, api.Errno) {
	for i, e := range v.L {
		if !known(e) {
			return i, api.ErrEvent
		}
	}
	for i := 0; i+1 < len(v.L); i++ {
		for _, p := range v.L[i].Pitches {
			if ties(v.L[i], p) && !slices.Contains(v.L[i+1].Pitches, p) {
				return i, api.ErrTie
			}
		}
	}
	return 0, api.OK
}

func everyOne(api.Event) bool { return true }

// Voices to be asked about.

// letters are the events of small voices.
func letters() []api.Event {
	var l []api.Event
	for _, text := range []string{"4", "8*3:2 !4", "4 C4", "2 C4~ !3", "8 C4 E4 !24", "4 C4~ E4", "4. C4 E4~ !1", "8*3:2 C4~ E4~", "16*5:4 B#3~ !1234", "4 B#3 C4~", "2.. C4 G4"} {
		l = append(l, written(text))
	}
	return l
}

// words goes through all voices of at most so many of some events.
func words(most int, events []api.Event, yield func(api.Voice)) {
	var longer func(v api.Voice)
	longer = func(v api.Voice) {
		yield(v)
		if len(v.L) == most {
			return
		}
		for _, e := range events {
			longer(voiceOf(append(slices.Clone(v.L), e)...))
		}
	}
	longer(api.Voice{})
}

// dice are numbers below those asked for, always the same ones.
func dice() func(n int) int {
	state := uint64(7)
	return func(n int) int {
		state = state*6364136223846793005 + 1442695040888963407
		return int(state>>33) % n
	}
}

// thrown is a voice of so many events, with ties that lead somewhere.
func thrown(next func(int) int, n int) api.Voice {
	names := []string{"B3", "Cb4", "C4", "C#4", "Db4", "E4", "G4", "C5"}
	values := []string{"1", "2", "4", "8", "16", "2.", "4.", "8..", "8*3:2", "4*3:2", "16*5:4", "8*7:4", "4*11:8", "8*13:12", "16*9:8"}
	var v api.Voice
	for range n {
		e := written(values[next(len(values))])
		for _, name := range names {
			if next(3) == 0 {
				e.Kind, e.Pitches, e.Ties = api.Chord, append(e.Pitches, named(name)), append(e.Ties, false)
			}
		}
		for mark := api.Staccato; e.Kind == api.Chord && mark <= api.Fermata; mark++ {
			if next(4) == 0 {
				e.Marks = append(e.Marks, mark)
			}
		}
		v.L = append(v.L, e)
	}
	for i, e := range v.L {
		for k, p := range e.Pitches {
			e.Ties[k] = next(3) > 0 && (i+1 == n || slices.Contains(v.L[i+1].Pitches, p))
		}
	}
	return v
}

// someVoices are such that Check lets through: small ones, and thrown ones of up to 64 events.
func someVoices() []api.Voice {
	var l []api.Voice
	words(3, letters(), func(v api.Voice) {
		if _, e := checked(v, everyOne); e == api.OK {
			l = append(l, v)
		}
	})
	next := dice()
	for n := range 65 {
		for range 4 {
			l = append(l, thrown(next, n))
		}
	}
	return l
}

// Pieces of unlike tuplets have, together, too great terms for a ratio beside a great length; with what they lack each of them is an eighth, or 7/128.
const (
	pieces = "64..*8:1|8*13:1|8*11:1|8*9:1|8*7:1|8*5:1"
	lacks  = "64..*8:15|8*13:12|8*11:10|8*9:8|8*7:6|8*5:4"
	great  = "1..*2:15"
)

// tiedC is a voice whose events are all C4, each tied to the next.
func tiedC(text string) api.Voice {
	v := sung(text)
	for i := range v.L {
		v.L[i].Kind, v.L[i].Pitches, v.L[i].Ties = api.Chord, []api.Pitch{named("C4")}, []bool{true}
	}
	return v
}

// P7.1

func expectCheck(t *testing.T, v api.Voice, want int, wantErr api.Errno) {
	t.Helper()
	if k, e := Check(v); k != want || e != wantErr {
		t.Errorf("Check(%s): %d error %d, want %d error %d", shown(v), k, e, want, wantErr)
	}
}

func TestCheckWritten(t *testing.T) {
	for _, x := range []struct {
		text string
		want int
		e    api.Errno
	}{
		{"", 0, api.OK}, {"4", 0, api.OK}, {"4 C4", 0, api.OK}, {"4 C4|4 C4", 0, api.OK}, {"4 C4 E4|4|2", 0, api.OK},
		// Ties to an event that has the pitch, alone or beside others, and to several events.
		{"4 C4~|4 C4", 0, api.OK}, {"4 C4~|1.. C4 E4", 0, api.OK}, {"4 C4~|4 C4~|4 C4", 0, api.OK}, {"4 C4~ E4|4 C4 G4", 0, api.OK}, {"4 C4 E4~|4 E4 G4", 0, api.OK}, {"4 C4~ E4~|4 B3 C4 D4 E4", 0, api.OK}, {"4 C4~|4 B3 C4 E4~|4 E4", 0, api.OK},
		// Ties of the last event.
		{"4 C4~", 0, api.OK}, {"4 C4~ E4~", 0, api.OK}, {"4|4 C4~", 0, api.OK}, {"4 C4~|4 C4~", 0, api.OK},
		// Ties to an event that has not the pitch, to a rest, to the same number by another name, to another octave.
		{"4 C4~|4 D4", 0, api.ErrTie}, {"4 C4~|4", 0, api.ErrTie}, {"4 C4~|4|4 C4", 0, api.ErrTie}, {"4 C4~|4 B#3", 0, api.ErrTie}, {"4 B#3~|4 C4", 0, api.ErrTie}, {"4 C#4~|4 Db4", 0, api.ErrTie}, {"4 C4~|4 C5", 0, api.ErrTie}, {"4 C4~|4 C#4", 0, api.ErrTie}, {"4 C4~|4 B#3 Dbb4", 0, api.ErrTie},
		{"4 C4~ E4|4 E4", 0, api.ErrTie}, {"4 C4 E4~|4 C4", 0, api.ErrTie}, {"4 C4~ E4~|4 C4", 0, api.ErrTie}, {"4 C4~ E4~|4 E4", 0, api.ErrTie}, {"4 C4~ E4~ G4~|4 C4 E4", 0, api.ErrTie},
		{"4|4|4 C4~|4", 2, api.ErrTie}, {"4 C4~|4 C4~|4 E4", 1, api.ErrTie}, {"4|4 C4~|4 C4 E4~|4 C4", 2, api.ErrTie},
		// Several that lead nowhere.
		{"4 C4~|4 E4~|4 G4~|4", 0, api.ErrTie}, {"4|4 E4~|4 G4~|4 C4~", 1, api.ErrTie},
	} {
		expectCheck(t, sung(x.text), x.want, x.e)
	}
	expectCheck(t, voiceOf([]api.Event{}...), 0, api.OK)
	expectCheck(t, voiceOf(api.Event{}), 0, api.OK) // a whole rest
}

func TestCheckCounts(t *testing.T) {
	for n := range 65 {
		expectCheck(t, repeated("4 C4~", n), 0, api.OK)
		expectCheck(t, repeated("4", n), 0, api.OK)
	}
	tooMany := []int{65, 66, 100, 1000, 100000}
	for _, n := range tooMany {
		expectCheck(t, repeated("4", n), 64, api.ErrVoice)
		expectCheck(t, repeated("4 C4~", n), 64, api.ErrVoice)
	}
	for _, n := range tooMany { // with other errors, each at the beginning and at the end
		for _, other := range []api.Event{{Kind: 2}, {Kind: math.MinInt}, written("4 C4~")} {
			v := repeated("4", n)
			v.L[0], v.L[n-2] = other, other
			expectCheck(t, v, 64, api.ErrVoice)
		}
	}
}

func TestCheckWrongEvents(t *testing.T) {
	for _, wrong := range wrongs() {
		for _, n := range []int{1, 2, 3, 5, 64} {
			for _, text := range []string{"4", "4 C4 E4", "4 C4~"} {
				for k := range n {
					v := repeated(text, n)
					v.L[k] = wrong
					expectCheck(t, v, k, api.ErrEvent)
					v.L[n-1] = wrong // a second one behind it
					expectCheck(t, v, k, api.ErrEvent)
				}
			}
		}
	}
}

func TestCheckWrongEventsBesideTies(t *testing.T) {
	lost, rest := written("4 C4~"), written("4")
	for _, wrong := range wrongs() {
		expectCheck(t, voiceOf(lost, wrong), 1, api.ErrEvent)
		expectCheck(t, voiceOf(wrong, lost, rest), 0, api.ErrEvent)
		expectCheck(t, voiceOf(lost, rest, wrong), 2, api.ErrEvent)
		expectCheck(t, voiceOf(lost, wrong, lost, rest), 1, api.ErrEvent)
		expectCheck(t, voiceOf(lost, lost, rest, rest, wrong, wrong), 4, api.ErrEvent)
		v := repeated("4 C4~", 64)
		v.L[1], v.L[63] = rest, wrong
		expectCheck(t, v, 63, api.ErrEvent)
	}
}

func TestCheckAll(t *testing.T) {
	wrong := []api.Event{{Kind: 2}, {Kind: api.Chord, Pitches: []api.Pitch{named("C4")}}}
	known := func(e api.Event) bool { return e.Kind != 2 && len(e.Pitches) == len(e.Ties) }
	told := map[api.Errno]int{}
	words(4, append(letters(), wrong...), func(v api.Voice) {
		k, e := checked(v, known)
		expectCheck(t, v, k, e)
		told[e]++
	})
	for _, e := range []api.Errno{api.OK, api.ErrEvent, api.ErrTie} {
		if told[e] < 1000 {
			t.Errorf("error %d is to be told %d times alone", e, told[e])
		}
	}
}

// P7.2

func TestSame(t *testing.T) {
	l := []api.Voice{
		{}, sung("4"), sung("4|4"), sung("4|4|4"), sung("2"), sung("4|2"), sung("2|4"), sung("4 C4"), sung("4 C4~"), sung("4 B#3"), sung("4 C4|4"), sung("4|4 C4"), sung("4 C4|4 C4"), sung("4 C4~|4 C4"), sung("4 C4|4 C4~"), sung("4 C4 E4|4 C4"), sung("4 C4|4 C4 !1"), sung("4 C4 !1|4 C4"), sung("4 C4 !1|4 C4 !1"), sung("8*3:2|4|4"),
		repeated("4", 63), repeated("4", 64), repeated("4", 65), repeated("4", 1000), repeated("4 C4~", 64), together(repeated("4", 63), sung("2")), together(sung("2"), repeated("4", 63)), together(repeated("4", 31), sung("2"), repeated("4", 32)),
	}
	for i, wrong := range wrongs() {
		if i == 0 || !slices.ContainsFunc(wrongs()[:i], func(e api.Event) bool { return equalEvents(e, wrong) }) {
			l = append(l, voiceOf(wrong), voiceOf(wrong, wrong), voiceOf(written("4"), wrong), voiceOf(wrong, written("4")))
		}
	}
	for i, a := range l {
		for j, b := range l {
			if got := Same(a, copiedVoice(b)); got != (i == j) {
				t.Errorf("Same(%s, %s): %t", shown(a), shown(b), got)
			}
		}
	}
	if !Same(api.Voice{}, voiceOf([]api.Event{}...)) || !Same(voiceOf([]api.Event{}...), api.Voice{}) {
		t.Error("Same: nil and empty are not one")
	}
}

// TestSameInEachField changes one event of three in one thing.
func TestSameInEachField(t *testing.T) {
	changes := []func(e *api.Event){
		func(e *api.Event) { e.Kind++ }, func(e *api.Event) { e.Kind = math.MinInt }, func(e *api.Event) { e.Word = "o" }, func(e *api.Event) { e.Word = "\xff" },
		func(e *api.Event) { e.Pitches[0].Step++ }, func(e *api.Event) { e.Pitches[1].Alter-- }, func(e *api.Event) { e.Pitches[1].Octave = math.MaxInt }, func(e *api.Event) { e.Pitches = e.Pitches[:1] }, func(e *api.Event) { e.Pitches = nil },
		func(e *api.Event) { e.Ties[0] = !e.Ties[0] }, func(e *api.Event) { e.Ties = e.Ties[:1] }, func(e *api.Event) { e.Ties = nil },
		func(e *api.Event) { e.Value.Base++ }, func(e *api.Event) { e.Value.Dots-- }, func(e *api.Event) { e.Value.Num++ }, func(e *api.Event) { e.Value.Den = math.MinInt },
		func(e *api.Event) { e.Marks[1]++ }, func(e *api.Event) { e.Marks = e.Marks[:1] }, func(e *api.Event) { e.Marks = nil },
	}
	v := sung("4. C4 E4~ !12|8*3:2 E4~ F4~ !23|2 E4 F4~ !34")
	for k := range v.L {
		for i, change := range changes {
			other := copiedVoice(v)
			change(&other.L[k])
			if Same(v, other) || Same(other, v) || !Same(other, copiedVoice(other)) {
				t.Errorf("Same: change %d of event %d", i, k)
			}
		}
	}
}

// expectPlaces asks for Length and Starts.
func expectPlaces(t *testing.T, v api.Voice, length api.Ratio, starts []api.Ratio, want api.Errno) {
	t.Helper()
	if n, e := Length(v); n != length || e != want {
		t.Errorf("Length(%s): %v error %d, want %v error %d", shown(v), n, e, length, want)
	}
	if l, e := Starts(v); !slices.Equal(l, starts) || e != want {
		t.Errorf("Starts(%s): %v error %d, want %v error %d", shown(v), l, e, starts, want)
	}
}

func TestPlacesWritten(t *testing.T) {
	list := func(l ...api.Ratio) []api.Ratio { return l }
	for _, x := range []struct {
		text   string
		length api.Ratio
		starts []api.Ratio
	}{
		{"", of(0, 1), nil},
		{"1", of(1, 1), list(of(0, 1))},
		{"4", of(1, 4), list(of(0, 1))},
		{"64", of(1, 64), list(of(0, 1))},
		{"4|4", of(1, 2), list(of(0, 1), of(1, 4))},
		{"4 C4|2 C4 E4|4", of(1, 1), list(of(0, 1), of(1, 4), of(3, 4))},
		{"8*3:2|8*3:2|8*3:2", of(1, 4), list(of(0, 1), of(1, 12), of(1, 6))},
		{"8*3:2 C4~|4 C4|16*5:4", of(23, 60), list(of(0, 1), of(1, 12), of(1, 3))},
		{"2..|8|1", of(2, 1), list(of(0, 1), of(7, 8), of(1, 1))},
		{"1..*2:15", of(105, 8), list(of(0, 1))},
	} {
		expectPlaces(t, sung(x.text), x.length, x.starts, api.OK)
	}
}

func TestPlacesAll(t *testing.T) {
	for _, v := range someVoices() {
		l := places(v)
		var starts []api.Ratio
		for _, r := range l[:len(v.L)] {
			starts = append(starts, right(r))
		}
		expectPlaces(t, v, right(l[len(v.L)]), starts, api.OK)
	}
}

func TestPlacesOfWrongVoices(t *testing.T) {
	for _, wrong := range wrongs() {
		expectPlaces(t, voiceOf(wrong), api.Ratio{}, nil, api.ErrEvent)
		expectPlaces(t, voiceOf(written("4"), wrong), api.Ratio{}, nil, api.ErrEvent)
		expectPlaces(t, voiceOf(written("4 C4~"), written("4"), wrong), api.Ratio{}, nil, api.ErrEvent)
	}
	for _, text := range []string{"4 C4~|4", "4|4 C4~|4 D4", "4 C4~|4 B#3", great + " C4~|" + pieces} {
		expectPlaces(t, sung(text), api.Ratio{}, nil, api.ErrTie)
	}
	expectPlaces(t, repeated("4", 65), api.Ratio{}, nil, api.ErrVoice)
	expectPlaces(t, voiceOf(slices.Repeat([]api.Event{{Kind: 2}}, 65)...), api.Ratio{}, nil, api.ErrVoice)
}

// unfit counts the places of a voice that are no right ratios, and tells whether the last one is.
func unfit(v api.Voice) (n int, last bool) {
	l := places(v)
	for _, r := range l {
		if !fits(r) {
			n++
		}
	}
	return n, fits(l[len(l)-1])
}

func TestPlacesThatAreNoRatios(t *testing.T) {
	atEnd, onTheWay, often := sung(great+"|"+pieces), sung(great+"|"+pieces+"|"+lacks), sung(pieces+"|"+great+"|"+lacks+"|4|4")
	if n, last := unfit(atEnd); n != 1 || last {
		t.Fatalf("at the end alone: %d", n)
	}
	for _, v := range []api.Voice{onTheWay, often} {
		if n, last := unfit(v); n == 0 || !last {
			t.Fatalf("on the way alone: %d", n)
		}
	}
	for _, v := range []api.Voice{atEnd, onTheWay, often} {
		expectPlaces(t, v, api.Ratio{}, nil, api.ErrRatio)
		expectSounds(t, v, nil, api.ErrRatio)
		for _, place := range []api.Ratio{of(0, 1), of(1, 1000), of(1, 1), of(10, 1), of(13, 1)} {
			expectAt(t, v, place, 0, false)
		}
	}
	short := atEnd
	short.L = short.L[:len(short.L)-1]
	if n, e := Length(short); e != api.OK || n != right(places(short)[len(short.L)]) {
		t.Errorf("Length without the last event: %v error %d", n, e)
	}
	expectAt(t, short, of(0, 1), 0, true)
}

func expectAt(t *testing.T, v api.Voice, place api.Ratio, want int, ok bool) {
	t.Helper()
	if k, got := At(v, place); k != want || got != ok {
		t.Errorf("At(%s, %v): %d %t, want %d %t", shown(v), place, k, got, want, ok)
	}
}

func TestAtWritten(t *testing.T) {
	v := sung("4 C4|8*3:2|8*3:2 E4~|8*3:2 E4|2") // at 0, 1/4, 1/3, 5/12, 1/2; 1 long
	for _, x := range []struct {
		place api.Ratio
		want  int
	}{
		{of(0, 1), 0}, {of(1, 1000000000), 0}, {of(1, 8), 0}, {of(249999999, 1000000000), 0}, {of(1, 4), 1}, {of(250000001, 1000000000), 1}, {of(3, 10), 1}, {of(333333333, 1000000000), 1}, {of(1, 3), 2}, {of(333333337, 1000000000), 2}, {of(5, 12), 3}, {of(1, 2), 4}, {of(3, 4), 4}, {of(999999999, 1000000000), 4},
	} {
		expectAt(t, v, x.place, x.want, true)
	}
	for _, place := range []api.Ratio{of(1, 1), of(1000000000, 999999999), of(5, 4), of(1000000000, 1), of(-1, 1000000000), of(-1, 4), of(-1, 1), of(-1000000000, 1)} {
		expectAt(t, v, place, 0, false)
		expectAt(t, api.Voice{}, place, 0, false)
	}
	expectAt(t, api.Voice{}, of(0, 1), 0, false)
	expectAt(t, sung("4"), of(0, 1), 0, true)
	expectAt(t, sung("4"), of(1, 4), 0, false)
}

// wrongRatios are ratios that are not right, many of them between 0 and 1.
func wrongRatios() []api.Ratio {
	l := []api.Ratio{{}, of(0, 2), of(0, -1), of(2, 8), of(2, 4), of(3, 3), of(4, 8), of(-1, -4), of(1, -4), of(-2, 8), of(1, 0), of(1, api.MaxTerm+1), of(api.MaxTerm+1, 1), of(5, 1000000000), of(500000000, 1000000000)}
	for _, n := range []int{math.MaxInt, math.MinInt, math.MinInt + 1, 1 << 32, 1 << 62} {
		l = append(l, of(n, 1), of(1, n), of(0, n), of(n, n), of(n, 4), of(-1, n))
	}
	return l
}

func TestAtWrongPlaces(t *testing.T) {
	for _, place := range wrongRatios() {
		for _, v := range []api.Voice{{}, sung("4"), sung("4 C4|8*3:2|2"), repeated("1", 64)} {
			expectAt(t, v, place, 0, false)
		}
	}
}

func TestAtWrongVoices(t *testing.T) {
	rest := written("4")
	for _, place := range append(wrongRatios(), of(0, 1), of(1, 8), of(1, 4), of(1, 2)) {
		expectAt(t, voiceOf(rest, rest, api.Event{Kind: 2}), place, 0, false)
		expectAt(t, sung("4|4 C4~|4"), place, 0, false)
		expectAt(t, repeated("4", 65), place, 0, false)
	}
}

// TestAtAll asks for each start, for places between, and for what is behind the last one.
func TestAtAll(t *testing.T) {
	for _, v := range someVoices() {
		l := places(v)
		for k := range v.L {
			expectAt(t, v, right(l[k]), k, true)
			for _, part := range []*big.Rat{big.NewRat(1, 2), big.NewRat(1, 97), big.NewRat(96, 97)} {
				if between := plus(l[k], part.Mul(part, long(v.L[k]))); fits(between) {
					expectAt(t, v, right(between), k, true)
				}
			}
		}
		expectAt(t, v, right(l[len(v.L)]), 0, false)
		expectAt(t, v, of(right(l[len(v.L)]).Num/right(l[len(v.L)]).Den+1, 1), 0, false)
		expectAt(t, v, of(-1, 64), 0, false)
	}
}

// P7.3

func expectSounds(t *testing.T, v api.Voice, want []api.Sound, wantErr api.Errno) {
	t.Helper()
	if l, e := Sounds(v); !equalSounds(l, want) || e != wantErr {
		t.Errorf("Sounds(%s): %v error %d, want %v error %d", shown(v), l, e, want, wantErr)
	}
}

// soundsOf reads sounds such as "C4 0 3/4 !13": a pitch, where it sounds, how long, and marks.
func soundsOf(text string) []api.Sound {
	fraction := func(s string) api.Ratio {
		num, den, two := strings.Cut(s, "/")
		a := of(0, 1)
		a.Num, _ = strconv.Atoi(num)
		if two {
			a.Den, _ = strconv.Atoi(den)
		}
		return a
	}
	var l []api.Sound
	for _, one := range strings.FieldsFunc(text, func(r rune) bool { return r == '|' }) {
		words := strings.Fields(one)
		s := api.Sound{Pitch: named(words[0]), At: fraction(words[1]), Length: fraction(words[2])}
		for _, marks := range words[3:] {
			for _, digit := range marks[1:] {
				s.Marks = append(s.Marks, int(digit-'0'))
			}
		}
		l = append(l, s)
	}
	return l
}

func TestSoundsWritten(t *testing.T) {
	for _, x := range []struct{ text, want string }{
		// The chapter's examples, and the whole document's.
		{"4 C4~|2 C4", "C4 0 3/4"},
		{"4 C4~ E4|4 C4 G4", "C4 0 1/2|E4 0 1/4|G4 1/4 1/4"},
		{"2 C4~|2 C4", "C4 0 1"},
		// Of no event, of rests, of one event.
		{"", ""}, {"4", ""}, {"4|2|1 !4", ""}, {"4 C4", "C4 0 1/4"}, {"4 C4~", "C4 0 1/4"}, {"8*3:2 C4 E4~ G4", "C4 0 1/12|E4 0 1/12|G4 0 1/12"},
		// Two and three tied ones, and the last one tied on.
		{"4 C4~|4 C4~", "C4 0 1/2"}, {"4 C4~|2. C4~|8*3:2 C4", "C4 0 13/12"}, {"4|4 C4~|4 C4~|4 C4|4", "C4 1/4 3/4"}, {"4 C4~|4 C4~|4 C4~|4 C4~", "C4 0 1"},
		// A pitch that comes again, untied, is another sound.
		{"4 C4|4 C4", "C4 0 1/4|C4 1/4 1/4"}, {"4 C4~|4 C4|4 C4~|4 C4", "C4 0 1/2|C4 1/2 1/2"}, {"4 C4~|4 C4|4 C4", "C4 0 1/2|C4 1/2 1/4"}, {"4 C4|4 C4~|4 C4", "C4 0 1/4|C4 1/4 1/2"}, {"4 C4~|4 C4|4|4 C4", "C4 0 1/2|C4 3/4 1/4"},
		// One pitch alone is tied, or each to another event; others come and go.
		{"4 C4 E4~|4 C4 E4", "C4 0 1/4|E4 0 1/2|C4 1/4 1/4"}, {"4 C4~ E4~|4 C4 E4~|2 E4", "C4 0 1/2|E4 0 1"}, {"4 C4~ E4~ G4|4 C4~ E4 A4~|4 C4 E4 A4", "C4 0 3/4|E4 0 1/2|G4 0 1/4|A4 1/4 1/2|E4 1/2 1/4"}, {"4 E4~|4 C4 E4 G4", "E4 0 1/2|C4 1/4 1/4|G4 1/4 1/4"}, {"4 C4 E4~|4 E4~ G4|4 D4 E4", "C4 0 1/4|E4 0 3/4|G4 1/4 1/4|D4 1/2 1/4"},
		// Names are pitches of their own, though the number is one.
		{"4 B#3 C4~|4 B#3 C4", "B#3 0 1/4|C4 0 1/2|B#3 1/4 1/4"}, {"4 C#4~ Db4~|4 C#4 Db4~|4 C#4 Db4", "C#4 0 1/2|Db4 0 3/4|C#4 1/2 1/4"},
		// Marks are those of the first event.
		{"4 C4 !13", "C4 0 1/4 !13"}, {"4 C4~ !1|4 C4 !2", "C4 0 1/2 !1"}, {"4 C4~|4 C4 !1234", "C4 0 1/2"}, {"4 C4~ !3|4 C4~ !12|4 C4 E4 !4", "C4 0 3/4 !3|E4 1/2 1/4 !4"}, {"4 C4~ E4 !3|4 C4 G4 !2", "C4 0 1/2 !3|E4 0 1/4 !3|G4 1/4 1/4 !2"}, {"4 C4 !1|4 C4 !2|4|4 C4", "C4 0 1/4 !1|C4 1/4 1/4 !2|C4 3/4 1/4"},
		{"4 C4 D4 E4 F4 G4 A4 B4 C5~|4 C5", "C4 0 1/4|D4 0 1/4|E4 0 1/4|F4 0 1/4|G4 0 1/4|A4 0 1/4|B4 0 1/4|C5 0 1/2"},
	} {
		expectSounds(t, sung(x.text), soundsOf(x.want), api.OK)
	}
	expectSounds(t, repeated("1 C4~", 64), []api.Sound{{Pitch: named("C4"), At: of(0, 1), Length: of(64, 1)}}, api.OK)
	expectSounds(t, voiceOf(changed(written("4 C4~"), func(e *api.Event) { e.Word = "la" }), written("4 C4")), soundsOf("C4 0 1/2"), api.OK)
}

func TestSoundsAll(t *testing.T) {
	tied := 0
	ask := func(v api.Voice) {
		k, e := checked(v, everyOne)
		if e != api.OK {
			expectSounds(t, v, nil, e)
			return
		}
		want, e := heard(v)
		expectSounds(t, v, want, e)
		if k = len(v.L); k > 1 && slices.ContainsFunc(v.L[:k-1], func(e api.Event) bool { return slices.Contains(e.Ties, true) }) {
			tied++
		}
	}
	words(4, letters(), ask)
	for _, v := range someVoices() {
		ask(v)
	}
	if tied < 1000 {
		t.Errorf("%d voices with ties alone", tied)
	}
}

func TestSoundsOfWrongVoices(t *testing.T) {
	for _, wrong := range wrongs() {
		expectSounds(t, voiceOf(wrong), nil, api.ErrEvent)
		expectSounds(t, voiceOf(written("4 C4"), wrong), nil, api.ErrEvent)
		expectSounds(t, voiceOf(written("4 C4~"), written("4"), wrong), nil, api.ErrEvent)
	}
	for _, text := range []string{"4 C4~|4", "4 C4|4 C4~|4 D4", "4 C4~|4 B#3", great + " C4~|" + pieces} {
		expectSounds(t, sung(text), nil, api.ErrTie)
	}
	expectSounds(t, repeated("4 C4", 65), nil, api.ErrVoice)
	expectSounds(t, voiceOf(slices.Repeat([]api.Event{{Kind: 2}}, 65)...), nil, api.ErrVoice)
}

// TestSoundsThatAreNoRatios asks for a sound whose length has too great terms, though all places are right ratios.
func TestSoundsThatAreNoRatios(t *testing.T) {
	v := together(sung(pieces), tiedC(lacks+"|"+great))
	if n, _ := unfit(v); n != 0 {
		t.Fatalf("%d places are no ratios", n)
	}
	lengths := chain(v, 6, named("C4"))
	if fits(lengths[len(lengths)-1]) {
		t.Fatal("the sound's length is a ratio")
	}
	if _, e := Starts(v); e != api.OK {
		t.Errorf("Starts: error %d", e)
	}
	expectSounds(t, v, nil, api.ErrRatio)
	expectSounds(t, together(v, sung("4 C4 E4|4 G4")), nil, api.ErrRatio)
	expectSounds(t, together(sung("64 E4"), v), nil, api.ErrRatio)
}

// TestSoundsThatAreRatiosAtLast asks for one that has too great terms on the way alone.
func TestSoundsThatAreRatiosAtLast(t *testing.T) {
	v := together(sung(pieces), tiedC(lacks+"|"+great+"|8*13:1|8*11:1"))
	if n, _ := unfit(v); n != 0 {
		t.Fatalf("%d places are no ratios", n)
	}
	lengths := chain(v, 6, named("C4"))
	if !slices.ContainsFunc(lengths, func(r *big.Rat) bool { return !fits(r) }) || !fits(lengths[len(lengths)-1]) {
		t.Fatal("the sound's length is not one on the way alone")
	}
	want, e := heard(v)
	if len(want) != 1 || e != api.OK {
		t.Fatalf("%v error %d", want, e)
	}
	expectSounds(t, v, want, api.OK)
}

// P7.4

// restLengths are the plain values of whole sixty-fourths, the longest ones ahead, with how many they have.
var restLengths = []struct {
	text  string
	units int
}{
	{"1..", 112}, {"1.", 96}, {"1", 64}, {"2..", 56}, {"2.", 48}, {"2", 32}, {"4..", 28}, {"4.", 24}, {"4", 16}, {"8..", 14}, {"8.", 12}, {"8", 8}, {"16..", 7}, {"16.", 6}, {"16", 4}, {"32.", 3}, {"32", 2}, {"64", 1},
}

func expectRests(t *testing.T, m api.Meter, want api.Voice, wantErr api.Errno) {
	t.Helper()
	if v, e := Rests(m); !equalVoices(v, want) || e != wantErr {
		t.Errorf("Rests(%+v): %+v error %d, want %+v error %d", m, v, e, want, wantErr)
	}
}

func TestRestsWritten(t *testing.T) {
	for _, x := range []struct {
		m    api.Meter
		want string
	}{
		{api.Meter{Num: 1, Den: 1}, "1"}, {api.Meter{Num: 2, Den: 4}, "2"}, {api.Meter{Num: 3, Den: 4}, "2."}, {api.Meter{Num: 4, Den: 4}, "1"}, {api.Meter{Num: 6, Den: 8}, "2."}, {api.Meter{Num: 7, Den: 8}, "2.."}, {api.Meter{Num: 12, Den: 8}, "1."}, {api.Meter{Num: 1, Den: 64}, "64"}, {api.Meter{Num: 7, Den: 64}, "16.."},
		{api.Meter{Num: 5, Den: 8}, "2|8"}, {api.Meter{Num: 5, Den: 8, Groups: []int{2, 3}}, "2|8"}, {api.Meter{Num: 9, Den: 8}, "1|8"}, {api.Meter{Num: 9, Den: 4}, "1..|2"}, {api.Meter{Num: 13, Den: 16}, "2.|16"}, {api.Meter{Num: 11, Den: 16}, "2|8."}, {api.Meter{Num: 29, Den: 64}, "4..|64"}, {api.Meter{Num: 31, Den: 64}, "4..|32."}, {api.Meter{Num: 5, Den: 4, Groups: []int{1, 1, 1, 1, 1}}, "1|4"},
	} {
		expectRests(t, x.m, sung(x.want), api.OK)
	}
}

// groupings are groups that a meter of so many parts may have.
func groupings(num int) [][]int {
	l := [][]int{nil, {}, {num}, slices.Repeat([]int{1}, num)}
	if num > 1 {
		l = append(l, []int{1, num - 1})
	}
	return l
}

func TestRestsAll(t *testing.T) {
	for num := 1; num <= 32; num++ {
		for _, den := range []int{1, 2, 4, 8, 16, 32, 64} {
			var want api.Voice
			left := 64 / den * num
			for _, x := range restLengths {
				for ; x.units <= left; left -= x.units {
					want.L = append(want.L, written(x.text))
				}
			}
			for _, groups := range groupings(num) {
				m := api.Meter{Num: num, Den: den, Groups: groups}
				expectRests(t, m, want, api.OK)
			}
		}
	}
}

func TestRestsOfWrongMeters(t *testing.T) {
	l := []api.Meter{{}, {Num: 4}, {Den: 4}, {Num: 0, Den: 4}, {Num: -1, Den: 4}, {Num: 33, Den: 4}, {Num: 4, Den: 3}, {Num: 4, Den: 0}, {Num: 4, Den: -4}, {Num: 4, Den: 128}, {Num: 4, Den: 4, Groups: []int{3}}, {Num: 4, Den: 4, Groups: []int{4, 1}}, {Num: 4, Den: 4, Groups: []int{0, 4}}, {Num: 4, Den: 4, Groups: []int{5, -1}}, {Num: 4, Den: 4, Groups: slices.Repeat([]int{0}, 1000)}}
	for _, n := range []int{math.MaxInt, math.MinInt, math.MinInt + 1, 1 << 32, 1<<32 + 4} {
		l = append(l, api.Meter{Num: n, Den: 4}, api.Meter{Num: 4, Den: n}, api.Meter{Num: n, Den: n}, api.Meter{Num: 4, Den: 4, Groups: []int{n}}, api.Meter{Num: 4, Den: 4, Groups: []int{n, n, 4}}, api.Meter{Num: n, Den: 4, Groups: []int{n}})
	}
	for _, m := range l {
		expectRests(t, m, api.Voice{}, api.ErrMeter)
	}
}

// P7.5

// end is where a sound ends.
func end(s api.Sound) *big.Rat { return plus(exact(s.At), exact(s.Length)) }

func TestSoundsOfOnePitchDoNotOverlap(t *testing.T) {
	for _, v := range someVoices() {
		l, _ := Sounds(v)
		free := map[api.Pitch]*big.Rat{}
		for _, s := range l {
			if from := free[s.Pitch]; from != nil && from.Cmp(exact(s.At)) > 0 {
				t.Errorf("Sounds(%s): %v overlap", shown(v), s.Pitch)
			}
			free[s.Pitch] = end(s)
		}
	}
}

func TestSoundsLieInTheVoice(t *testing.T) {
	for _, v := range someVoices() {
		l, _ := Sounds(v)
		length, _ := Length(v)
		for _, s := range l {
			if s.At.Num < 0 || s.Length.Num <= 0 || end(s).Cmp(exact(length)) > 0 {
				t.Errorf("Sounds(%s): %v is not within %v", shown(v), s, length)
			}
		}
	}
}

func TestSoundsWithoutTies(t *testing.T) {
	for _, v := range someVoices() {
		v = copiedVoice(v)
		pitches := 0
		for _, e := range v.L {
			clear(e.Ties)
			pitches += len(e.Pitches)
		}
		if l, e := Sounds(v); len(l) != pitches || e != api.OK {
			t.Errorf("Sounds(%s): %d error %d, want %d", shown(v), len(l), e, pitches)
		}
	}
}

func TestSoundsOfCutVoices(t *testing.T) {
	cuts := 0
	for _, v := range someVoices() {
		whole, _ := Sounds(v)
		starts, _ := Starts(v)
		for k := range v.L {
			if k > 0 && slices.Contains(v.L[k-1].Ties, true) {
				continue
			}
			front, _ := Sounds(voiceOf(v.L[:k]...))
			behind, _ := Sounds(voiceOf(v.L[k:]...))
			for i := range behind {
				behind[i].At = right(plus(exact(behind[i].At), exact(starts[k])))
			}
			if !equalSounds(append(front, behind...), whole) {
				t.Errorf("Sounds(%s), cut at %d, are others", shown(v), k)
			}
			cuts++
		}
	}
	if cuts < 1000 {
		t.Errorf("%d cuts alone", cuts)
	}
}

func TestRestsFillTheBarAndSoundNothing(t *testing.T) {
	for num := 1; num <= 32; num++ {
		for _, den := range []int{1, 2, 4, 8, 16, 32, 64} {
			v, _ := Rests(api.Meter{Num: num, Den: den})
			if n, e := Length(v); e != api.OK || n != right(big.NewRat(int64(num), int64(den))) {
				t.Errorf("%d by %d: rests are %v long, error %d", num, den, n, e)
			}
			expectSounds(t, v, nil, api.OK)
		}
	}
}

// What all calls keep to: what is handed in is left, what is answered is new.

// roomy is a voice whose lists have spare room with something in it.
func roomy() api.Voice {
	l := sung("4 C4~ E4 !24|2 C4 G4 !13|4").L
	for i := range l[:2] {
		l[i].Pitches = append(l[i].Pitches, at(6, 0, 6), at(6, 0, 6))[:2]
		l[i].Ties = append(l[i].Ties, true, true)[:2]
		l[i].Marks = append(l[i].Marks, 9, 9)[:2]
	}
	return voiceOf(append(l, written("1 C4"), api.Event{Kind: 9})[:3]...)
}

// opened is a voice whose lists have their spare room too.
func opened(v api.Voice) api.Voice {
	v.L = slices.Clone(v.L[:cap(v.L)])
	for i, e := range v.L {
		v.L[i].Pitches, v.L[i].Ties, v.L[i].Marks = e.Pitches[:cap(e.Pitches)], e.Ties[:cap(e.Ties)], e.Marks[:cap(e.Marks)]
	}
	return v
}

func TestWhatIsHandedInIsLeft(t *testing.T) {
	v, want := roomy(), copiedVoice(opened(roomy()))
	meter := api.Meter{Num: 5, Den: 8, Groups: []int{2, 3, 7, 8}[:2]}
	Check(v)
	Same(v, v)
	Length(v)
	Starts(v)
	At(v, of(1, 2))
	if _, e := Sounds(v); e != api.OK {
		t.Errorf("error %d", e)
	}
	Rests(meter)
	if !equalVoices(opened(v), want) || !slices.Equal(meter.Groups[:4], []int{2, 3, 7, 8}) {
		t.Errorf("wrote into what was handed in: %+v, %v", opened(v), meter)
	}
}

func TestSoundsAreNewMemory(t *testing.T) {
	v := roomy()
	kept := copiedVoice(opened(v))
	want := soundsOf("C4 0 3/4 !24|E4 0 1/4 !24|G4 1/4 1/2 !13")
	for spoiled := range want {
		first, _ := Sounds(v)
		other, _ := Sounds(v)
		marks := first[spoiled].Marks[:cap(first[spoiled].Marks)]
		for i := range marks {
			marks[i] = -9
		}
		first[spoiled] = want[spoiled]
		if !equalSounds(first, want) || !equalSounds(other, want) || !equalVoices(opened(v), kept) {
			t.Errorf("the marks of sound %d are those of another, or of an event", spoiled)
		}
		clear(first[:cap(first)])
		clear(v.L[0].Marks[:cap(v.L[0].Marks)])
		clear(v.L[1].Marks[:cap(v.L[1].Marks)])
		if !equalSounds(other, want) {
			t.Error("what is answered shares its memory with what is handed in, or with an answer")
		}
		v = roomy()
	}
}

func TestPlacesAndRestsAreNewMemory(t *testing.T) {
	v, five := sung("4|4|2"), api.Meter{Num: 5, Den: 8}
	starts, _ := Starts(v)
	others, _ := Starts(v)
	clear(starts[:cap(starts)])
	if !slices.Equal(others, []api.Ratio{of(0, 1), of(1, 4), of(1, 2)}) {
		t.Error("Starts share their memory")
	}
	rests, _ := Rests(five)
	clear(rests.L[:cap(rests.L)])
	expectRests(t, five, sung("2|8"), api.OK)
}
