package pitch

import (
	"fmt"
	"math"
	"strings"
	"testing"

	"partita/api"
)

func at(step, alter, octave int) api.Pitch {
	return api.Pitch{Step: step, Alter: alter, Octave: octave}
}

// height is a pitch's number and its line.
type height struct{ number, line int }

// known are all right pitches with their heights, written down by the words of the chapter, and not by the package.
func known() map[api.Pitch]height {
	m := map[api.Pitch]height{}
	for octave := -1; octave <= 9; octave++ {
		for step, half := range []int{0, 2, 4, 5, 7, 9, 11} {
			for alter := -2; alter <= 2; alter++ {
				n := (octave+1)*12 + half + alter
				if 0 <= n && n <= 127 {
					m[at(step, alter, octave)] = height{n, octave*7 + step}
				}
			}
		}
	}
	return m
}

// names are the texts of all right pitches.
func names() map[string]api.Pitch {
	m := map[string]api.Pitch{}
	for p := range known() {
		letter := []string{"C", "D", "E", "F", "G", "A", "B"}[p.Step]
		sign := map[int]string{-2: "bb", -1: "b", 0: "", 1: "#", 2: "##"}[p.Alter]
		m[fmt.Sprint(letter, sign, p.Octave)] = p
	}
	return m
}

// wrongs are pitches that are not right, each for one of the reasons there are.
func wrongs() []api.Pitch {
	return []api.Pitch{
		at(-1, 0, 4), at(7, 0, 4), at(0, -3, 4), at(0, 3, 4), at(0, 0, -2), at(0, 0, 10), at(6, 2, -2), at(0, -2, 10),
		at(0, -1, -1), at(0, -2, -1), at(1, -3, -1), at(4, 1, 9), at(4, 2, 9), at(5, -1, 9), at(5, 0, 9), at(6, -2, 9), at(6, 2, 9),
		at(math.MinInt, 0, 4), at(math.MaxInt, 0, 4), at(0, math.MinInt, 4), at(0, math.MaxInt, 4), at(0, 0, math.MinInt), at(0, 0, math.MaxInt),
		at(math.MinInt, math.MinInt, math.MinInt), at(math.MaxInt, math.MaxInt, math.MaxInt), at(math.MinInt, math.MaxInt, 0),
		at(0, 0, 1<<62), at(0, 0, math.MaxInt/12), at(0, 0, math.MinInt/12), at(0, 60, -1), at(0, -60, 9), at(7, 0, 3), at(-7, 0, 5),
	}
}

func read(t *testing.T, s string) api.Pitch {
	t.Helper()
	p, ok := names()[s]
	if !ok {
		t.Fatalf("%s is no right pitch", s)
	}
	return p
}

func expect(t *testing.T, call string, got api.Pitch, e api.Errno, want api.Pitch, wantErr api.Errno) {
	t.Helper()
	if got != want || e != wantErr {
		t.Errorf("%s: %v error %d, want %v error %d", call, got, e, want, wantErr)
	}
}

// P2.1

func TestRightNumberLineWritten(t *testing.T) {
	for _, c := range []struct {
		p            api.Pitch
		number, line int
	}{
		{at(0, 0, 4), 60, 28},
		{at(3, 1, 4), 66, 31},
		{at(5, 0, 4), 69, 33},
		{at(0, -1, 4), 59, 28},
		{at(6, 0, 3), 59, 27},
		{at(0, 0, -1), 0, -7},
		{at(0, 1, -1), 1, -7},
		{at(1, -2, -1), 0, -6},
		{at(1, -1, -1), 1, -6},
		{at(6, 2, -1), 13, -1},
		{at(0, -2, 0), 10, 0},
		{at(4, 0, 9), 127, 67},
		{at(3, 2, 9), 127, 66},
		{at(5, -2, 9), 127, 68},
		{at(4, -1, 9), 126, 67},
		{at(0, 0, 9), 120, 63},
	} {
		n, e := Number(c.p)
		l, f := Line(c.p)
		if !Right(c.p) || n != c.number || e != api.OK || l != c.line || f != api.OK {
			t.Errorf("%v: right %t, number %d error %d, line %d error %d, want %d and %d", c.p, Right(c.p), n, e, l, f, c.number, c.line)
		}
	}
}

func TestRightNumberLineAll(t *testing.T) {
	m := known()
	for step := -2; step <= 8; step++ {
		for alter := -4; alter <= 4; alter++ {
			for octave := -3; octave <= 12; octave++ {
				p := at(step, alter, octave)
				want, right := m[p]
				wantErr := api.OK
				if !right {
					wantErr = api.ErrPitch
				}
				n, e := Number(p)
				l, f := Line(p)
				if Right(p) != right || n != want.number || e != wantErr || l != want.line || f != wantErr {
					t.Errorf("%v: right %t, number %d error %d, line %d error %d, want %t %v", p, Right(p), n, e, l, f, right, want)
				}
			}
		}
	}
}

func TestWrongPitches(t *testing.T) {
	for _, p := range wrongs() {
		n, e := Number(p)
		l, f := Line(p)
		if Right(p) || n != 0 || e != api.ErrPitch || l != 0 || f != api.ErrPitch {
			t.Errorf("%v: right %t, number %d error %d, line %d error %d", p, Right(p), n, e, l, f)
		}
	}
}

func TestEachKeyHasAPitch(t *testing.T) {
	keys := map[int]bool{}
	for p := range known() {
		n, e := Number(p)
		if e != api.OK {
			t.Errorf("Number(%v): error %d", p, e)
		}
		keys[n] = true
	}
	for n := 0; n <= 127; n++ {
		if !keys[n] {
			t.Errorf("no pitch for the key %d", n)
		}
	}
	if len(keys) != 128 {
		t.Errorf("%d keys", len(keys))
	}
}

// P2.2, P2.3

func TestUpAndBetweenWritten(t *testing.T) {
	for _, c := range []struct {
		from          string
		steps, halves int
		to            string
	}{
		{"C4", 2, 3, "Eb4"}, {"C4", 1, 3, "D#4"}, {"C4", 0, 0, "C4"}, {"C4", 0, 1, "C#4"}, {"C4", 1, 0, "Dbb4"}, {"C4", -1, 0, "B#3"}, {"C4", -1, 1, "B##3"},
		{"C4", -1, -1, "B3"}, {"C4", -2, -3, "A3"}, {"B3", 1, 0, "Cb4"}, {"B3", 1, -1, "Cbb4"}, {"Cb4", -1, 0, "B3"}, {"E4", -9, -16, "C3"}, {"A3", 0, -2, "Abb3"},
		{"F#4", 4, 7, "C#5"}, {"F##4", 0, -4, "Fbb4"}, {"Bbb2", 7, 12, "Bbb3"}, {"C4", -7, -12, "C3"},
		{"C4", -35, -60, "C-1"}, {"C-1", 74, 127, "G9"}, {"C-1", 75, 127, "Abb9"}, {"Abb9", -75, -127, "C-1"}, {"G9", -74, -127, "C-1"}, {"Dbb-1", -1, 0, "C-1"}, {"C0", -1, -1, "B-1"}, {"Dbb-1", 72, 127, "F##9"},
	} {
		p, q, by := read(t, c.from), read(t, c.to), api.Interval{Steps: c.steps, Halves: c.halves}
		got, e := Up(p, by)
		expect(t, fmt.Sprint("Up ", c.from, by), got, e, q, api.OK)
		if b, e := Between(p, q); b != by || e != api.OK {
			t.Errorf("Between(%s, %s) is %v error %d, want %v", c.from, c.to, b, e, by)
		}
	}
}

func TestUpWhereNothingIs(t *testing.T) {
	for _, c := range []struct {
		from          string
		steps, halves int
	}{
		{"C4", 0, 3}, {"C4", 0, -3}, {"C4", 1, 5}, {"C4", 1, -1}, {"C4", 7, 15}, {"C4", 7, 9}, {"G9", 0, 1}, {"G9", 1, 2}, {"G9", 1, 1}, {"C-1", 0, -1}, {"C-1", -1, -1}, {"C-1", -1, 0}, {"C-1", -7, 0}, {"C-1", -7, -12}, {"C-1", -8, 0}, {"C0", -8, -12}, {"C9", 7, 12}, {"C9", 7, 7}, {"C-1", 77, 127}, {"C-1", 77, 132},
		{"C4", math.MaxInt, 0}, {"C4", math.MinInt, 0}, {"C4", 0, math.MaxInt}, {"C4", 0, math.MinInt}, {"C4", math.MaxInt, math.MaxInt}, {"C4", math.MinInt, math.MinInt}, {"C4", math.MaxInt, math.MinInt}, {"C4", math.MinInt, math.MaxInt},
		{"C-1", math.MinInt, math.MinInt}, {"C-1", math.MinInt, 0}, {"G9", math.MaxInt, math.MaxInt}, {"G9", math.MaxInt, 0}, {"C4", 1 << 62, 0}, {"C4", -1 << 62, 0}, {"C4", 7 << 32, 12 << 32}, {"C4", 0, 1 << 32}, {"C4", 1 << 32, 0}, {"C4", -7 << 32, -12 << 32},
	} {
		q, e := Up(read(t, c.from), api.Interval{Steps: c.steps, Halves: c.halves})
		expect(t, fmt.Sprint("Up ", c.from, " ", c.steps, " ", c.halves), q, e, api.Pitch{}, api.ErrPitch)
	}
}

// TestUpAll holds each interval that could lead anywhere, and those around, against all right pitches by their heights.
func TestUpAll(t *testing.T) {
	m := known()
	there := map[height]api.Pitch{}
	for p, h := range m {
		there[h] = p
	}
	for p, h := range m {
		if p.Octave > 0 && p.Octave < 8 && p.Octave != 4 {
			continue // between the ends nothing differs by the octave
		}
		for steps := -80; steps <= 80; steps++ {
			for halves := -130; halves <= 130; halves++ {
				want, ok := there[height{h.number + halves, h.line + steps}]
				wantErr := api.OK
				if !ok {
					wantErr = api.ErrPitch
				}
				if q, e := Up(p, api.Interval{Steps: steps, Halves: halves}); q != want || e != wantErr {
					t.Fatalf("Up(%v, %d steps %d halves): %v error %d, want %v error %d", p, steps, halves, q, e, want, wantErr)
				}
			}
		}
	}
}

func TestUpAndBetweenOfWrongPitches(t *testing.T) {
	for _, wrong := range wrongs() {
		for _, by := range []api.Interval{{}, {Steps: 7, Halves: 12}, {Steps: -7, Halves: -12}, {Steps: 1}, {Halves: 1}, {Steps: math.MaxInt, Halves: math.MinInt}} {
			q, e := Up(wrong, by)
			expect(t, fmt.Sprint("Up", wrong, by), q, e, api.Pitch{}, api.ErrPitch)
		}
		for _, other := range append(wrongs(), at(0, 0, 4), at(0, 0, -1), at(4, 0, 9)) {
			for _, pair := range [][2]api.Pitch{{wrong, other}, {other, wrong}} {
				if b, e := Between(pair[0], pair[1]); b != (api.Interval{}) || e != api.ErrPitch {
					t.Errorf("Between(%v, %v) is %v error %d", pair[0], pair[1], b, e)
				}
				if n := Compare(pair[0], pair[1]); n != 0 {
					t.Errorf("Compare(%v, %v) is %d", pair[0], pair[1], n)
				}
			}
		}
	}
}

func TestBetweenAll(t *testing.T) {
	m := known()
	for a, ha := range m {
		for b, hb := range m {
			want := api.Interval{Steps: hb.line - ha.line, Halves: hb.number - ha.number}
			if by, e := Between(a, b); by != want || e != api.OK {
				t.Fatalf("Between(%v, %v) is %v error %d, want %v", a, b, by, e, want)
			}
		}
	}
}

// P2.4

func TestCompareWritten(t *testing.T) {
	for _, c := range []struct {
		a, b string
		want int
	}{
		{"C4", "C4", 0}, {"C4", "C#4", -1}, {"C#4", "Db4", -1}, {"B3", "Cb4", -1}, {"B#3", "C4", -1}, {"C4", "Dbb4", -1}, {"B##3", "Cbb4", 1}, {"B#3", "Cb4", 1}, {"E##4", "F4", 1}, {"B##3", "Dbb4", 1},
		{"C-1", "Dbb-1", -1}, {"G9", "Abb9", -1}, {"F##9", "G9", -1}, {"C-1", "G9", -1}, {"Gb9", "F##9", -1}, {"B-1", "C0", -1},
	} {
		a, b := read(t, c.a), read(t, c.b)
		if Compare(a, b) != c.want || Compare(b, a) != -c.want {
			t.Errorf("Compare of %s and %s: %d and back %d, want %d", c.a, c.b, Compare(a, b), Compare(b, a), c.want)
		}
	}
}

func TestCompareAll(t *testing.T) {
	m := known()
	for a, ha := range m {
		for b, hb := range m {
			want := 1
			if a == b {
				want = 0
			} else if ha.number < hb.number || ha.number == hb.number && ha.line < hb.line {
				want = -1
			}
			if got := Compare(a, b); got != want {
				t.Fatalf("Compare(%v, %v) is %d, want %d", a, b, got, want)
			}
		}
	}
}

// P2.5

func TestTextAndReadWritten(t *testing.T) {
	for s, p := range map[string]api.Pitch{
		"C4": at(0, 0, 4), "D4": at(1, 0, 4), "E4": at(2, 0, 4), "F4": at(3, 0, 4), "G4": at(4, 0, 4), "A4": at(5, 0, 4), "B4": at(6, 0, 4),
		"F#4": at(3, 1, 4), "E##5": at(2, 2, 5), "Bb3": at(6, -1, 3), "Bbb3": at(6, -2, 3), "Cb4": at(0, -1, 4), "Cbb0": at(0, -2, 0),
		"C-1": at(0, 0, -1), "Dbb-1": at(1, -2, -1), "B##-1": at(6, 2, -1), "G9": at(4, 0, 9), "F##9": at(3, 2, 9), "Abb9": at(5, -2, 9),
	} {
		if text, e := Text(p); text != s || e != api.OK {
			t.Errorf("Text(%v) is %q error %d, want %q", p, text, e, s)
		}
		got, e := Read(s)
		expect(t, fmt.Sprintf("Read(%q)", s), got, e, p, api.OK)
	}
}

func TestTextOfWrongPitches(t *testing.T) {
	for _, p := range wrongs() {
		if s, e := Text(p); s != "" || e != api.ErrPitch {
			t.Errorf("Text(%v) is %q error %d", p, s, e)
		}
	}
}

func TestReadWrongTexts(t *testing.T) {
	for _, s := range []string{
		"", "C", "#", "b", "4", "-1", "-", "C#", "Cb", "C-", "Cb-", "H4", "h4", "c4", "b4", "bb4", "bB4", "CC4", "C10", "C-2", "C-0", "C04", "C-01", "C+4", "C00", "C4#", "C4b",
		"Cb-1", "Cbb-1", "G#9", "G##9", "Ab9", "A9", "B9", "Bbb9", "C###4", "Cbbb4", "C#b4", "Cb#4", "C#b#4", "C##b4", "Cbb#4", "C#b#b4", "C--1", "C-1-1", "C1-",
		" C4", "C 4", "C4 ", "C4\n", "\tC4", "C4\x00", "\x00C4", "C\x004", "C4C4", "C4.0", "C4e0", "C0x4", "C1_0", "Cx4", "C#4#", "C##4##", "4C", "#C4", "bC4", "-C4", "C# 4",
		"C9223372036854775807", "C9223372036854775808", "C-9223372036854775808", "C18446744073709551620", "C4294967300", "C-4294967297",
		"\u00c94", "\u04214", "C\u266f4", "C\u266d4", "C\uff14", "C\u0664", "\uff234", "C\u22121", "\u266fC4", "\xff", "\xffC4", "C\xff4", "C4\xff", "\xc3", "C\xc34", "\ufffd4", "C\ufffd4",
		strings.Repeat("C", 3000), "C" + strings.Repeat("#", 3000) + "4", "C" + strings.Repeat("#b", 3000) + "4", "C" + strings.Repeat("0", 3000) + "4", "C" + strings.Repeat("9", 3000),
	} {
		p, e := Read(s)
		expect(t, fmt.Sprintf("Read(%.20q)", s), p, e, api.Pitch{}, api.ErrName)
	}
}

// TestReadAllShortTexts holds every text of at most 5 bytes out of some against the texts of all right pitches.
func TestReadAllShortTexts(t *testing.T) {
	const bytes = "CDGABHb#-+0189"
	m := names()
	missed := map[string]bool{}
	for s := range m {
		if strings.Trim(s, bytes) == "" {
			missed[s] = true
		}
	}
	var from func(s string)
	from = func(s string) {
		want, ok := m[s]
		wantErr := api.ErrName
		if ok {
			delete(missed, s)
			wantErr = api.OK
		}
		if p, e := Read(s); p != want || e != wantErr {
			t.Fatalf("Read(%q): %v error %d, want %v error %d", s, p, e, want, wantErr)
		}
		if len(s) < 5 {
			for _, c := range bytes {
				from(s + string(c))
			}
		}
	}
	from("")
	if len(missed) != 0 {
		t.Errorf("right texts that were not read: %v", missed)
	}
}

// P2.6

func TestReadUndoesText(t *testing.T) {
	for want, p := range names() {
		s, e := Text(p)
		if s != want || e != api.OK {
			t.Errorf("Text(%v) is %q error %d, want %q", p, s, e, want)
		}
		q, e := Read(s)
		expect(t, fmt.Sprintf("Read(%q)", s), q, e, p, api.OK)
	}
}

func TestUpByWhatIsBetween(t *testing.T) {
	m := known()
	for a := range m {
		for b := range m {
			by, e := Between(a, b)
			if e != api.OK {
				t.Fatalf("Between(%v, %v): error %d", a, b, e)
			}
			there, e := Up(a, by)
			if there != b || e != api.OK {
				t.Fatalf("Up(%v, %v): %v error %d, want %v", a, by, there, e, b)
			}
			back, e := Up(there, api.Interval{Steps: -by.Steps, Halves: -by.Halves})
			if back != a || e != api.OK {
				t.Fatalf("Up(%v, less %v): %v error %d, want %v", there, by, back, e, a)
			}
		}
	}
}

func TestOneOrder(t *testing.T) {
	m := known()
	for a := range m {
		below := 0
		for b := range m {
			if Compare(a, b) != -Compare(b, a) || Compare(a, b) == 0 && a != b {
				t.Fatalf("%v and %v: %d, and back %d", a, b, Compare(a, b), Compare(b, a))
			}
			if Compare(b, a) < 0 {
				below++
			}
		}
		if place(m, a) != below {
			t.Errorf("%d are below %v by Compare, want %d", below, a, place(m, a))
		}
	}
}

// place is how many pitches are below a: one order of all has each place once.
func place(m map[api.Pitch]height, a api.Pitch) int {
	n := 0
	for _, h := range m {
		if h.number < m[a].number || h.number == m[a].number && h.line < m[a].line {
			n++
		}
	}
	return n
}

func TestAnOctaveLeavesStepAndAlter(t *testing.T) {
	m := known()
	for p := range m {
		q := at(p.Step, p.Alter, p.Octave+1)
		wantErr := api.OK
		if _, ok := m[q]; !ok {
			q, wantErr = api.Pitch{}, api.ErrPitch
		}
		got, e := Up(p, api.Interval{Steps: 7, Halves: 12})
		expect(t, fmt.Sprint("an octave above ", p), got, e, q, wantErr)
	}
}

func TestHeightsAreUnlike(t *testing.T) {
	seen := map[height]api.Pitch{}
	for p := range known() {
		n, _ := Number(p)
		l, _ := Line(p)
		if q, ok := seen[height{n, l}]; ok {
			t.Errorf("%v and %v have the number %d and the line %d", p, q, n, l)
		}
		seen[height{n, l}] = p
	}
}
