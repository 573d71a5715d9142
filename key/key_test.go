package key

import (
	"fmt"
	"math"
	"strings"
	"testing"

	"partita/api"
	"partita/pitch"
)

// written is the line of fifths around C, which is at its place 15.
const (
	written = "Fbb Cbb Gbb Dbb Abb Ebb Bbb Fb Cb Gb Db Ab Eb Bb F C G D A E B F# C# G# D# A# E# B# F## C## G## D## A## E## B##"
	zero    = 15
)

// tonics are those of the major and the minor keys, from seven flats to seven sharps.
const (
	majors = "Cb Gb Db Ab Eb Bb F C G D A E B F# C#"
	minors = "Ab Eb Bb F C G D A E B F# C# G# D# A#"
)

// halves are those of the steps, and sharpened the steps in the order in which signatures sharpen them; they flatten from its end.
var (
	halves    = [7]int{0, 2, 4, 5, 7, 9, 11}
	sharpened = [7]int{3, 0, 4, 1, 5, 2, 6}
)

func of(fifths int, minor bool) api.Key { return api.Key{Fifths: fifths, Minor: minor} }

// rights are all right keys with their texts, written down apart from the package.
func rights() map[api.Key]string {
	m := map[api.Key]string{}
	for i, tonic := range strings.Fields(majors) {
		m[of(i-7, false)] = tonic + " major"
	}
	for i, tonic := range strings.Fields(minors) {
		m[of(i-7, true)] = tonic + " minor"
	}
	return m
}

// wrongs are keys that are not right.
func wrongs() []api.Key {
	var l []api.Key
	for _, fifths := range []int{-8, 8, -9, 9, -12, 12, 100, -100, 1 << 32, -1 << 32, 1<<32 + 1, 1 << 62, math.MinInt, math.MinInt + 1, math.MinInt + 7, math.MaxInt, math.MaxInt - 1, math.MaxInt - 7} {
		l = append(l, of(fifths, false), of(fifths, true))
	}
	return l
}

// read is the pitch with that text, as layer 2 tells it.
func read(t *testing.T, s string) api.Pitch {
	t.Helper()
	p, e := pitch.Read(s)
	if e != api.OK {
		t.Fatalf("%s is no right pitch", s)
	}
	return p
}

// sign is what the signature of so many fifths gives to a step, by the order of the signs.
func sign(fifths, step int) int {
	for i, s := range sharpened {
		if s == step && i < fifths {
			return 1
		}
		if s == step && 6-i < -fifths {
			return -1
		}
	}
	return 0
}

func expectPitch(t *testing.T, call string, got api.Pitch, e api.Errno, want api.Pitch, wantErr api.Errno) {
	t.Helper()
	if got != want || e != wantErr {
		t.Errorf("%s: %v error %d, want %v error %d", call, got, e, want, wantErr)
	}
}

func expectKey(t *testing.T, call string, got api.Key, e api.Errno, want api.Key, wantErr api.Errno) {
	t.Helper()
	if got != want || e != wantErr {
		t.Errorf("%s: %v error %d, want %v error %d", call, got, e, want, wantErr)
	}
}

// P3.1

func TestRight(t *testing.T) {
	for fifths := -30; fifths <= 30; fifths++ {
		want := fifths >= -7 && fifths <= 7
		if Right(of(fifths, false)) != want || Right(of(fifths, true)) != want {
			t.Errorf("Right of %d fifths: major %t, minor %t, want %t", fifths, Right(of(fifths, false)), Right(of(fifths, true)), want)
		}
	}
	for _, k := range wrongs() {
		if Right(k) {
			t.Errorf("%v is not right", k)
		}
	}
}

// P3.2

func TestAlterWritten(t *testing.T) {
	for _, c := range []struct{ fifths, step, want int }{
		{2, 3, 1}, {2, 4, 0}, {2, 0, 1}, {2, 6, 0}, {0, 0, 0}, {0, 3, 0}, {0, 6, 0}, {1, 3, 1}, {1, 0, 0}, {-1, 6, -1}, {-1, 2, 0},
		{-3, 6, -1}, {-3, 2, -1}, {-3, 5, -1}, {-3, 1, 0}, {6, 2, 1}, {6, 6, 0}, {-6, 0, -1}, {-6, 3, 0}, {7, 0, 1}, {7, 6, 1}, {-7, 0, -1}, {-7, 3, -1}, {-7, 6, -1},
	} {
		for _, minor := range []bool{false, true} {
			if n, e := Alter(of(c.fifths, minor), c.step); n != c.want || e != api.OK {
				t.Errorf("Alter of %d fifths (minor %t), step %d: %d error %d, want %d", c.fifths, minor, c.step, n, e, c.want)
			}
		}
	}
}

func TestAlterAll(t *testing.T) {
	for k := range rights() {
		for step := 0; step <= 6; step++ {
			if n, e := Alter(k, step); n != sign(k.Fifths, step) || e != api.OK {
				t.Errorf("Alter(%v, %d): %d error %d, want %d", k, step, n, e, sign(k.Fifths, step))
			}
		}
	}
}

func TestAlterWrong(t *testing.T) {
	steps := []int{-1, 7, -2, 8, -7, 13, 14, 1 << 32, -1 << 32, 1 << 62, math.MinInt, math.MaxInt}
	for k := range rights() {
		for _, step := range steps {
			if n, e := Alter(k, step); n != 0 || e != api.ErrArg {
				t.Errorf("Alter(%v, %d): %d error %d, want ErrArg", k, step, n, e)
			}
		}
	}
	for _, k := range wrongs() {
		for _, step := range append(steps, 0, 3, 6) {
			if n, e := Alter(k, step); n != 0 || e != api.ErrKey {
				t.Errorf("Alter(%v, %d): %d error %d, want ErrKey", k, step, n, e)
			}
		}
	}
}

// P3.3

func expectScale(t *testing.T, k api.Key, want []api.Pitch) {
	t.Helper()
	l, e := Scale(k)
	if e != api.OK || fmt.Sprint(l) != fmt.Sprint(want) {
		t.Errorf("Scale(%v): %v error %d, want %v", k, l, e, want)
	}
}

func TestScaleWritten(t *testing.T) {
	for _, c := range []struct {
		k    api.Key
		want string
	}{
		{of(0, false), "C4 D4 E4 F4 G4 A4 B4"},
		{of(0, true), "A4 B4 C5 D5 E5 F5 G5"},
		{of(-3, true), "C4 D4 Eb4 F4 G4 Ab4 Bb4"},
		{of(5, false), "B4 C#5 D#5 E5 F#5 G#5 A#5"},
		{of(2, true), "B4 C#5 D5 E5 F#5 G5 A5"},
		{of(-2, false), "Bb4 C5 D5 Eb5 F5 G5 A5"},
		{of(-5, true), "Bb4 C5 Db5 Eb5 F5 Gb5 Ab5"},
		{of(6, false), "F#4 G#4 A#4 B4 C#5 D#5 E#5"},
		{of(-6, false), "Gb4 Ab4 Bb4 Cb5 Db5 Eb5 F5"},
		{of(7, false), "C#4 D#4 E#4 F#4 G#4 A#4 B#4"},
		{of(7, true), "A#4 B#4 C#5 D#5 E#5 F#5 G#5"},
		{of(-7, false), "Cb4 Db4 Eb4 Fb4 Gb4 Ab4 Bb4"},
		{of(-7, true), "Ab4 Bb4 Cb5 Db5 Eb5 Fb5 Gb5"},
	} {
		var want []api.Pitch
		for _, s := range strings.Fields(c.want) {
			want = append(want, read(t, s))
		}
		expectScale(t, c.k, want)
	}
}

// TestScaleAll builds each scale from its tonic's name, upwards by the whole and half tones of its mode.
func TestScaleAll(t *testing.T) {
	for k, name := range rights() {
		tonic, mode, _ := strings.Cut(name, " ")
		apart := map[string][]int{"major": {2, 2, 1, 2, 2, 2, 1}, "minor": {2, 1, 2, 2, 1, 2, 2}}[mode]
		p := read(t, tonic+"4")
		var want []api.Pitch
		for _, n := range apart {
			want = append(want, p)
			up, e := pitch.Up(p, api.Interval{Steps: 1, Halves: n})
			if e != api.OK {
				t.Fatalf("%v: nothing is above %v", k, p)
			}
			p = up
		}
		expectScale(t, k, want)
	}
}

func TestScaleWrong(t *testing.T) {
	for _, k := range wrongs() {
		if l, e := Scale(k); len(l) != 0 || e != api.ErrKey {
			t.Errorf("Scale(%v): %v error %d, want ErrKey", k, l, e)
		}
	}
}

func TestScaleIsNewMemory(t *testing.T) {
	k := of(-3, true)
	before, _ := Scale(k)
	text := fmt.Sprint(before)
	spoiled, _ := Scale(k)
	for i := range spoiled[:cap(spoiled)] {
		spoiled[:cap(spoiled)][i] = api.Pitch{Step: 99}
	}
	after, e := Scale(k)
	if e != api.OK || fmt.Sprint(before) != text || fmt.Sprint(after) != text {
		t.Errorf("a scale shares its memory: %v and %v, want %s", before, after, text)
	}
}

// P3.4

func TestMoveWritten(t *testing.T) {
	for _, c := range []struct {
		from, steps, halves, to int
		e                       api.Errno
	}{
		{0, 0, 0, 0, api.OK}, {0, 3, 5, -1, api.OK}, {0, 4, 7, 1, api.OK}, {0, -3, -5, 1, api.OK}, {0, 7, 12, 0, api.OK}, {3, -7, -12, 3, api.OK}, {0, 1, 2, 2, api.OK}, {0, 2, 3, -3, api.OK},
		{0, 2, 4, 4, api.OK}, {0, 1, 1, -5, api.OK}, {0, 0, 1, 7, api.OK}, {0, 0, -1, -7, api.OK}, {-7, 0, 1, 0, api.OK}, {-7, 0, 2, 7, api.OK}, {7, 0, -2, -7, api.OK}, {-7, 1, 3, 2, api.OK},
		{7, 4, 7, 0, api.ErrKey}, {-7, 3, 5, 0, api.ErrKey}, {1, 0, 1, 0, api.ErrKey}, {-1, 0, -1, 0, api.ErrKey}, {0, 1, 0, 0, api.ErrKey}, {0, -1, 0, 0, api.ErrKey}, {0, 0, 2, 0, api.ErrKey}, {6, 4, 7, 7, api.OK}, {-6, 3, 5, -7, api.OK},
		{0, 70, 120, 0, api.OK}, {0, -70, -120, 0, api.OK}, {7, 70, 120, 7, api.OK}, {-7, -70, -120, -7, api.OK}, {0, 70, 119, -7, api.OK}, {0, 69, 119, 5, api.OK}, {0, -69, -119, -5, api.OK}, {0, 69, 118, -2, api.OK},
		{0, 70, -120, 0, api.ErrKey}, {0, -70, 120, 0, api.ErrKey}, {0, 70, 0, 0, api.ErrKey}, {0, 0, 120, 0, api.ErrKey}, {0, -70, 0, 0, api.ErrKey}, {0, 0, -120, 0, api.ErrKey},
		{0, 71, 0, 0, api.ErrArg}, {0, -71, 0, 0, api.ErrArg}, {0, 0, 121, 0, api.ErrArg}, {0, 0, -121, 0, api.ErrArg}, {0, 71, 122, 0, api.ErrArg}, {0, 71, 121, 0, api.ErrArg}, {0, -71, -122, 0, api.ErrArg}, {0, 70, 121, 0, api.ErrArg}, {0, 71, 120, 0, api.ErrArg}, {0, 77, 132, 0, api.ErrArg},
	} {
		for _, minor := range []bool{false, true} {
			want := api.Key{}
			if c.e == api.OK {
				want = of(c.to, minor)
			}
			k, e := Move(of(c.from, minor), api.Interval{Steps: c.steps, Halves: c.halves})
			expectKey(t, fmt.Sprintf("Move of %d fifths (minor %t) by %d steps, %d half tones", c.from, minor, c.steps, c.halves), k, e, want, c.e)
		}
	}
}

// TestMoveAll holds all moves that are allowed, and those just beyond, against the place to which they lead on the line of fifths.
func TestMoveAll(t *testing.T) {
	for k := range rights() {
		for steps := -71; steps <= 71; steps++ {
			for halves := -121; halves <= 121; halves++ {
				want, wantErr := of(k.Fifths+7*halves-12*steps, k.Minor), api.OK
				if steps < -70 || steps > 70 || halves < -120 || halves > 120 {
					want, wantErr = api.Key{}, api.ErrArg
				} else if want.Fifths < -7 || want.Fifths > 7 {
					want, wantErr = api.Key{}, api.ErrKey
				}
				if got, e := Move(k, api.Interval{Steps: steps, Halves: halves}); got != want || e != wantErr {
					t.Fatalf("Move(%v, %d steps, %d half tones): %v error %d, want %v error %d", k, steps, halves, got, e, want, wantErr)
				}
			}
		}
	}
}

// TestMoveMovesTheTonic holds the key that a move leads to against where the interval leads the tonic to.
func TestMoveMovesTheTonic(t *testing.T) {
	names := map[string]api.Key{}
	for k, name := range rights() {
		names[name] = k
	}
	for k, name := range rights() {
		tonic, mode, _ := strings.Cut(name, " ")
		for steps := -7; steps <= 7; steps++ {
			for halves := -14; halves <= 14; halves++ {
				by := api.Interval{Steps: steps, Halves: halves}
				p, e := pitch.Up(read(t, tonic+"4"), by)
				if e != api.OK {
					continue
				}
				text, _ := pitch.Text(p)
				want, ok := names[strings.TrimRight(text, "0123456789")+" "+mode]
				wantErr := api.OK
				if !ok {
					wantErr = api.ErrKey
				}
				got, e := Move(k, by)
				expectKey(t, fmt.Sprint("Move of ", name, " by ", by), got, e, want, wantErr)
			}
		}
	}
}

func TestMoveWrong(t *testing.T) {
	far := []int{1 << 32, -1 << 32, 1 << 62, -1 << 62, math.MaxInt / 7, math.MinInt / 12, math.MinInt, math.MaxInt}
	var wide []api.Interval
	for _, n := range far {
		wide = append(wide, api.Interval{Steps: n}, api.Interval{Halves: n}, api.Interval{Steps: n, Halves: n}, api.Interval{Steps: 70, Halves: n}, api.Interval{Steps: n, Halves: 120})
		for _, m := range far {
			wide = append(wide, api.Interval{Steps: n, Halves: m})
		}
	}
	for _, by := range wide {
		for k := range rights() {
			got, e := Move(k, by)
			expectKey(t, fmt.Sprint("Move ", k, by), got, e, api.Key{}, api.ErrArg)
		}
	}
	for _, by := range append(wide, api.Interval{}, api.Interval{Steps: 4, Halves: 7}, api.Interval{Steps: 1, Halves: 1}, api.Interval{Steps: 71}, api.Interval{Halves: -121}, api.Interval{Halves: -1}, api.Interval{Halves: 1}) {
		for _, k := range wrongs() {
			got, e := Move(k, by)
			expectKey(t, fmt.Sprint("Move ", k, by), got, e, api.Key{}, api.ErrKey)
		}
	}
}

// P3.5

func TestSpellWritten(t *testing.T) {
	for _, c := range []struct {
		fifths, number int
		want           string
	}{
		{0, 60, "C4"}, {0, 61, "Db4"}, {0, 62, "D4"}, {0, 63, "Eb4"}, {0, 64, "E4"}, {0, 65, "F4"}, {0, 66, "F#4"}, {0, 67, "G4"}, {0, 68, "Ab4"}, {0, 69, "A4"}, {0, 70, "Bb4"}, {0, 71, "B4"},
		{2, 61, "C#4"}, {2, 68, "G#4"}, {2, 63, "Eb4"}, {2, 70, "Bb4"}, {-3, 61, "Db4"}, {-3, 66, "Gb4"}, {-3, 59, "Cb4"}, {5, 60, "C4"}, {5, 66, "F#4"}, {5, 65, "E#4"}, {6, 60, "B#3"}, {6, 59, "B3"}, {6, 61, "C#4"},
		{7, 60, "B#3"}, {7, 72, "B#4"}, {7, 59, "B3"}, {7, 61, "C#4"}, {7, 62, "D4"}, {7, 67, "F##4"}, {7, 69, "A4"}, {7, 64, "E4"}, {7, 65, "E#4"},
		{-7, 59, "Cb4"}, {-7, 60, "Dbb4"}, {-7, 71, "Cb5"}, {-7, 62, "Ebb4"}, {-7, 57, "Bbb3"}, {-7, 55, "Abb3"}, {-7, 64, "Fb4"}, {-7, 65, "F4"}, {-7, 61, "Db4"}, {-6, 59, "Cb4"}, {-6, 64, "Fb4"},
		{0, 0, "C-1"}, {5, 0, "C-1"}, {-7, 0, "Dbb-1"}, {-6, 0, "C-1"}, {6, 12, "B#-1"}, {7, 12, "B#-1"}, {7, 1, "C#-1"}, {-7, 1, "Db-1"}, {7, 11, "B-1"}, {-7, 11, "Cb0"}, {7, 2, "D-1"}, {-7, 2, "Ebb-1"},
		{0, 127, "G9"}, {7, 127, "F##9"}, {-7, 127, "Abb9"}, {7, 126, "F#9"}, {-7, 126, "Gb9"}, {7, 120, "B#8"}, {-7, 119, "Cb9"}, {6, 127, "G9"}, {-6, 127, "Abb9"}, {-5, 127, "G9"},
	} {
		for _, minor := range []bool{false, true} {
			p, e := Spell(of(c.fifths, minor), c.number)
			expectPitch(t, fmt.Sprintf("Spell %d in %d fifths (minor %t)", c.number, c.fifths, minor), p, e, read(t, c.want), api.OK)
		}
	}
}

// TestSpellAll looks for each number among all pitches, right or not, of the names that the key has on the line of fifths.
func TestSpellAll(t *testing.T) {
	names := strings.Fields(written)
	for k := range rights() {
		spelled := map[int]api.Pitch{}
		for _, name := range names[zero+k.Fifths-5 : zero+k.Fifths+7] {
			p := read(t, name+"4")
			for octave := -3; octave <= 11; octave++ {
				spelled[12*(octave+1)+halves[p.Step]+p.Alter] = api.Pitch{Step: p.Step, Alter: p.Alter, Octave: octave}
			}
		}
		refused := 0
		for number := 0; number <= 127; number++ {
			want, wantErr := spelled[number], api.OK
			if want.Octave < -1 || want.Octave > 9 {
				want, wantErr = api.Pitch{}, api.ErrPitch
				refused++
			}
			p, e := Spell(k, number)
			expectPitch(t, fmt.Sprint("Spell ", number, " in ", k), p, e, want, wantErr)
			if n, _ := pitch.Number(p); e == api.OK && n != number {
				t.Errorf("Spell(%v, %d) is %v, whose number is %d", k, number, p, n)
			}
		}
		if (refused > 0) != (k.Fifths >= 6) {
			t.Errorf("%v: %d numbers have no right pitch", k, refused)
		}
	}
}

func TestSpellWhereNoPitchIs(t *testing.T) {
	for _, k := range []api.Key{of(6, false), of(6, true), of(7, false), of(7, true)} {
		p, e := Spell(k, 0)
		expectPitch(t, fmt.Sprint("Spell 0 in ", k), p, e, api.Pitch{}, api.ErrPitch)
	}
}

func TestSpellWrong(t *testing.T) {
	numbers := []int{-1, 128, -12, 139, -60, 1<<32 + 60, -1<<32 + 60, 1 << 62, math.MinInt, math.MinInt + 59, math.MaxInt, math.MaxInt - 60}
	for k := range rights() {
		for _, number := range numbers {
			p, e := Spell(k, number)
			expectPitch(t, fmt.Sprint("Spell ", number, " in ", k), p, e, api.Pitch{}, api.ErrArg)
		}
	}
	for _, k := range wrongs() {
		for _, number := range append(numbers, 0, 60, 127) {
			p, e := Spell(k, number)
			expectPitch(t, fmt.Sprint("Spell ", number, " in ", k), p, e, api.Pitch{}, api.ErrKey)
		}
	}
}

// P3.6

func TestTextAndRead(t *testing.T) {
	if len(rights()) != 30 {
		t.Fatalf("%d keys are written down", len(rights()))
	}
	for k, want := range rights() {
		if s, e := Text(k); s != want || e != api.OK {
			t.Errorf("Text(%v): %q error %d, want %q", k, s, e, want)
		}
		got, e := Read(want)
		expectKey(t, fmt.Sprintf("Read(%q)", want), got, e, k, api.OK)
	}
}

func TestTextOfWrongKeys(t *testing.T) {
	for _, k := range wrongs() {
		if s, e := Text(k); s != "" || e != api.ErrKey {
			t.Errorf("Text(%v): %q error %d, want ErrKey", k, s, e)
		}
	}
}

func TestReadWrongTexts(t *testing.T) {
	for _, s := range []string{
		"", " ", "C", "major", "minor", " major", " minor", "C ", "C m", "C maj", "C min", "Cm", "Cmajor", "Am", "C Major", "C MAJOR", "C MINOR", "c major", "c minor", "a minor", "H major", "h minor", "B#major", "C  major", "C\tmajor", "C\nmajor", "C\u00a0major", "C_major", "C-major",
		" C major", "C major ", "C major\n", "\tC major", "C major\x00", "\x00C major", "C\x00major", "C major major", "C major minor", "C major C major", "C4 major", "C majo", "C majors", "major C", "#C major", "bB major", "C # major", "C majorminor",
		"G# major", "D# major", "A# major", "E# major", "B# major", "Fb major", "E## major", "Cbb major", "E# minor", "B# minor", "Db minor", "Gb minor", "Cb minor", "Fb minor", "A## minor", "Abb minor", "C#b major", "Cb# major", "F#b minor", "C## major", "F## minor", "Bbb major",
		"Dorian", "C dorian", "C dur", "C moll", "0", "-7", "7 major", "\u266f", "C\u266f major", "B\u266d major", "\u0421 major", "\uff23 major", "C\uff03 major", "\xff", "\xff major", "C\xff major", "C major\xff", "\ufffd major", "C m\u00e4jor",
		strings.Repeat("C", 5000), "C" + strings.Repeat("#", 5000) + " major", "C" + strings.Repeat("#b", 5000) + " major", "C" + strings.Repeat(" ", 5000) + "major", "C major" + strings.Repeat(" ", 5000), strings.Repeat("C major", 5000),
	} {
		k, e := Read(s)
		expectKey(t, fmt.Sprintf("Read(%.30q)", s), k, e, api.Key{}, api.ErrKey)
	}
}

// TestReadAllTextsOfPieces holds every text that is put together out of the pieces of right ones, and of some others, against the right ones.
func TestReadAllTextsOfPieces(t *testing.T) {
	names := map[string]api.Key{}
	for k, name := range rights() {
		names[name] = k
	}
	found := 0
	for _, letter := range strings.Split("C D E F G A B H c d e f g a b h 4", " ") {
		for _, signs := range []string{"", "#", "b", "##", "bb", "#b", "b#", "###", "bbb", "x", "4"} {
			for _, blank := range []string{"", " ", "  ", "\t", "-"} {
				for _, mode := range []string{"", "major", "minor", "Major", "Minor", "m", "major ", "min"} {
					s := letter + signs + blank + mode
					want, ok := names[s]
					wantErr := api.ErrKey
					if ok {
						wantErr = api.OK
						found++
					}
					k, e := Read(s)
					expectKey(t, fmt.Sprintf("Read(%q)", s), k, e, want, wantErr)
				}
			}
		}
	}
	if found != 30 {
		t.Errorf("%d right texts are among them", found)
	}
}

// P3.7

func TestTextsThereAndBack(t *testing.T) {
	texts := map[string]bool{}
	for k := range rights() {
		s, e := Text(k)
		if e != api.OK || texts[s] {
			t.Errorf("Text(%v): %q error %d, or told twice", k, s, e)
		}
		texts[s] = true
		back, e := Read(s)
		expectKey(t, fmt.Sprintf("Read(%q)", s), back, e, k, api.OK)
	}
}

func TestMovesThereAndBack(t *testing.T) {
	for k := range rights() {
		moved := 0
		for steps := -70; steps <= 70; steps++ {
			for halves := -120; halves <= 120; halves++ {
				there, e := Move(k, api.Interval{Steps: steps, Halves: halves})
				if e != api.OK {
					continue
				}
				moved++
				back, e := Move(there, api.Interval{Steps: -steps, Halves: -halves})
				expectKey(t, fmt.Sprint("Move ", k, " by ", steps, " ", halves, " and back"), back, e, k, api.OK)
			}
		}
		if moved < 15 {
			t.Errorf("%v could be moved %d times", k, moved)
		}
	}
}

func TestScalesAreSpelledAsTheyStand(t *testing.T) {
	for k := range rights() {
		l, e := Scale(k)
		if e != api.OK || len(l) != 7 {
			t.Fatalf("Scale(%v): %v error %d", k, l, e)
		}
		for i, p := range l {
			n, e := pitch.Number(p)
			if first, _ := pitch.Number(l[0]); e != api.OK || n < first || n >= first+12 {
				t.Errorf("%v: the pitch %d, %v, is not in the octave from the tonic on", k, i, p)
			}
			q, e := Spell(k, n)
			expectPitch(t, fmt.Sprint("Spell ", n, " in ", k), q, e, p, api.OK)
		}
	}
}

func TestSignaturesAlterToOneSide(t *testing.T) {
	for k := range rights() {
		up, down := 0, 0
		for step := 0; step <= 6; step++ {
			n, e := Alter(k, step)
			if e != api.OK || n < -1 || n > 1 {
				t.Errorf("Alter(%v, %d): %d error %d", k, step, n, e)
			}
			up, down = up+max(n, 0), down+max(-n, 0)
		}
		if up != max(k.Fifths, 0) || down != max(-k.Fifths, 0) {
			t.Errorf("%v: %d steps are altered up, %d down", k, up, down)
		}
	}
}

func TestMajorAndMinorAlterAlike(t *testing.T) {
	for fifths := -7; fifths <= 7; fifths++ {
		for step := 0; step <= 6; step++ {
			major, e := Alter(of(fifths, false), step)
			minor, f := Alter(of(fifths, true), step)
			if major != minor || e != api.OK || f != api.OK {
				t.Errorf("%d fifths, step %d: %d error %d, and %d error %d", fifths, step, major, e, minor, f)
			}
		}
	}
}
