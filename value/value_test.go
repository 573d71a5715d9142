package value

import (
	"fmt"
	"math"
	"math/big"
	"slices"
	"strings"
	"testing"

	"partita/api"
)

// Texts written down apart from the package: of the bases, and of all plain values of whole sixty-fourths, from the longest one down, with how many each has.
const (
	baseTexts = "1 2 4 8 16 32 64"
	fits      = "1.. 1. 1 2.. 2. 2 4.. 4. 4 8.. 8. 8 16.. 16. 16 32. 32 64"
)

var sixtyFourths = [18]int{112, 96, 64, 56, 48, 32, 28, 24, 16, 14, 12, 8, 7, 6, 4, 3, 2, 1}

// written are the kinds in their order: how a tuplet is written behind a value, and its terms.
var written = [4]struct {
	text     string
	num, den int
}{{"", 0, 0}, {"*3:2", 3, 2}, {"*5:4", 5, 4}, {"*7:4", 7, 4}}

func of(num, den int) api.Ratio { return api.Ratio{Num: num, Den: den} }

// rights are all right values with their texts.
func rights() map[api.Value]string {
	m := map[api.Value]string{}
	for base, text := range strings.Fields(baseTexts) {
		for dots, points := range []string{"", ".", ".."} {
			m[api.Value{Base: base, Dots: dots}] = text + points
			for num := 2; num <= 15; num++ {
				for den := 1; den <= 15; den++ {
					if num != den {
						m[api.Value{Base: base, Dots: dots, Num: num, Den: den}] = fmt.Sprintf("%s%s*%d:%d", text, points, num, den)
					}
				}
			}
		}
	}
	return m
}

// wrongs are values that are not right, each for one of the reasons there are.
func wrongs() []api.Value {
	var l []api.Value
	far := []int{100, -100, 1 << 32, -1 << 32, 1<<32 + 3, 1 << 62, math.MaxInt, math.MaxInt - 1, math.MinInt, math.MinInt + 1}
	for _, n := range append(far, -1, 7) {
		l = append(l, api.Value{Base: n}, api.Value{Base: n, Num: 3, Den: 2})
	}
	for _, n := range append(far, -1, 3) {
		l = append(l, api.Value{Dots: n}, api.Value{Base: 2, Dots: n, Num: 3, Den: 2})
	}
	for _, n := range append(far, -1, 0, 1, 16) {
		l = append(l, api.Value{Num: n, Den: 2}, api.Value{Base: 6, Dots: 2, Num: n, Den: 15})
	}
	for _, n := range append(far, -1, 0, 16) {
		l = append(l, api.Value{Num: 3, Den: n}, api.Value{Base: 6, Dots: 2, Num: 15, Den: n})
	}
	for _, n := range append(far, -1, 1, 2, 3, 15, 16) {
		l = append(l, api.Value{Num: n, Den: n}, api.Value{Num: n}, api.Value{Den: n})
	}
	for _, n := range far {
		l = append(l, api.Value{Base: n, Dots: n, Num: n, Den: n}, api.Value{Base: n, Dots: n, Num: n, Den: -n})
	}
	return l
}

// wrongRatios are ratios that are not right.
func wrongRatios() []api.Ratio {
	return []api.Ratio{
		{}, of(1, 0), of(-1, 0), of(0, 2), of(0, -1), of(2, 2), of(2, 8), of(2, 24), of(6, 4), of(4, 4), of(64, 64), of(128, 2), of(-2, 8), of(1, -4), of(-1, -4), of(-1, -12),
		of(api.MaxTerm+1, 1), of(1, api.MaxTerm+1), of(api.MaxTerm, api.MaxTerm), of(api.MaxTerm+1, api.MaxTerm), of(-api.MaxTerm-1, 1),
		of(1<<32, 1<<34), of(1<<62, 1<<62), of(1, 1<<32), of(1, 1<<62), of(math.MaxInt, 1), of(1, math.MaxInt), of(math.MaxInt, math.MaxInt), of(math.MaxInt, math.MaxInt-1),
		of(math.MinInt, 1), of(1, math.MinInt), of(math.MinInt, math.MinInt), of(math.MinInt, -4), of(math.MinInt, math.MaxInt),
	}
}

// exact is how long v is, by the words of P4.1, in numbers of any size.
func exact(v api.Value) *big.Rat {
	r := big.NewRat(1, 1)
	for range v.Base {
		r.Mul(r, big.NewRat(1, 2))
	}
	more := []*big.Rat{big.NewRat(0, 1), big.NewRat(1, 2), big.NewRat(3, 4)}[v.Dots]
	r.Add(r, more.Mul(more, r))
	if v.Num != 0 {
		r.Mul(r, big.NewRat(int64(v.Den), int64(v.Num)))
	}
	return r
}

func right(r *big.Rat) api.Ratio { return of(int(r.Num().Int64()), int(r.Denom().Int64())) }

// length is the right ratio that is num by den.
func length(num, den int) api.Ratio { return right(big.NewRat(int64(num), int64(den))) }

// P4.1

func TestRight(t *testing.T) {
	known := rights()
	if len(known) != 7*3*(1+14*15-14) {
		t.Fatalf("%d right values are written down", len(known))
	}
	for base := -2; base <= 9; base++ {
		for dots := -2; dots <= 5; dots++ {
			for num := -16; num <= 18; num++ {
				for den := -16; den <= 18; den++ {
					v := api.Value{Base: base, Dots: dots, Num: num, Den: den}
					if _, want := known[v]; Right(v) != want {
						t.Errorf("Right(%v) is %t", v, !want)
					}
				}
			}
		}
	}
	for _, v := range wrongs() {
		if Right(v) {
			t.Errorf("%v is not right", v)
		}
	}
}

func TestLengthWritten(t *testing.T) {
	for v, want := range map[api.Value]api.Ratio{
		{}:                                  of(1, 1),
		{Dots: 1}:                           of(3, 2),
		{Dots: 2}:                           of(7, 4),
		{Base: 1}:                           of(1, 2),
		{Base: 2}:                           of(1, 4),
		{Base: 2, Dots: 2}:                  of(7, 16),
		{Base: 3, Dots: 1}:                  of(3, 16),
		{Base: 6}:                           of(1, 64),
		{Base: 6, Dots: 1}:                  of(3, 128),
		{Base: 6, Dots: 2}:                  of(7, 256),
		{Base: 3, Num: 3, Den: 2}:           of(1, 12),
		{Base: 3, Dots: 1, Num: 3, Den: 2}:  of(1, 8),
		{Base: 2, Num: 5, Den: 4}:           of(1, 5),
		{Num: 2, Den: 1}:                    of(1, 2),
		{Num: 2, Den: 15}:                   of(15, 2),
		{Dots: 2, Num: 2, Den: 15}:          of(105, 8),
		{Base: 6, Num: 15, Den: 1}:          of(1, 960),
		{Base: 6, Dots: 2, Num: 15, Den: 1}: of(7, 3840),
		{Base: 4, Num: 6, Den: 4}:           of(1, 24),
		{Base: 1, Dots: 2, Num: 7, Den: 4}:  of(1, 2),
		{Base: 5, Num: 14, Den: 15}:         of(15, 448),
	} {
		if l, e := Length(v); l != want || e != api.OK {
			t.Errorf("Length(%v): %v error %d, want %v", v, l, e, want)
		}
	}
}

func TestLengthAll(t *testing.T) {
	for v := range rights() {
		if l, e := Length(v); l != right(exact(v)) || e != api.OK {
			t.Errorf("Length(%v): %v error %d, want %v", v, l, e, exact(v))
		}
	}
}

func TestLengthWrong(t *testing.T) {
	for _, v := range wrongs() {
		if l, e := Length(v); l != (api.Ratio{}) || e != api.ErrValue {
			t.Errorf("Length(%v): %v error %d, want ErrValue", v, l, e)
		}
	}
}

// P4.2

// found is what each length is found as: lengths that no kind has are not in it.
func found(texts map[api.Value]string) map[api.Ratio]string {
	m := map[api.Ratio]string{}
	for _, kind := range written {
		for base := range strings.Fields(baseTexts) {
			for dots := range 3 {
				v := api.Value{Base: base, Dots: dots, Num: kind.num, Den: kind.den}
				l := right(exact(v))
				if _, ok := m[l]; !ok {
					m[l] = texts[v]
				}
			}
		}
	}
	return m
}

func expectFound(t *testing.T, texts map[api.Value]string, l api.Ratio, want string) {
	t.Helper()
	v, ok := Find(l)
	if ok != (want != "") || ok && texts[v] != want || !ok && v != (api.Value{}) {
		t.Errorf("Find(%v): %v %t, want %q", l, v, ok, want)
	}
}

func TestFindWritten(t *testing.T) {
	texts := rights()
	for l, want := range map[api.Ratio]string{
		of(1, 1): "1", of(3, 2): "1.", of(7, 4): "1..", of(1, 4): "4", of(3, 8): "4.", of(7, 16): "4..", of(1, 64): "64", of(3, 128): "64.", of(7, 256): "64..", // 1 and 1/64 are also 1.*3:2 and 64..*7:4
		of(2, 3): "1*3:2", of(7, 6): "1..*3:2", of(1, 12): "8*3:2", of(7, 24): "4..*3:2", of(1, 96): "64*3:2", of(7, 384): "64..*3:2",
		of(4, 5): "1*5:4", of(6, 5): "1.*5:4", of(7, 5): "1..*5:4", of(1, 80): "64*5:4", of(3, 160): "64.*5:4", of(7, 320): "64..*5:4",
		of(4, 7): "1*7:4", of(6, 7): "1.*7:4", of(1, 7): "4*7:4", of(1, 112): "64*7:4", of(3, 224): "64.*7:4",
		of(5, 8): "", of(2, 1): "", of(64, 1): "", of(9, 8): "", of(1, 128): "", of(3, 256): "", of(1, 3): "2*3:2", of(4, 3): "", of(1, 192): "", of(1, 160): "", of(1, 224): "",
		of(1, 9): "", of(1, 11): "", of(1, 13): "", of(1, 15): "", of(2, 5): "2*5:4", of(2, 7): "2*7:4", of(8, 7): "", of(8, 5): "", of(0, 1): "", of(-1, 1): "", of(-1, 4): "", of(-1, 12): "",
		of(65, 1): "", of(api.MaxTerm, 1): "", of(-api.MaxTerm, 1): "", of(1, api.MaxTerm): "", of(api.MaxTerm, api.MaxTerm-1): "", of(api.MaxTerm-1, api.MaxTerm): "",
	} {
		expectFound(t, texts, l, want)
	}
}

func TestFindAll(t *testing.T) {
	texts := rights()
	known := found(texts)
	for l, want := range known {
		expectFound(t, texts, l, want)
		expectFound(t, texts, of(-l.Num, l.Den), "")
		expectFound(t, texts, of(-l.Num, -l.Den), "")
		expectFound(t, texts, of(2*l.Num, 2*l.Den), "")
	}
	for num := -2; num <= 130; num++ {
		for den := -2; den <= 400; den++ {
			expectFound(t, texts, of(num, den), known[of(num, den)])
		}
	}
	// Other tuplets are no kinds: what they last is found as another value, or not at all.
	for v := range texts {
		expectFound(t, texts, right(exact(v)), known[right(exact(v))])
	}
}

func TestFindWrong(t *testing.T) {
	for _, l := range wrongRatios() {
		expectFound(t, nil, l, "")
	}
}

// P4.3

// split is what a length is split into by the words of P4.3: it takes the texts of fits, the first one that there is room for; nil, if it is of whole units of no kind.
func split(l api.Ratio) []string {
	names := strings.Fields(fits)
	for _, kind := range written {
		units := big.NewRat(64*int64(l.Num), int64(l.Den))
		if kind.num != 0 {
			units.Mul(units, big.NewRat(int64(kind.num), int64(kind.den)))
		}
		if !units.IsInt() {
			continue
		}
		var parts []string
		for left := int(units.Num().Int64()); left > 0; {
			i := slices.IndexFunc(sixtyFourths[:], func(n int) bool { return n <= left })
			parts = append(parts, names[i]+kind.text)
			left -= sixtyFourths[i]
		}
		return parts
	}
	return nil
}

// expectSplit wants the values with these texts; ErrSplit, if there are none.
func expectSplit(t *testing.T, texts map[api.Value]string, l api.Ratio, want []string) {
	t.Helper()
	parts, e := Split(l)
	var got []string
	for _, v := range parts {
		got = append(got, texts[v])
	}
	wantErr := api.OK
	if len(want) == 0 {
		wantErr = api.ErrSplit
	}
	if !slices.Equal(got, want) || e != wantErr {
		t.Errorf("Split(%v): %v error %d, want %v error %d", l, got, e, want, wantErr)
	}
}

func TestSplitWritten(t *testing.T) {
	texts := rights()
	for l, want := range map[api.Ratio]string{
		of(1, 1): "1", of(3, 2): "1.", of(7, 4): "1..", of(1, 64): "64", of(1, 32): "32", of(3, 64): "32.", of(7, 64): "16..", of(5, 64): "16 64", of(5, 8): "2 8", of(9, 8): "1 8", of(5, 4): "1 4",
		of(2, 1): "1.. 4", of(9, 4): "1.. 2", of(15, 16): "2.. 16", of(63, 64): "2.. 16..", of(61, 64): "2.. 16 64", of(31, 64): "4.. 32.", of(3, 1): "1.. 1 4", of(7, 2): "1.. 1..", of(4, 1): "1.. 1.. 2",
		of(1, 12): "8*3:2", of(1, 3): "2*3:2", of(5, 12): "2*3:2 8*3:2", of(1, 96): "64*3:2", of(5, 96): "16*3:2 64*3:2", of(4, 3): "1..*3:2 4*3:2", of(1, 6): "4*3:2",
		of(1, 10): "8*5:4", of(1, 5): "4*5:4", of(1, 80): "64*5:4", of(9, 80): "8*5:4 64*5:4", of(8, 5): "1..*5:4 4*5:4",
		of(1, 7): "4*7:4", of(1, 112): "64*7:4", of(5, 112): "16*7:4 64*7:4", of(8, 7): "1..*7:4 4*7:4", of(3, 7): "2.*7:4",
	} {
		expectSplit(t, texts, l, strings.Fields(want))
	}
	// Of no kind are the units whole, be the length ever so like a value's.
	for _, l := range []api.Ratio{of(7, 256), of(3, 128), of(1, 128), of(1, 192), of(7, 384), of(1, 160), of(1, 224), of(1, 9), of(1, 11), of(1, 13), of(1, 15), of(1, 21), of(1, 35), of(1, 49), of(16, 9), of(1, api.MaxTerm), of(api.MaxTerm, api.MaxTerm-1), of(999999937, 999999929)} {
		expectSplit(t, texts, l, nil)
	}
}

func TestSplitEnds(t *testing.T) {
	texts := rights()
	all := strings.Fields(strings.Repeat("1.. ", 36) + "1")
	expectSplit(t, texts, of(64, 1), all)
	expectSplit(t, texts, of(4095, 64), append(slices.Clone(all[:36]), "2..", "16.."))
	expectSplit(t, texts, of(6143, 96), append(strings.Fields(strings.Repeat("1..*3:2 ", 54)), "1*3:2", "4..*3:2", "32.*3:2")) // 6143 units: 54 times 112, and 95
	expectSplit(t, texts, of(7167, 112), append(strings.Fields(strings.Repeat("1..*7:4 ", 63)), "1.*7:4", "8..*7:4", "64*7:4"))
	for _, l := range []api.Ratio{of(0, 1), of(-1, 1), of(-1, 4), of(-1, 64), of(-1, 12), of(-64, 1), of(-api.MaxTerm, 1), of(-1, api.MaxTerm), of(65, 1), of(129, 2), of(4097, 64), of(6145, 96), of(5121, 80), of(7169, 112), of(128, 1), of(api.MaxTerm, 1), of(api.MaxTerm, 7), of(999999999, 15625000), of(1000000000, 15624999), of(999999999, 15624983)} {
		expectSplit(t, texts, l, nil)
	}
}

func TestSplitAll(t *testing.T) {
	texts := rights()
	for _, den := range []int{64, 80, 96, 112} {
		for num := 1; num <= 64*den; num++ {
			l := length(num, den)
			expectSplit(t, texts, l, split(l))
		}
	}
	for den := 1; den <= 130; den++ {
		for num := 1; num <= 2*den; num++ {
			l := length(num, den)
			expectSplit(t, texts, l, split(l))
		}
	}
}

func TestSplitWrong(t *testing.T) {
	for _, l := range wrongRatios() {
		expectSplit(t, nil, l, nil)
	}
}

func TestSplitIsNewMemory(t *testing.T) {
	first, _ := Split(of(64, 1))
	spoiled, _ := Split(of(64, 1))
	for i := range spoiled[:cap(spoiled)] {
		spoiled[:cap(spoiled)][i] = api.Value{Base: 99}
	}
	again, e := Split(of(64, 1))
	if e != api.OK || slices.Contains(first, api.Value{Base: 99}) || !slices.Equal(first, again) {
		t.Errorf("parts share their memory: %v and %v", first, again)
	}
}

// P4.4

func TestTextWritten(t *testing.T) {
	for want, v := range map[string]api.Value{
		"1": {}, "2": {Base: 1}, "64": {Base: 6}, "1.": {Dots: 1}, "64..": {Base: 6, Dots: 2}, "4.": {Base: 2, Dots: 1}, "32..": {Base: 5, Dots: 2},
		"8*3:2": {Base: 3, Num: 3, Den: 2}, "16.*5:4": {Base: 4, Dots: 1, Num: 5, Den: 4}, "1*2:1": {Num: 2, Den: 1}, "1*2:15": {Num: 2, Den: 15}, "64..*15:1": {Base: 6, Dots: 2, Num: 15, Den: 1}, "2*15:14": {Base: 1, Num: 15, Den: 14}, "4*6:4": {Base: 2, Num: 6, Den: 4}, "8*10:8": {Base: 3, Num: 10, Den: 8},
	} {
		if s, e := Text(v); s != want || e != api.OK {
			t.Errorf("Text(%v): %q error %d, want %q", v, s, e, want)
		}
		if got, e := Read(want); got != v || e != api.OK {
			t.Errorf("Read(%q): %v error %d, want %v", want, got, e, v)
		}
	}
}

func TestTextAll(t *testing.T) {
	for v, want := range rights() {
		if s, e := Text(v); s != want || e != api.OK {
			t.Errorf("Text(%v): %q error %d, want %q", v, s, e, want)
		}
	}
	for _, v := range wrongs() {
		if s, e := Text(v); s != "" || e != api.ErrValue {
			t.Errorf("Text(%v): %q error %d, want ErrValue", v, s, e)
		}
	}
}

func TestReadWrongTexts(t *testing.T) {
	for _, s := range []string{
		"", " ", ".", "..", "*", ":", "*:", "*3:2", ".*3:2", "0", "-1", "+1", "-4", "+4", "3", "5", "6", "7", "9", "10", "12", "15", "24", "48", "63", "65", "128", "256", "512", "1024", "01", "04", "064", "00", "-0",
		"4...", "4....", "..4", ".4", "4.0", "4.4", "4 .", "4. ", " 4", "4 ", "4\n", "\t4", "4\x00", "4,", "4*", "4.*", "4*3", "4*3:", "4*:2", "4*:", "4*3:2.", "4*3.:2", "4*3:2*", "4*3:2:", "4*3:2:1", "4*3:2*3:2", "4**3:2", "4*3::2", "4:3:2", "4*3*2", "4:3*2",
		"4*0:0", "4*00:0", "4*0:1", "4*2:0", "4*0:2", "4*1:2", "4*1:1", "4*2:2", "4*3:3", "4*15:15", "4*16:2", "4*16:15", "4*15:16", "4*2:16", "4*100:2", "4*3:100", "4*-3:2", "4*3:-2", "4*-3:-2", "4*+3:2", "4*3:+2", "4*03:2", "4*3:02", "4*003:002", "4* 3:2", "4*3 :2", "4*3: 2", "4 *3:2", "4*3:2 ",
		"4*x:y", "4*3:y", "4*0x3:2", "4*3_0:2", "4*3e0:2", "4*3.0:2", "4*9223372036854775807:2", "4*9223372036854775808:2", "4*-9223372036854775808:2", "4*3:18446744073709551618", "4*18446744073709551619:2", "4*99999999999999999999:99999999999999999999", "4*4294967299:2",
		"9223372036854775807", "-9223372036854775808", "18446744073709551620", "4294967300", "1e0", "0x4", "4/1", "1/4", "q", "4q", "q4", "quarter", "４", "٤", "4·", "4∗3:2", "4*3：2", "\xff", "4\xff", "\xff4",
		"4" + strings.Repeat(".", 5000), strings.Repeat("0", 5000) + "4", strings.Repeat("4", 5000), strings.Repeat("*", 5000), "4*" + strings.Repeat("3", 5000) + ":2", "4*3:" + strings.Repeat("0", 5000) + "2",
	} {
		if v, e := Read(s); v != (api.Value{}) || e != api.ErrText {
			t.Errorf("Read(%q): %v error %d, want ErrText", s, v, e)
		}
	}
}

func expectRead(t *testing.T, known map[string]api.Value, s string) {
	t.Helper()
	want, ok := known[s]
	wantErr := api.OK
	if !ok {
		wantErr = api.ErrText
	}
	if v, e := Read(s); v != want || e != wantErr {
		t.Errorf("Read(%q): %v error %d, want %v error %d", s, v, e, want, wantErr)
	}
}

// TestReadAll holds every short text, and what is one byte off the text of a value, against the texts of all right values.
func TestReadAll(t *testing.T) {
	known := map[string]api.Value{}
	for v, s := range rights() {
		known[s] = v
	}
	texts := []string{""}
	for from := 0; from < len(texts); from++ {
		expectRead(t, known, texts[from])
		if len(texts[from]) < 5 {
			for _, b := range "0123468.*:" {
				texts = append(texts, texts[from]+string(b))
			}
		}
	}
	for s := range known {
		expectRead(t, known, s)
		for i := range s {
			expectRead(t, known, s[:i])
			expectRead(t, known, s[i:])
			expectRead(t, known, s[:i]+s[i+1:])
			for _, b := range "0159.*:-+ " {
				expectRead(t, known, s[:i]+string(b)+s[i:])
				expectRead(t, known, s[:i]+string(b)+s[i+1:])
			}
		}
		expectRead(t, known, s+s)
		expectRead(t, known, s+" ")
	}
}

// P4.5

func TestSplitIsAsLong(t *testing.T) {
	for _, den := range []int{64, 80, 96, 112} {
		for num := 1; num <= 64*den; num++ {
			l := length(num, den)
			parts, e := Split(l)
			if e != api.OK || len(parts) == 0 {
				t.Errorf("Split(%v): %v error %d", l, parts, e)
			}
			sum, last := new(big.Rat), big.NewRat(64, 1)
			for _, v := range parts {
				part, e := Length(v)
				long := big.NewRat(int64(part.Num), int64(max(part.Den, 1)))
				if e != api.OK || long.Cmp(last) > 0 {
					t.Errorf("Split(%v): %v, of which %v is longer than the one ahead (error %d)", l, parts, v, e)
				}
				sum.Add(sum, long)
				last = long
			}
			if right(sum) != l {
				t.Errorf("Split(%v): %v, which is %v long", l, parts, sum)
			}
		}
	}
}

func TestFoundIsSplitIntoItself(t *testing.T) {
	held := 0
	for v := range rights() {
		l, _ := Length(v)
		w, ok := Find(l)
		bare, e := Length(api.Value{Base: w.Base, Dots: w.Dots})
		if !ok || e != api.OK || 64%bare.Den != 0 {
			continue
		}
		held++
		if parts, e := Split(l); !slices.Equal(parts, []api.Value{w}) || e != api.OK {
			t.Errorf("Split(%v): %v error %d, want %v alone", l, parts, e, w)
		}
	}
	if held < 4*len(sixtyFourths) {
		t.Errorf("only %d were found", held)
	}
}

func TestShownIsReadBack(t *testing.T) {
	for v := range rights() {
		s, e := Text(v)
		if e != api.OK {
			t.Errorf("Text(%v): error %d", v, e)
		}
		if got, e := Read(s); got != v || e != api.OK {
			t.Errorf("Read(%q): %v error %d, want %v", s, got, e, v)
		}
	}
}
