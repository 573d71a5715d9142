package ratio

import (
	"fmt"
	"math"
	"math/big"
	"strings"
	"testing"

	"partita/api"
)

func of(num, den int) api.Ratio { return api.Ratio{Num: num, Den: den} }

// edges are numbers around every limit that Of and Right have to heed.
func edges() []int {
	l := []int{0}
	for _, n := range []int{1, 2, 3, 6, 7, 64, 999999937, api.MaxTerm - 1, api.MaxTerm, api.MaxTerm + 1, 2 * api.MaxTerm, 2*api.MaxTerm + 2, 1 << 31, 1 << 32, 1 << 62, math.MaxInt / api.MaxTerm, math.MaxInt - 1, math.MaxInt} {
		l = append(l, n, -n)
	}
	return append(l, math.MinInt)
}

// rights are right ratios: ordinary ones, and those at the limits.
func rights() []api.Ratio {
	l := []api.Ratio{of(0, 1)}
	for _, a := range []api.Ratio{of(1, 1), of(2, 1), of(1, 2), of(2, 3), of(3, 4), of(5, 12), of(7, 64), of(9, 8), of(1, 31623), of(31623, 1), of(999999937, 999999929), of(1, api.MaxTerm), of(1, api.MaxTerm-1), of(api.MaxTerm-1, api.MaxTerm), of(api.MaxTerm, api.MaxTerm-1), of(api.MaxTerm-1, 1), of(api.MaxTerm, 1)} {
		l = append(l, a, of(-a.Num, a.Den))
	}
	return l
}

// wrongs are ratios that are not right, each for one of the reasons there are.
func wrongs() []api.Ratio {
	return []api.Ratio{
		{}, of(1, 0), of(0, 2), of(0, -1), of(2, 4), of(-3, 6), of(1, -2), of(-1, -2), of(api.MaxTerm, api.MaxTerm), of(api.MaxTerm, 2),
		of(api.MaxTerm+1, 1), of(-api.MaxTerm-1, 1), of(1, api.MaxTerm+1), of(1, -api.MaxTerm),
		of(math.MaxInt, 1), of(math.MinInt, 1), of(1, math.MaxInt), of(1, math.MinInt), of(math.MinInt, math.MinInt),
	}
}

// exact is the right ratio that a number of any size is, by the words of P1.1.
func exact(r *big.Rat) (api.Ratio, api.Errno) {
	limit := big.NewInt(api.MaxTerm)
	if r.Num().CmpAbs(limit) > 0 || r.Denom().CmpAbs(limit) > 0 {
		return api.Ratio{}, api.ErrRatio
	}
	return of(int(r.Num().Int64()), int(r.Denom().Int64())), api.OK
}

func rat(a api.Ratio) *big.Rat { return big.NewRat(int64(a.Num), int64(a.Den)) }

type operation struct {
	name string
	do   func(a, b api.Ratio) (api.Ratio, api.Errno)
	big  func(z, a, b *big.Rat) *big.Rat
}

func operations() []operation {
	return []operation{
		{"Add", Add, (*big.Rat).Add},
		{"Sub", Sub, (*big.Rat).Sub},
		{"Mul", Mul, (*big.Rat).Mul},
		{"Div", Div, (*big.Rat).Quo},
	}
}

func expect(t *testing.T, call string, got api.Ratio, e api.Errno, want api.Ratio, wantErr api.Errno) {
	t.Helper()
	if got != want || e != wantErr {
		t.Errorf("%s: %v error %d, want %v error %d", call, got, e, want, wantErr)
	}
}

// P1.1

func TestOfWritten(t *testing.T) {
	for _, c := range []struct {
		num, den int
		want     api.Ratio
		e        api.Errno
	}{
		{6, -8, of(-3, 4), api.OK},
		{-6, -8, of(3, 4), api.OK},
		{0, -7, of(0, 1), api.OK},
		{0, math.MinInt, of(0, 1), api.OK},
		{0, 0, api.Ratio{}, api.ErrZero},
		{5, 0, api.Ratio{}, api.ErrZero},
		{math.MinInt, 0, api.Ratio{}, api.ErrZero},
		{api.MaxTerm, 1, of(api.MaxTerm, 1), api.OK},
		{-api.MaxTerm, 1, of(-api.MaxTerm, 1), api.OK},
		{1, api.MaxTerm, of(1, api.MaxTerm), api.OK},
		{1, -api.MaxTerm, of(-1, api.MaxTerm), api.OK},
		{api.MaxTerm + 1, 1, api.Ratio{}, api.ErrRatio},
		{-api.MaxTerm - 1, 1, api.Ratio{}, api.ErrRatio},
		{1, api.MaxTerm + 1, api.Ratio{}, api.ErrRatio},
		{2 * api.MaxTerm, 2, of(api.MaxTerm, 1), api.OK},
		{2*api.MaxTerm + 2, 2, api.Ratio{}, api.ErrRatio},
		{math.MinInt, math.MinInt, of(1, 1), api.OK},
		{math.MinInt, -1, api.Ratio{}, api.ErrRatio},
		{math.MinInt, 1 << 62, of(-2, 1), api.OK},
		{math.MinInt, -1 << 62, of(2, 1), api.OK},
		{math.MaxInt, math.MinInt, api.Ratio{}, api.ErrRatio},
		{1<<32 + 1, 1 << 32, api.Ratio{}, api.ErrRatio},
	} {
		a, e := Of(c.num, c.den)
		expect(t, fmt.Sprintf("Of(%d, %d)", c.num, c.den), a, e, c.want, c.e)
	}
}

func TestOfAgainstExactNumbers(t *testing.T) {
	for _, num := range edges() {
		for _, den := range edges() {
			if den == 0 {
				continue
			}
			want, wantErr := exact(big.NewRat(int64(num), int64(den)))
			a, e := Of(num, den)
			expect(t, fmt.Sprintf("Of(%d, %d)", num, den), a, e, want, wantErr)
			if e == api.OK && !Right(a) {
				t.Errorf("Of(%d, %d) is not right: %v", num, den, a)
			}
		}
	}
}

func TestRight(t *testing.T) {
	for _, a := range rights() {
		if !Right(a) {
			t.Errorf("%v is right", a)
		}
	}
	for _, a := range wrongs() {
		if Right(a) {
			t.Errorf("%v is not right", a)
		}
	}
	for num := -30; num <= 30; num++ {
		for den := -30; den <= 30; den++ {
			want := den > 0 && lowest(num, den) == of(num, den)
			if Right(of(num, den)) != want {
				t.Errorf("Right(%d by %d) is %t", num, den, !want)
			}
		}
	}
}

// lowest is num by den in lowest terms; den is not 0.
func lowest(num, den int) api.Ratio {
	a, _ := exact(big.NewRat(int64(num), int64(den)))
	return a
}

// P1.2

func TestOperationsWritten(t *testing.T) {
	for _, c := range []struct {
		a, b                api.Ratio
		sum, less, by, quot api.Ratio // the zero value: there is none
	}{
		{of(1, 4), of(1, 6), of(5, 12), of(1, 12), of(1, 24), of(3, 2)},
		{of(3, 4), of(-1, 6), of(7, 12), of(11, 12), of(-1, 8), of(-9, 2)},
		{of(-1, 2), of(1, 2), of(0, 1), of(-1, 1), of(-1, 4), of(-1, 1)},
		{of(0, 1), of(-2, 3), of(-2, 3), of(2, 3), of(0, 1), of(0, 1)},
		{of(api.MaxTerm, 1), of(-api.MaxTerm, 1), of(0, 1), api.Ratio{}, api.Ratio{}, of(-1, 1)},
		{of(api.MaxTerm-1, 1), of(1, 1), of(api.MaxTerm, 1), of(api.MaxTerm-2, 1), of(api.MaxTerm-1, 1), of(api.MaxTerm-1, 1)},
		{of(api.MaxTerm, 1), of(1, 1), api.Ratio{}, of(api.MaxTerm-1, 1), of(api.MaxTerm, 1), of(api.MaxTerm, 1)},
		{of(1, api.MaxTerm), of(1, 1), api.Ratio{}, of(1-api.MaxTerm, api.MaxTerm), of(1, api.MaxTerm), of(1, api.MaxTerm)},
		{of(1, api.MaxTerm-1), of(1, api.MaxTerm), api.Ratio{}, api.Ratio{}, api.Ratio{}, of(api.MaxTerm, api.MaxTerm-1)},
	} {
		for i, want := range []api.Ratio{c.sum, c.less, c.by, c.quot} {
			op := operations()[i]
			wantErr := api.OK
			if want == (api.Ratio{}) {
				wantErr = api.ErrRatio
			}
			r, e := op.do(c.a, c.b)
			expect(t, fmt.Sprint(op.name, c.a, c.b), r, e, want, wantErr)
		}
	}
}

func TestOperationsAgainstExactNumbers(t *testing.T) {
	for _, op := range operations() {
		for _, a := range rights() {
			for _, b := range rights() {
				if op.name == "Div" && b.Num == 0 {
					continue
				}
				want, wantErr := exact(op.big(new(big.Rat), rat(a), rat(b)))
				r, e := op.do(a, b)
				expect(t, fmt.Sprint(op.name, a, b), r, e, want, wantErr)
			}
		}
	}
}

func TestOperationsOnWrongRatios(t *testing.T) {
	for _, op := range operations() {
		for _, wrong := range wrongs() {
			for _, other := range append(rights(), wrongs()...) {
				r, e := op.do(wrong, other)
				expect(t, fmt.Sprint(op.name, wrong, other), r, e, api.Ratio{}, api.ErrRatio)
				r, e = op.do(other, wrong)
				expect(t, fmt.Sprint(op.name, other, wrong), r, e, api.Ratio{}, api.ErrRatio)
			}
		}
	}
}

func TestDivByZero(t *testing.T) {
	for _, a := range rights() {
		r, e := Div(a, of(0, 1))
		expect(t, fmt.Sprint("Div", a, " by 0"), r, e, api.Ratio{}, api.ErrZero)
	}
}

// P1.3

func TestCompare(t *testing.T) {
	for _, a := range rights() {
		for _, b := range rights() {
			if got, want := Compare(a, b), rat(a).Cmp(rat(b)); got != want {
				t.Errorf("Compare(%v, %v) is %d, want %d", a, b, got, want)
			}
		}
		for _, wrong := range wrongs() {
			if Compare(a, wrong) != 0 || Compare(wrong, a) != 0 || Compare(wrong, wrong) != 0 {
				t.Errorf("Compare of %v, which is not right, and %v is not 0", wrong, a)
			}
		}
	}
}

func TestFloor(t *testing.T) {
	for a, want := range map[api.Ratio]int{
		of(0, 1): 0, of(1, 2): 0, of(-1, 2): -1, of(-3, 4): -1, of(7, 2): 3, of(-7, 2): -4, of(8, 1): 8, of(-8, 1): -8,
		of(1, api.MaxTerm): 0, of(-1, api.MaxTerm): -1, of(api.MaxTerm-1, api.MaxTerm): 0, of(1-api.MaxTerm, api.MaxTerm): -1,
		of(api.MaxTerm, api.MaxTerm-1): 1, of(-api.MaxTerm, api.MaxTerm-1): -2, of(api.MaxTerm, 1): api.MaxTerm, of(-api.MaxTerm, 1): -api.MaxTerm,
	} {
		if n, e := Floor(a); n != want || e != api.OK {
			t.Errorf("Floor(%v) is %d error %d, want %d", a, n, e, want)
		}
	}
	for _, a := range wrongs() {
		if n, e := Floor(a); n != 0 || e != api.ErrRatio {
			t.Errorf("Floor(%v) is %d error %d, want error %d", a, n, e, api.ErrRatio)
		}
	}
}

// P1.4

func TestText(t *testing.T) {
	for a, want := range map[api.Ratio]string{
		of(0, 1): "0", of(5, 1): "5", of(-5, 1): "-5", of(3, 4): "3/4", of(-3, 4): "-3/4", of(10, 101): "10/101",
		of(api.MaxTerm, 1): "1000000000", of(-api.MaxTerm, 1): "-1000000000", of(-1, api.MaxTerm): "-1/1000000000", of(api.MaxTerm, 7): "1000000000/7",
	} {
		if s, e := Text(a); s != want || e != api.OK {
			t.Errorf("Text(%v) is %q error %d, want %q", a, s, e, want)
		}
		r, e := Read(want)
		expect(t, fmt.Sprintf("Read(%q)", want), r, e, a, api.OK)
	}
	for _, a := range wrongs() {
		if s, e := Text(a); s != "" || e != api.ErrRatio {
			t.Errorf("Text(%v) is %q error %d, want error %d", a, s, e, api.ErrRatio)
		}
	}
}

func TestReadWrongTexts(t *testing.T) {
	for _, s := range []string{
		"", "-", "+", "/", "-/", "1/", "/2", "-/2", "--1", "+1", "-+1", "1-", "-0", "+0", "00", "01", "-01", "0/1", "0/5", "1/1", "5/1", "2/4", "-2/4", "2/2",
		"1/0", "0/0", "1/-2", "-1/-2", "1/+2", "1/02", "01/2", "1//2", "1/2/", "1/2/3", "1\\2", "1:2",
		" 1", "1 ", "1 /2", "1/ 2", "\t1", "1\n", "1\x00", "\x001", "1.5", "1.0", "1,5", "1e3", "1_000", "0x1", "0b1", "1/0x2", "x", "NaN", "Inf",
		"1000000001", "-1000000001", "1/1000000001", "1000000000/1000000000", "9223372036854775807", "9223372036854775808", "-9223372036854775808", "-9223372036854775809",
		"18446744073709551617", "1/18446744073709551618", "99999999999999999999", "1/99999999999999999999", "-99999999999999999999/7",
		"½", "−1", "1⁄2", "１", "١", "\xff", "1\xff", strings.Repeat("0", 5000) + "1", strings.Repeat("9", 5000), strings.Repeat("/", 5000),
	} {
		r, e := Read(s)
		expect(t, fmt.Sprintf("Read(%q)", s), r, e, api.Ratio{}, api.ErrText)
	}
}

// TestReadAllShortTexts holds every short text against the texts of all right ratios that could be as short.
func TestReadAllShortTexts(t *testing.T) {
	known := map[string]api.Ratio{}
	for num := -2224; num <= 2224; num++ {
		known[fmt.Sprint(num)] = of(num, 1)
	}
	for num := -99; num <= 99; num++ {
		for den := 2; den <= 99; den++ {
			if lowest(num, den) == of(num, den) {
				known[fmt.Sprintf("%d/%d", num, den)] = of(num, den)
			}
		}
	}
	texts := []string{""}
	for from := 0; from < len(texts); from++ {
		s := texts[from]
		want, ok := known[s]
		wantErr := api.OK
		if !ok {
			wantErr = api.ErrText
		}
		r, e := Read(s)
		expect(t, fmt.Sprintf("Read(%q)", s), r, e, want, wantErr)
		if len(s) < 4 {
			for _, b := range "-+/ 012" {
				texts = append(texts, s+string(b))
			}
		}
	}
}

// P1.5

// small are ratios of which sums and products of three are right.
func small() []api.Ratio {
	var l []api.Ratio
	for num := -5; num <= 5; num++ {
		for den := 1; den <= 6; den++ {
			if a := of(num, den); Right(a) {
				l = append(l, a)
			}
		}
	}
	return l
}

// chain does one operation with a and b, another with that and c; ok, if both are right.
func chain(first, second func(a, b api.Ratio) (api.Ratio, api.Errno), a, b, c api.Ratio) (api.Ratio, bool) {
	r, e := first(a, b)
	if e != api.OK {
		return r, false
	}
	r, e = second(r, c)
	return r, e == api.OK
}

func TestChangePlaces(t *testing.T) {
	for _, op := range []operation{operations()[0], operations()[2]} {
		for _, a := range rights() {
			for _, b := range rights() {
				want, wantErr := op.do(a, b)
				r, e := op.do(b, a)
				expect(t, fmt.Sprint(op.name, b, a), r, e, want, wantErr)
			}
		}
	}
}

func TestTakenTogether(t *testing.T) {
	for _, op := range []operation{operations()[0], operations()[2]} {
		held := 0
		for _, l := range [][]api.Ratio{small(), rights()} {
			for _, a := range l {
				for _, b := range l {
					for _, c := range l {
						left, ok := chain(op.do, op.do, a, b, c)
						right, also := chain(op.do, op.do, b, c, a)
						if ok && also {
							held++
							expect(t, fmt.Sprint(op.name, a, b, c), left, api.OK, right, api.OK)
						}
					}
				}
			}
		}
		if held < len(small())*len(small())*len(small()) {
			t.Errorf("%s: only %d could be held against each other", op.name, held)
		}
	}
}

func TestTakenApart(t *testing.T) {
	held := 0
	for _, l := range [][]api.Ratio{small(), rights()} {
		for _, a := range l {
			for _, b := range l {
				for _, c := range l {
					whole, ok := chain(Add, Mul, a, b, c)
					first, e := Mul(a, c)
					second, f := Mul(b, c)
					if !ok || e != api.OK || f != api.OK {
						continue
					}
					held++
					sum, e := Add(first, second)
					expect(t, fmt.Sprint("apart", a, b, c), sum, e, whole, api.OK)
				}
			}
		}
	}
	if held < len(small())*len(small())*len(small()) {
		t.Errorf("only %d could be held against each other", held)
	}
}

func TestShownIsReadBack(t *testing.T) {
	for _, a := range append(rights(), small()...) {
		s, e := Text(a)
		if e != api.OK {
			t.Errorf("Text(%v): error %d", a, e)
		}
		r, e := Read(s)
		expect(t, fmt.Sprintf("Read(%q)", s), r, e, a, api.OK)
	}
}
