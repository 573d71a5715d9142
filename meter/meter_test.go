package meter

import (
	"math"
	"math/big"
	"slices"
	"testing"

	"partita/api"
)

// Written down apart from the package: the Dens that may be, those of compound meters, and the Nums of these.
var (
	dens         = []int{1, 2, 4, 8, 16, 32, 64}
	compoundDens = []int{8, 16, 32, 64}
	compoundNums = []int{6, 9, 12, 15, 18, 21, 24, 27, 30}
	far          = []int{33, 100, -100, 1 << 32, -1 << 32, 1<<32 + 4, 1 << 62, -1 << 62, math.MaxInt, math.MaxInt - 1, math.MinInt, math.MinInt + 1}
)

func of(num, den int) api.Ratio { return api.Ratio{Num: num, Den: den} }

func as(num, den int, groups ...int) api.Meter {
	return api.Meter{Num: num, Den: den, Groups: groups}
}

func list(l ...api.Ratio) []api.Ratio { return l }

func times(n, group int) []int { return slices.Repeat([]int{group}, n) }

// sums are all lists of numbers, each 1 or more, that are n together.
func sums(n int) [][]int {
	if n == 0 {
		return [][]int{nil}
	}
	var l [][]int
	for first := 1; first <= n; first++ {
		for _, rest := range sums(n - first) {
			l = append(l, append([]int{first}, rest...))
		}
	}
	return l
}

// rights are right meters: each Num with each Den, without groups, and with some; the small ones with all that there are.
func rights() []api.Meter {
	var l []api.Meter
	for num := 1; num <= 32; num++ {
		all := [][]int{nil, {}, {num}, times(num, 1)}
		if num <= 6 {
			all = append(all, sums(num)...)
		}
		if num > 6 {
			all = append(all, []int{1, num - 1}, []int{num - 1, 1}, []int{2, 3, num - 5}, []int{num - 5, 3, 2}, []int{num - 6, 4, 1, 1})
		}
		for _, den := range dens {
			for _, groups := range all {
				l = append(l, as(num, den, groups...))
			}
		}
	}
	return l
}

// few are right meters that are unlike in what matters to places.
func few() []api.Meter {
	return []api.Meter{
		as(4, 4), as(3, 4), as(1, 1), as(1, 64), as(3, 8), as(6, 8), as(6, 4), as(9, 16), as(12, 8), as(5, 8, 2, 3), as(5, 8, 3, 2), as(6, 8, 2, 2, 2), as(6, 8, 1, 4, 1), as(7, 8), as(7, 16, 2, 2, 3), as(4, 4, 4), as(4, 2, 1, 3), as(15, 32), as(32, 64), as(32, 1), as(32, 1, 31, 1), as(30, 64),
	}
}

// wrongs are meters that are not right.
func wrongs() []api.Meter {
	l := []api.Meter{
		{}, as(0, 0, 0), as(4, 4, 0), as(4, 4, 3), as(4, 4, 5), as(4, 4, 4, 0), as(4, 4, 0, 4), as(4, 4, 2, 0, 2), as(4, 4, 5, -1), as(4, 4, -1, 5), as(4, 4, 2, -1, 3), as(4, 4, 1, 1, 1), as(4, 4, 1, 1, 1, 1, 1), as(4, 4, 4, 4), as(4, 4, 2, 1), as(4, 4, 1, 4),
		as(1, 4, 0), as(1, 4, 1, 0), as(1, 4, 2), as(1, 4, 1, 1), as(1, 4, 2, -1), as(32, 64, 31), as(32, 64, 31, 2), as(32, 64, 33), as(32, 64, times(31, 1)...), as(32, 64, times(33, 1)...), as(4, 4, times(100000, 1)...), as(4, 4, times(100000, 0)...), as(6, 8, 3), as(6, 8, 3, 3, 3),
		as(0, 4, 0), as(33, 4, 33), as(33, 4, 32, 1), as(33, 8, times(11, 3)...), as(36, 8), as(-4, 4, -4), as(-1, 4, -1), as(0, 4, 1, -1),
		as(4, 4, math.MaxInt, math.MaxInt, 6), as(4, 4, math.MinInt, math.MinInt, 4), as(4, 4, 4, math.MinInt, math.MinInt), as(4, 4, math.MinInt, math.MaxInt, 5), as(4, 4, math.MaxInt, math.MinInt, 5), as(4, 4, 1<<62, 1<<62, 1<<62, 1<<62, 4), as(4, 4, 1<<32+4), as(4, 4, math.MinInt), as(4, 4, math.MaxInt),
		as(math.MaxInt, 4, math.MaxInt), as(math.MinInt, 4, math.MinInt), as(math.MinInt, math.MinInt, math.MinInt), as(math.MaxInt, math.MaxInt, math.MaxInt), as(-2, 4, math.MaxInt, math.MaxInt), as(0, 4, math.MinInt, math.MinInt),
	}
	for _, n := range append(far, 0, -1, -4) {
		l = append(l, as(n, 4), as(n, 8, n), as(4, n), as(4, n, 2, 2), as(n, n), as(n, 64, 1, n), as(4, 4, n, 4-n), as(4, 4, 2, n))
	}
	for den := -64; den <= 256; den++ {
		if !slices.Contains(dens, den) {
			l = append(l, as(4, den), as(1, den, 1))
		}
	}
	return l
}

// wrongRatios are ratios that are not right.
func wrongRatios() []api.Ratio {
	return []api.Ratio{
		{}, of(1, 0), of(-1, 0), of(0, 2), of(0, 4), of(0, -1), of(2, 2), of(2, 4), of(2, 8), of(6, 4), of(4, 8), of(3, 12), of(-2, 8), of(1, -4), of(-1, -4), of(-1, -1), of(5, 1000000000),
		of(api.MaxTerm+1, 1), of(1, api.MaxTerm+1), of(api.MaxTerm, api.MaxTerm), of(api.MaxTerm+1, api.MaxTerm), of(api.MaxTerm, api.MaxTerm+1), of(-api.MaxTerm-1, 1),
		of(1<<32, 1<<34), of(1<<62, 1<<62), of(1, 1<<32), of(1, 1<<62), of(math.MaxInt, 1), of(1, math.MaxInt), of(0, math.MaxInt), of(0, math.MinInt), of(math.MaxInt, math.MaxInt), of(math.MaxInt-1, math.MaxInt),
		of(math.MinInt, 1), of(1, math.MinInt), of(-1, math.MinInt), of(math.MinInt, math.MinInt), of(math.MinInt, -4), of(math.MinInt, math.MaxInt), of(math.MaxInt, math.MinInt),
	}
}

func exact(a api.Ratio) *big.Rat { return big.NewRat(int64(a.Num), int64(a.Den)) }

func right(r *big.Rat) api.Ratio { return of(int(r.Num().Int64()), int(r.Denom().Int64())) }

// fits tells whether a number of any size is a right ratio.
func fits(r *big.Rat) bool {
	most := big.NewInt(1000000000)
	return r.Num().CmpAbs(most) <= 0 && r.Denom().Cmp(most) <= 0
}

// lowest is the right ratio that is num by den.
func lowest(num, den int) api.Ratio { return right(big.NewRat(int64(num), int64(den))) }

// stands are the groups of a right meter, by the chapter's words.
func stands(m api.Meter) []int {
	if len(m.Groups) > 0 {
		return m.Groups
	}
	if slices.Contains(compoundNums, m.Num) && slices.Contains(compoundDens, m.Den) {
		return times(m.Num/3, 3)
	}
	return times(m.Num, 1)
}

// begins are the beats of a right meter, by the chapter's words.
func begins(m api.Meter) []api.Ratio {
	var l []api.Ratio
	ahead := 0
	for _, group := range stands(m) {
		l = append(l, lowest(ahead, m.Den))
		ahead += group
	}
	return l
}

// P5.1

func TestRight(t *testing.T) {
	for num := -3; num <= 40; num++ {
		for den := -70; den <= 140; den++ {
			want := num >= 1 && num <= 32 && slices.Contains(dens, den)
			for _, m := range []api.Meter{as(num, den), {Num: num, Den: den, Groups: []int{}}, as(num, den, num)} {
				if Right(m) != want {
					t.Errorf("Right(%v) is %t", m, !want)
				}
			}
		}
	}
	for _, m := range rights() {
		if !Right(m) {
			t.Errorf("%v is right", m)
		}
	}
	for _, m := range wrongs() {
		if Right(m) {
			t.Errorf("%v is not right", m)
		}
	}
}

// TestRightGroups holds all short lists of small numbers against each Num.
func TestRightGroups(t *testing.T) {
	lists := [][]int{nil}
	for i := 0; i < len(lists); i++ {
		sum, low := 0, false
		for _, group := range lists[i] {
			sum, low = sum+group, low || group < 1
		}
		for num := 1; num <= 9; num++ {
			want := len(lists[i]) == 0 || !low && sum == num
			if m := as(num, 8, lists[i]...); Right(m) != want {
				t.Errorf("Right(%v) is %t", m, !want)
			}
		}
		if len(lists[i]) < 4 {
			for group := -2; group <= 5; group++ {
				lists = append(lists, append(slices.Clone(lists[i]), group))
			}
		}
	}
}

func expectSame(t *testing.T, a, b api.Meter, want bool) {
	t.Helper()
	if Same(a, b) != want || Same(b, a) != want {
		t.Errorf("Same(%v, %v) is not %t", a, b, want)
	}
}

func TestSame(t *testing.T) {
	for _, m := range append(rights(), wrongs()...) {
		expectSame(t, m, m, true)
		expectSame(t, m, as(m.Num, m.Den, slices.Clone(m.Groups)...), true)
		expectSame(t, m, as(m.Num+1, m.Den, m.Groups...), false)
		expectSame(t, m, as(m.Num, m.Den+1, m.Groups...), false)
		expectSame(t, m, as(m.Num, m.Den, append(slices.Clone(m.Groups), 0)...), false)
		expectSame(t, m, as(m.Num, m.Den, append(slices.Clone(m.Groups), 1)...), false)
		if last := len(m.Groups) - 1; last >= 0 {
			expectSame(t, m, as(m.Num, m.Den, m.Groups[:last]...), false)
		}
		for i := range min(len(m.Groups), 40) {
			other := slices.Clone(m.Groups)
			other[i]++
			expectSame(t, m, as(m.Num, m.Den, other...), false)
		}
	}
}

func TestSameWritten(t *testing.T) {
	expectSame(t, api.Meter{}, api.Meter{Groups: []int{}}, true)
	expectSame(t, as(5, 8), api.Meter{Num: 5, Den: 8, Groups: make([]int, 0, 9)}, true)
	expectSame(t, as(5, 8, 2, 3), api.Meter{Num: 5, Den: 8, Groups: append(make([]int, 0, 9), 2, 3)}, true)
	expectSame(t, as(5, 8, 2, 3), as(5, 8, 3, 2), false)
	expectSame(t, as(5, 8, 2, 3), as(5, 8, 2, 2, 1), false)
	expectSame(t, as(5, 8, 2, 3), as(5, 8), false)
	// What stands together is the same, and yet these are not.
	expectSame(t, as(6, 8), as(6, 8, 3, 3), false)
	expectSame(t, as(2, 4), as(2, 4, 1, 1), false)
	expectSame(t, as(2, 4), as(4, 8), false)
	expectSame(t, as(4, 8), as(8, 4), false)
	expectSame(t, as(0, 0, 0), api.Meter{}, false)
	expectSame(t, as(math.MinInt, math.MaxInt, math.MinInt), as(math.MinInt, math.MaxInt, math.MinInt), true)
	expectSame(t, as(math.MinInt, math.MaxInt, math.MinInt), as(math.MaxInt, math.MinInt, math.MinInt), false)
	expectSame(t, as(math.MinInt, 4), as(0, 4), false)
	expectSame(t, as(4, math.MinInt), as(4, 0), false)
	expectSame(t, as(4, 4, math.MinInt), as(4, 4, math.MaxInt), false)
	expectSame(t, as(4+1<<32, 4), as(4, 4), false)
}

func TestLengthWritten(t *testing.T) {
	for _, x := range []struct {
		m    api.Meter
		want api.Ratio
	}{
		{as(4, 4), of(1, 1)}, {as(3, 4), of(3, 4)}, {as(6, 8), of(3, 4)}, {as(2, 2), of(1, 1)}, {as(1, 1), of(1, 1)}, {as(1, 64), of(1, 64)}, {as(32, 1), of(32, 1)}, {as(32, 64), of(1, 2)}, {as(31, 64), of(31, 64)}, {as(12, 8), of(3, 2)}, {as(5, 8, 2, 3), of(5, 8)}, {as(6, 4, 6), of(3, 2)}, {as(32, 2, 31, 1), of(16, 1)},
	} {
		if l, e := Length(x.m); l != x.want || e != api.OK {
			t.Errorf("Length(%v): %v error %d, want %v", x.m, l, e, x.want)
		}
	}
}

func TestLengthAll(t *testing.T) {
	for _, m := range rights() {
		if l, e := Length(m); l != lowest(m.Num, m.Den) || e != api.OK {
			t.Errorf("Length(%v): %v error %d", m, l, e)
		}
	}
	for _, m := range wrongs() {
		if l, e := Length(m); l != (api.Ratio{}) || e != api.ErrMeter {
			t.Errorf("Length(%v): %v error %d, want ErrMeter", m, l, e)
		}
	}
}

// P5.2

func expectBeats(t *testing.T, m api.Meter, want []api.Ratio) {
	t.Helper()
	if l, e := Beats(m); !slices.Equal(l, want) || e != api.OK {
		t.Errorf("Beats(%v): %v error %d, want %v", m, l, e, want)
	}
}

func TestBeatsWritten(t *testing.T) {
	expectBeats(t, as(4, 4), list(of(0, 1), of(1, 4), of(1, 2), of(3, 4)))
	expectBeats(t, as(1, 1), list(of(0, 1)))
	expectBeats(t, as(1, 64), list(of(0, 1)))
	expectBeats(t, as(3, 8), list(of(0, 1), of(1, 8), of(1, 4)))
	expectBeats(t, as(3, 64), list(of(0, 1), of(1, 64), of(1, 32)))
	expectBeats(t, as(6, 4), list(of(0, 1), of(1, 4), of(1, 2), of(3, 4), of(1, 1), of(5, 4)))
	expectBeats(t, as(6, 8), list(of(0, 1), of(3, 8)))
	expectBeats(t, as(6, 64), list(of(0, 1), of(3, 64)))
	expectBeats(t, as(9, 4), list(of(0, 1), of(1, 4), of(1, 2), of(3, 4), of(1, 1), of(5, 4), of(3, 2), of(7, 4), of(2, 1)))
	expectBeats(t, as(9, 8), list(of(0, 1), of(3, 8), of(3, 4)))
	expectBeats(t, as(12, 8), list(of(0, 1), of(3, 8), of(3, 4), of(9, 8)))
	expectBeats(t, as(15, 16), list(of(0, 1), of(3, 16), of(3, 8), of(9, 16), of(3, 4)))
	expectBeats(t, as(5, 8), list(of(0, 1), of(1, 8), of(1, 4), of(3, 8), of(1, 2)))
	expectBeats(t, as(5, 8, 2, 3), list(of(0, 1), of(1, 4)))
	expectBeats(t, as(5, 8, 3, 2), list(of(0, 1), of(3, 8)))
	expectBeats(t, as(6, 8, 2, 2, 2), list(of(0, 1), of(1, 4), of(1, 2)))
	expectBeats(t, as(6, 8, 6), list(of(0, 1)))
	expectBeats(t, as(4, 4, 3, 1), list(of(0, 1), of(3, 4)))
	expectBeats(t, as(4, 2, 1, 3), list(of(0, 1), of(1, 2)))
	expectBeats(t, as(32, 1, 31, 1), list(of(0, 1), of(31, 1)))
	expectBeats(t, as(32, 64, 1, 31), list(of(0, 1), of(1, 64)))
}

func TestBeatsAll(t *testing.T) {
	for _, m := range rights() {
		expectBeats(t, m, begins(m))
	}
	for _, m := range wrongs() {
		if l, e := Beats(m); len(l) != 0 || e != api.ErrMeter {
			t.Errorf("Beats(%v): %v error %d, want ErrMeter", m, l, e)
		}
	}
}

// spoil writes into a list and its spare room.
func spoil(l []api.Ratio) {
	for i := range l[:cap(l)] {
		l[:cap(l)][i] = of(99, 99)
	}
}

func TestAnswersAreNewMemory(t *testing.T) {
	m := as(32, 8)
	calls := []func() ([]api.Ratio, api.Errno){
		func() ([]api.Ratio, api.Errno) { return Beats(m) },
		func() ([]api.Ratio, api.Errno) { return Cut(m, of(0, 1), of(4, 1)) },
	}
	for i, call := range calls {
		first, _ := call()
		spoiled, _ := call()
		spoil(spoiled)
		again, e := call()
		if e != api.OK || slices.Contains(first, of(99, 99)) || !slices.Equal(first, again) {
			t.Errorf("call %d: answers share their memory: %v and %v", i, first, again)
		}
	}
}

func TestGroupsAreLeftAsTheyAre(t *testing.T) {
	room := []int{2, 3, 7, 7, 7}
	m := as(5, 8)
	m.Groups = room[:2]
	Right(m)
	Same(m, m)
	Length(m)
	Beats(m)
	Weight(m, of(1, 4))
	Cut(m, of(0, 1), of(5, 8))
	if !slices.Equal(room, []int{2, 3, 7, 7, 7}) {
		t.Errorf("what was handed in is %v", room)
	}
	// Nor is it kept: what is written into it afterwards changes no answer.
	l, _ := Beats(m)
	room[0], room[1] = 3, 2
	expectBeats(t, as(5, 8, 2, 3), l)
	expectBeats(t, m, list(of(0, 1), of(3, 8)))
}

// P5.3

// weighs is what a place weighs in a right meter by the words of P5.3.
func weighs(m api.Meter, at api.Ratio) (int, api.Errno) {
	parts := new(big.Rat)
	if slices.Contains(wrongRatios(), at) || at.Num < 0 || exact(at).Cmp(big.NewRat(int64(m.Num), int64(m.Den))) >= 0 {
		return 0, api.ErrArg
	}
	parts.Mul(exact(at), big.NewRat(int64(m.Den), 1))
	switch {
	case parts.Sign() == 0:
		return 3, api.OK
	case slices.Contains(begins(m), at):
		return 2, api.OK
	case parts.IsInt():
		return 1, api.OK
	}
	return 0, api.OK
}

func expectWeight(t *testing.T, m api.Meter, at api.Ratio, want int, wantErr api.Errno) {
	t.Helper()
	if w, e := Weight(m, at); w != want || e != wantErr {
		t.Errorf("Weight(%v, %v): %d error %d, want %d error %d", m, at, w, e, want, wantErr)
	}
}

func TestWeightWritten(t *testing.T) {
	for _, x := range []struct {
		m       api.Meter
		at      api.Ratio
		want    int
		wantErr api.Errno
	}{
		{as(6, 8), of(0, 1), 3, api.OK}, {as(6, 8), of(3, 8), 2, api.OK}, {as(6, 8), of(1, 8), 1, api.OK}, {as(6, 8), of(1, 4), 1, api.OK}, {as(6, 8), of(1, 2), 1, api.OK}, {as(6, 8), of(5, 8), 1, api.OK},
		{as(6, 8), of(1, 16), 0, api.OK}, {as(6, 8), of(7, 16), 0, api.OK}, {as(6, 8), of(1, 3), 0, api.OK}, {as(6, 8), of(2, 3), 0, api.OK}, {as(6, 8), of(11, 16), 0, api.OK}, {as(6, 8), of(749999999, 1000000000), 0, api.OK}, {as(6, 8), of(1, 1000000000), 0, api.OK},
		{as(6, 8), of(3, 4), 0, api.ErrArg}, {as(6, 8), of(7, 8), 0, api.ErrArg}, {as(6, 8), of(1, 1), 0, api.ErrArg}, {as(6, 8), of(750000001, 1000000000), 0, api.ErrArg}, {as(6, 8), of(-1, 8), 0, api.ErrArg}, {as(6, 8), of(-3, 8), 0, api.ErrArg}, {as(6, 8), of(-1, 1000000000), 0, api.ErrArg}, {as(6, 8), of(-1000000000, 1), 0, api.ErrArg}, {as(6, 8), of(1000000000, 1), 0, api.ErrArg},
		{as(6, 8), of(0, 8), 0, api.ErrArg}, {as(6, 8), of(2, 8), 0, api.ErrArg}, {as(6, 8), of(6, 16), 0, api.ErrArg},
		{as(6, 4), of(3, 4), 2, api.OK}, {as(6, 4), of(1, 4), 2, api.OK}, {as(6, 4), of(1, 8), 0, api.OK}, {as(6, 4), of(1, 1), 2, api.OK}, {as(6, 4), of(3, 2), 0, api.ErrArg},
		{as(5, 8, 2, 3), of(1, 4), 2, api.OK}, {as(5, 8, 2, 3), of(3, 8), 1, api.OK}, {as(5, 8, 3, 2), of(1, 4), 1, api.OK}, {as(5, 8, 3, 2), of(3, 8), 2, api.OK},
		{as(4, 4, 4), of(1, 2), 1, api.OK}, {as(4, 4, 4), of(1, 8), 0, api.OK}, {as(1, 1), of(0, 1), 3, api.OK}, {as(1, 1), of(1, 2), 0, api.OK}, {as(2, 1), of(1, 1), 2, api.OK}, {as(2, 1, 2), of(1, 1), 1, api.OK}, {as(2, 1), of(3, 2), 0, api.OK}, {as(2, 1), of(2, 1), 0, api.ErrArg},
		{as(32, 1, 31, 1), of(31, 1), 2, api.OK}, {as(32, 1, 31, 1), of(30, 1), 1, api.OK}, {as(32, 1, 31, 1), of(63, 2), 0, api.OK}, {as(32, 1, 31, 1), of(999999999, 31250000), 0, api.OK}, {as(32, 1, 31, 1), of(32, 1), 0, api.ErrArg}, {as(1, 64), of(1, 64), 0, api.ErrArg}, {as(1, 64), of(1, 128), 0, api.OK},
	} {
		expectWeight(t, x.m, x.at, x.want, x.wantErr)
	}
}

func TestWeightAll(t *testing.T) {
	for _, m := range append(rights(), few()...) {
		for _, finer := range []int{1, 2, 3} {
			for num := -2; num <= m.Num*finer+2; num++ {
				at := lowest(num, m.Den*finer)
				want, wantErr := weighs(m, at)
				expectWeight(t, m, at, want, wantErr)
			}
		}
	}
}

func TestWeightWrong(t *testing.T) {
	for _, m := range few() {
		for _, at := range wrongRatios() {
			expectWeight(t, m, at, 0, api.ErrArg)
		}
	}
	for _, m := range wrongs() {
		for _, at := range list(of(0, 1), of(1, 4), of(1, 8), of(-1, 4), of(5, 1), of(0, 0), of(2, 4), of(math.MinInt, math.MinInt)) {
			expectWeight(t, m, at, 0, api.ErrMeter)
		}
	}
}

// P5.4

// cuts is what Cut answers of a right meter by the words of P5.4, in numbers of any size.
func cuts(m api.Meter, at, length api.Ratio) ([]api.Ratio, api.Errno) {
	if _, e := weighs(m, at); e != api.OK || slices.Contains(wrongRatios(), length) || length.Num <= 0 {
		return nil, api.ErrArg
	}
	end := new(big.Rat).Add(exact(at), exact(length))
	if !fits(end) {
		return nil, api.ErrRatio
	}
	if end.Cmp(big.NewRat(int64(m.Num), int64(m.Den))) > 0 {
		return nil, api.ErrArg
	}
	places := []*big.Rat{exact(at)}
	for _, beat := range begins(m) {
		if b := exact(beat); b.Cmp(exact(at)) > 0 && b.Cmp(end) < 0 {
			places = append(places, b)
		}
	}
	var l []api.Ratio
	for i, to := range append(places[1:], end) {
		piece := new(big.Rat).Sub(to, places[i])
		if !fits(piece) {
			return nil, api.ErrRatio
		}
		l = append(l, right(piece))
	}
	return l, api.OK
}

func expectCut(t *testing.T, m api.Meter, at, length api.Ratio, want []api.Ratio, wantErr api.Errno) {
	t.Helper()
	if l, e := Cut(m, at, length); !slices.Equal(l, want) || e != wantErr {
		t.Errorf("Cut(%v, %v, %v): %v error %d, want %v error %d", m, at, length, l, e, want, wantErr)
	}
}

func TestCutWritten(t *testing.T) {
	four, six := as(4, 4), as(6, 8)
	expectCut(t, four, of(1, 8), of(1, 2), list(of(1, 8), of(1, 4), of(1, 8)), api.OK)
	expectCut(t, four, of(0, 1), of(1, 1), list(of(1, 4), of(1, 4), of(1, 4), of(1, 4)), api.OK)
	expectCut(t, four, of(0, 1), of(1, 4), list(of(1, 4)), api.OK)
	expectCut(t, four, of(1, 4), of(1, 4), list(of(1, 4)), api.OK)
	expectCut(t, four, of(1, 4), of(1, 2), list(of(1, 4), of(1, 4)), api.OK)
	expectCut(t, four, of(1, 16), of(1, 16), list(of(1, 16)), api.OK)
	expectCut(t, four, of(7, 8), of(1, 8), list(of(1, 8)), api.OK)
	expectCut(t, four, of(1, 3), of(2, 3), list(of(1, 6), of(1, 4), of(1, 4)), api.OK)
	expectCut(t, four, of(0, 1), of(1, 1000000000), list(of(1, 1000000000)), api.OK)
	expectCut(t, four, of(999999999, 1000000000), of(1, 1000000000), list(of(1, 1000000000)), api.OK)
	expectCut(t, six, of(0, 1), of(3, 4), list(of(3, 8), of(3, 8)), api.OK)
	expectCut(t, six, of(1, 8), of(1, 4), list(of(1, 4)), api.OK)
	expectCut(t, six, of(1, 4), of(1, 4), list(of(1, 8), of(1, 8)), api.OK)
	expectCut(t, six, of(3, 8), of(3, 8), list(of(3, 8)), api.OK)
	expectCut(t, as(6, 4), of(0, 1), of(3, 4), list(of(1, 4), of(1, 4), of(1, 4)), api.OK)
	expectCut(t, as(5, 8, 2, 3), of(0, 1), of(5, 8), list(of(1, 4), of(3, 8)), api.OK)
	expectCut(t, as(5, 8, 3, 2), of(1, 8), of(1, 2), list(of(1, 4), of(1, 4)), api.OK)
	expectCut(t, as(4, 4, 4), of(1, 8), of(3, 4), list(of(3, 4)), api.OK)
	expectCut(t, as(32, 1, 31, 1), of(61, 2), of(3, 2), list(of(1, 2), of(1, 1)), api.OK)
}

func TestCutErrorsWritten(t *testing.T) {
	four, six := as(4, 4), as(6, 8)
	for _, x := range []struct {
		m          api.Meter
		at, length api.Ratio
		want       api.Errno
	}{
		// The place, and the length, are refused.
		{four, of(1, 1), of(1, 4), api.ErrArg}, {four, of(2, 1), of(1, 4), api.ErrArg}, {six, of(3, 4), of(1, 8), api.ErrArg}, {four, of(-1, 4), of(1, 4), api.ErrArg}, {four, of(-1, 4), of(1, 2), api.ErrArg}, {four, of(2, 8), of(1, 4), api.ErrArg}, {four, of(0, 4), of(1, 4), api.ErrArg}, {four, of(0, 0), of(1, 4), api.ErrArg},
		{four, of(1, 4), of(0, 1), api.ErrArg}, {four, of(1, 4), of(-1, 8), api.ErrArg}, {four, of(1, 4), of(-1, 4), api.ErrArg}, {four, of(1, 4), of(2, 8), api.ErrArg}, {four, of(1, 4), of(0, 0), api.ErrArg}, {four, of(1, 4), of(1, 1000000001), api.ErrArg},
		// The end is behind the bar.
		{four, of(3, 4), of(1, 2), api.ErrArg}, {four, of(0, 1), of(5, 4), api.ErrArg}, {four, of(0, 1), of(1000000000, 1), api.ErrArg}, {four, of(0, 1), of(1000000000, 999999999), api.ErrArg}, {four, of(999999999, 1000000000), of(1, 500000000), api.ErrRatio}, {four, of(1, 2), of(500000001, 1000000000), api.ErrRatio}, {six, of(1, 2), of(3, 8), api.ErrArg}, {as(32, 1), of(31, 1), of(999999999, 1), api.ErrRatio}, {as(32, 1), of(31, 1), of(999999969, 1), api.ErrArg},
		// The end is no right ratio, be it in the bar or behind it.
		{four, of(1, 999999937), of(1, 999999929), api.ErrRatio}, {four, of(1, 999999937), of(999999936, 999999929), api.ErrRatio}, {four, of(1, 3), of(1, 1000000000), api.ErrRatio}, {four, of(1, 3), of(1000000000, 1), api.ErrRatio}, {four, of(1, 3), of(1000000000, 999999999), api.ErrRatio}, {four, of(1, 4), of(1, 999999999), api.ErrRatio},
		// The end is one, and a piece is none: the first one, the last one, or both.
		{four, of(1, 999999937), of(999999936, 999999937), api.ErrRatio}, {four, of(0, 1), of(999999936, 999999937), api.ErrRatio}, {four, of(1, 999999999), of(499999999, 999999999), api.ErrRatio}, {four, of(0, 1), of(333333332, 333333333), api.ErrRatio}, {four, of(2, 333333333), of(331333331, 333333333), api.ErrRatio},
		// What is refused first is told first.
		{four, of(1, 1), of(1, 1000000001), api.ErrArg}, {four, of(1000000000, 999999999), of(1, 999999937), api.ErrArg}, {four, of(-1, 3), of(1000000000, 1), api.ErrArg}, {four, of(1, 3), of(-1000000000, 1), api.ErrArg}, {four, of(math.MinInt, math.MinInt), of(math.MinInt, math.MinInt), api.ErrArg},
	} {
		expectCut(t, x.m, x.at, x.length, nil, x.want)
	}
}

func TestCutWrong(t *testing.T) {
	for _, m := range few() {
		for _, r := range wrongRatios() {
			expectCut(t, m, r, of(1, 64), nil, api.ErrArg)
			expectCut(t, m, of(0, 1), r, nil, api.ErrArg)
			expectCut(t, m, r, r, nil, api.ErrArg)
		}
	}
	for _, m := range wrongs() {
		expectCut(t, m, of(0, 1), of(1, 4), nil, api.ErrMeter)
		expectCut(t, m, of(0, 1), of(1000000000, 1), nil, api.ErrMeter)
		expectCut(t, m, of(1, 3), of(1000000000, 1), nil, api.ErrMeter)
		expectCut(t, m, of(-1, 4), of(1, 4), nil, api.ErrMeter)
		expectCut(t, m, of(0, 0), of(2, 4), nil, api.ErrMeter)
		expectCut(t, m, of(math.MinInt, math.MinInt), of(math.MaxInt, math.MinInt), nil, api.ErrMeter)
	}
}

// TestCutAll holds every place and length of a grid against the chapter's words.
func TestCutAll(t *testing.T) {
	for _, m := range few() {
		for _, finer := range []int{1, 2, 3} {
			for at := -1; at <= m.Num*finer; at++ {
				for length := -1; length <= m.Num*finer-at+1; length++ {
					place, long := lowest(at, m.Den*finer), lowest(length, m.Den*finer)
					want, wantErr := cuts(m, place, long)
					expectCut(t, m, place, long, want, wantErr)
				}
			}
		}
	}
}

// awkward are right ratios whose sums and differences are often none.
func awkward() []api.Ratio {
	l := list(of(0, 1), of(1, 2), of(1, 3), of(1, 4), of(1, 7), of(3, 8), of(5, 8), of(1, 1), of(1000000000, 1), of(-1000000000, 1), of(-1, 1000000000))
	for _, den := range []int{250000000, 333333333, 499999999, 500000000, 750000000, 999999929, 999999937, 999999999, 1000000000} {
		for _, num := range []int{-1, 1, 2, den / 8, den / 4, den/4 + 1, den / 3, den/2 - 1, den / 2, den/2 + 1, 3 * (den / 4), den - 2, den - 1, den + 1} {
			if r := big.NewRat(int64(num), int64(den)); fits(r) {
				l = append(l, right(r))
			}
		}
	}
	return l
}

func TestCutAwkward(t *testing.T) {
	told := map[api.Errno]int{}
	for _, m := range few() {
		for _, at := range awkward() {
			for _, length := range awkward() {
				want, wantErr := cuts(m, at, length)
				expectCut(t, m, at, length, want, wantErr)
				told[wantErr]++
			}
		}
	}
	for _, e := range []api.Errno{api.OK, api.ErrArg, api.ErrRatio} {
		if told[e] < 1000 {
			t.Errorf("error %d is to be told %d times alone", e, told[e])
		}
	}
}

// P5.5

// follow wants of the pieces of a length all that follows of them, piece by piece.
func follow(t *testing.T, m api.Meter, at, length api.Ratio) {
	t.Helper()
	l, e := Cut(m, at, length)
	if e != api.OK {
		return
	}
	beats, _ := Beats(m)
	place := exact(at)
	for _, piece := range l {
		from := right(place)
		place.Add(place, exact(piece))
		if piece.Num <= 0 {
			t.Errorf("Cut(%v, %v, %v): %v has a piece that is none", m, at, length, l)
		}
		for _, beat := range beats {
			if exact(from).Cmp(exact(beat)) < 0 && exact(beat).Cmp(place) < 0 {
				t.Errorf("Cut(%v, %v, %v): %v has the beat %v within a piece", m, at, length, l, beat)
			}
		}
		expectCut(t, m, from, piece, list(piece), api.OK)
	}
	if place.Cmp(new(big.Rat).Add(exact(at), exact(length))) != 0 {
		t.Errorf("Cut(%v, %v, %v): %v are not the length together", m, at, length, l)
	}
}

func TestWhatFollowsOfPieces(t *testing.T) {
	for _, m := range few() {
		for at := range 2 * m.Num {
			for length := 1; length <= 2*m.Num-at; length++ {
				follow(t, m, lowest(at, 2*m.Den), lowest(length, 2*m.Den))
			}
		}
		for _, at := range awkward() {
			for _, length := range awkward() {
				follow(t, m, at, length)
			}
		}
	}
}

func TestWholeBarsAreCutIntoGroups(t *testing.T) {
	for _, m := range rights() {
		length, _ := Length(m)
		var want []api.Ratio
		for _, group := range stands(m) {
			want = append(want, lowest(group, m.Den))
		}
		expectCut(t, m, of(0, 1), length, want, api.OK)
	}
}
