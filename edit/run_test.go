package edit_test

import (
	"math"
	"slices"
	"testing"

	"partita/api"
	"partita/edit"
	"partita/score"
)

// P9.2

// ran is what comes of edits one behind the other, what takes them back, how many were done, and the error of the next one.
func ran(s api.Score, l []api.Op) (api.Score, []api.Op, int, api.Errno) {
	var back []api.Op
	for i, op := range l {
		u, b, e := made(s, op)
		if e != api.OK {
			return api.Score{}, nil, i, e
		}
		s, back = u, append([]api.Op{b}, back...)
	}
	return s, back, len(l), api.OK
}

// expectRun asks for a run, and for those that take it back and make it again.
func expectRun(t *testing.T, s api.Score, l []api.Op, want api.Score, back []api.Op, n int, errno api.Errno) {
	t.Helper()
	u, b, done, e := edit.Run(s, l)
	if e != errno || done != n || !equal(u, want) || !slices.EqualFunc(b, back, equalOps) {
		t.Errorf("%s: %d done, error %d, %s, %s, want %d done, error %d, %s, %s", brief(l), done, e, brief(u), brief(b), n, errno, brief(want), brief(back))
	}
	if e != api.OK {
		return
	}
	v, again, done, e := edit.Run(u, b)
	if e != api.OK || done != n || !equal(v, s) {
		t.Errorf("%s: taken back: %d done, error %d, %s", brief(l), done, e, brief(v))
	}
	if w, _, done, e := edit.Run(v, again); e != api.OK || done != n || !equal(w, want) {
		t.Errorf("%s: made again: %d done, error %d, %s", brief(l), done, e, brief(w))
	}
}

func TestRunNone(t *testing.T) {
	for _, s := range []api.Score{pick(), rich(), plain(1, 1), plain(8, 100)} {
		expectRun(t, s, nil, s, nil, 0, api.OK)
		expectRun(t, s, []api.Op{}, s, nil, 0, api.OK)
	}
}

func TestRunOne(t *testing.T) {
	for _, op := range someOps() {
		want, back, e := made(pick(), op)
		if e != api.OK {
			t.Fatalf("%s: error %d", brief(op), e)
		}
		expectRun(t, pick(), []api.Op{op}, want, []api.Op{back}, 1, api.OK)
	}
}

// kindly are edits of pick of all kinds, each of which leans on those ahead of it.
func kindly() []api.Op {
	return []api.Op{
		opTitle("One"), opBarsIn(3, "1/4 3/4", "4 D4;2. D4", "4/4 F3;2."), opEvents(api.Place{Part: 1, Bar: 3, Voice: 1}, 1, "8 F3|8 G3"), opUp(1, 1, 2), opVoiceIn(0, 4, 0, "2. E4"), opDyns(0, 4, loud(of(1, 2), 100)...), opBar(4, api.Bar{Meter: timed("6/8"), Key: api.Key{Fifths: -1}}), opUp(-4, -1, -1),
		opVoiceOut(0, 4, 1), opEvents(api.Place{Part: 1, Bar: 3, Voice: 1, At: 1}, 1, "16 G3|16 A3"), opTitle("Two"), opBarsOut(0, 2), opEvents(api.Place{Part: 1, Bar: 1, Voice: 1, At: 2}, 1, "16"), opTitle("Three"), opUp(0, 0, 0),
	}
}

func TestRunSeveral(t *testing.T) {
	s := scored("2/4 2/4 2/4", "4 C4|4/2/8|8 D4|4;2/2/2;4. C4|8 E4/2 D4/2", "2 C3;2;2")
	kinds := map[int]bool{}
	for n, op := range kindly() {
		kinds[op.Kind] = true
		want, back, done, e := ran(s, kindly()[:n+1])
		if e != api.OK {
			t.Fatalf("%s: error %d", brief(op), e)
		}
		expectRun(t, s, kindly()[:n+1], want, back, done, e)
	}
	if len(kinds) != 9 {
		t.Errorf("%d kinds", len(kinds))
	}
	// Told one by one: what takes the last one back stands first.
	u, back, n, e := edit.Run(pick(), []api.Op{opTitle("One"), opEvents(api.Place{}, 2, "2 E4"), opTitle("Two"), opUp(0, 7, 12)})
	want := changed(pick(), func(s *api.Score) {
		s.Title, s.Parts[0].Cells[0] = "Two", celled("2 E5/2/8|8 E5|4")
	})
	if n != 4 || e != api.OK || !equal(u, want) {
		t.Errorf("%d done, error %d, %s", n, e, brief(u))
	}
	if !slices.EqualFunc(back, []api.Op{opUp(0, -7, -12), opTitle("One"), opEvents(api.Place{}, 1, "4 C4|4"), opTitle("Air")}, equalOps) {
		t.Errorf("taken back by %s", brief(back))
	}
}

// TestRunStops has an edit in a run that can't be done, at each place, of each reason.
func TestRunStops(t *testing.T) {
	s := scored("2/4 2/4 2/4", "4 C4|4/2/8|8 D4|4;2/2/2;4. C4|8 E4/2 D4/2", "2 C3;2;2")
	for _, x := range []struct {
		op    api.Op
		errno api.Errno
	}{{api.Op{}, api.ErrOp}, {junk(), api.ErrOp}, {opTitle("\n"), api.ErrScore}, {opUp(0, 0, 120), api.ErrPitch}, {opUp(-1, 0, 3), api.ErrKey}, {opUp(9, 0, 0), api.ErrOp}, {opEvents(api.Place{}, 1, ""), api.ErrFill}, {opBarsOut(0, 100), api.ErrOp}, {opBar(0, api.Bar{}), api.ErrMeter}, {opDyns(0, 0, api.Dyn{}), api.ErrDyn}, {opVoiceOut(1, 0, 0), api.ErrLimit}, {opVoiceIn(0, 0, 1, "2 C4~"), api.ErrTie}} {
		for n := range len(kindly()) + 1 {
			l := slices.Insert(kindly(), n, x.op)
			_, _, done, e := ran(s, l)
			if e == api.OK || done != n {
				t.Fatalf("%s can be done at %d", brief(x.op), n)
			}
			if n == 0 && e != x.errno {
				t.Errorf("%s: error %d by what the chapter says, want error %d", brief(x.op), e, x.errno)
			}
			expectRun(t, s, l, api.Score{}, nil, n, e)
			expectRun(t, s, append(l, api.Op{}, opTitle("\n")), api.Score{}, nil, n, e) // the first one's error
		}
	}
}

// TestRunOnTheWay has each edit leave a right score: one that mends what another one spoils comes too late.
func TestRunOnTheWay(t *testing.T) {
	shorter, filled := opBar(0, barred("1/4")...), opEvents(api.Place{}, 1, "4")
	s := scored("2/4", "2")
	expectRun(t, s, []api.Op{shorter, filled}, api.Score{}, nil, 0, api.ErrFill)
	expectRun(t, s, []api.Op{opTitle("x"), filled, shorter}, api.Score{}, nil, 1, api.ErrFill)
	expectRun(t, s, []api.Op{opTitle("\n"), opTitle("x")}, api.Score{}, nil, 0, api.ErrScore)
	expectRun(t, s, []api.Op{opBarsOut(0, 1), opBarsIn(0, "1/4", "4")}, api.Score{}, nil, 0, api.ErrLimit)
	both := []api.Op{opBarsIn(1, "1/4", "4"), opBarsOut(0, 1)}
	expectRun(t, s, both, scored("1/4", "4"), []api.Op{opBarsIn(0, "2/4", "2"), opBarsOut(1, 1)}, 2, api.OK)
}

func TestRunOfWrongScores(t *testing.T) {
	for _, s := range wrongScores() {
		_, errno := score.Check(s)
		for _, l := range [][]api.Op{nil, {}, {opTitle("x")}, {opTitle("\n")}, {{}}, {opTitle("x"), {}}, someOps(), {opEvents(api.Place{Part: 1}, 1, "2")}} {
			expectRun(t, s, l, api.Score{}, nil, 0, errno)
		}
	}
}

// TestRunLong does and undoes the same edits over and over.
func TestRunLong(t *testing.T) {
	var l []api.Op
	for range 200 {
		l = append(l, opUp(-1, 1, 2), opBarsIn(1, "1/4", "4 D4", "4"), opVoiceIn(0, 1, 0, "4"), opTitle("up"), opVoiceOut(0, 1, 0), opBarsOut(1, 1), opUp(math.MinInt, -1, -2))
	}
	want, back, n, e := ran(pick(), l)
	if n != 1400 || e != api.OK || want.Title != "up" {
		t.Fatalf("%d done, error %d", n, e)
	}
	expectRun(t, pick(), l, want, back, n, e)
	expectRun(t, pick(), append(l, opTitle("\n")), api.Score{}, nil, 1400, api.ErrScore)
}
