package edit_test

import (
	"strings"
	"testing"

	"partita/api"
	"partita/edit"
	"partita/score"
)

// P9.3, and P9.1 and P9.2 of scores and edits that are thrown.

// someScores are right ones: small, rich, and thrown.
func someScores(n int) []api.Score {
	l := []api.Score{rich(), untied(), pick(), plain(1, 1), plain(2, 3), scored("2/4 2/4", "2 C4~;2 C4")}
	next := dice()
	for range n {
		l = append(l, thrown(next, 5, 3))
	}
	return l
}

// tries goes through scores, each with edits that mostly can be done, and such that can't.
func tries(n int, try func(s api.Score, op api.Op)) {
	next := dice()
	for _, s := range someScores(n) {
		for range 12 {
			op := thrownOp(next, s)
			try(s, op)
			try(s, off(next, op))
		}
	}
}

func TestThrown(t *testing.T) {
	var done, left [10]int
	errors := map[api.Errno]int{}
	tries(400, func(s api.Score, op api.Op) {
		want, back, errno := made(s, op)
		if errno != api.OK {
			expectRefused(t, s, op, errno)
			errors[errno]++
			if op.Kind > 0 && op.Kind < 10 {
				left[op.Kind]++
			}
			return
		}
		expectDone(t, s, op, want, back)
		done[op.Kind]++
	})
	for kind := 1; kind <= 9; kind++ {
		if done[kind] < 100 || left[kind] < 25 {
			t.Errorf("kind %d: %d done, %d not", kind, done[kind], left[kind])
		}
	}
	for _, errno := range []api.Errno{api.ErrOp, api.ErrLimit, api.ErrFill, api.ErrTie, api.ErrKey, api.ErrPitch} {
		if errors[errno] == 0 {
			t.Errorf("error %d: never", errno)
		}
	}
}

func TestThrownRuns(t *testing.T) {
	next := dice()
	all, some := 0, 0
	for _, s := range someScores(250) {
		var l []api.Op
		u := s
		for range 2 + next(10) {
			op := thrownOp(next, u)
			v, _, e := made(u, op)
			if e == api.OK {
				u = v
			} else if next(3) > 0 {
				continue
			}
			l = append(l, op)
		}
		want, back, n, errno := ran(s, l)
		expectRun(t, s, l, want, back, n, errno)
		if errno == api.OK {
			all++
		} else if n > 0 {
			some++
		}
	}
	if all < 50 || some < 50 {
		t.Errorf("%d runs to the end, %d up to an edit", all, some)
	}
}

func TestThrownMemory(t *testing.T) {
	next := dice()
	for _, s := range someScores(60) {
		var l []api.Op
		for range 6 {
			op := thrownOp(next, s)
			if next(5) == 0 {
				op = off(next, op)
			}
			l = append(l, roomyOp(op))
		}
		expectNew(t, roomy(s), l)
	}
}

// TestEachEditLeavesARightScore, and what takes it back, and what takes that back, leave what there was.
func TestEachEditLeavesARightScore(t *testing.T) {
	tries(150, func(s api.Score, op api.Op) {
		u, back, e := edit.Apply(s, op)
		if e != api.OK {
			return
		}
		if at, e := score.Check(u); e != api.OK {
			t.Errorf("%s: error %d at %+v", brief(op), e, at)
		}
		v, again, e := edit.Apply(u, back)
		if e != api.OK || !score.Same(v, s) {
			t.Errorf("%s: taken back: error %d", brief(op), e)
		}
		w, back2, e := edit.Apply(v, again)
		if e != api.OK || !score.Same(w, u) {
			t.Errorf("%s: made again: error %d", brief(op), e)
		}
		if !equalOps(back, back2) {
			t.Errorf("%s: taken back by %s, and then by %s", brief(op), brief(back), brief(back2))
		}
	})
}

// TestOtherParts looks at the parts beside the one whose events, voices or dynamics an edit changes, and at all that is not theirs.
func TestOtherParts(t *testing.T) {
	seen := 0
	tries(150, func(s api.Score, op api.Op) {
		switch op.Kind {
		case api.OpBarsIn, api.OpBarsOut, api.OpBar, api.OpTitle:
			return
		}
		u, _, e := edit.Apply(s, op)
		if e != api.OK || op.Place.Part < 0 {
			return
		}
		for i := range s.Parts {
			if i != op.Place.Part && !equalParts(u.Parts[i], s.Parts[i]) {
				t.Errorf("%s: changed part %d", brief(op), i)
			}
		}
		seen += len(s.Parts) - 1
		u.Parts[op.Place.Part] = s.Parts[op.Place.Part]
		if !equal(u, s) {
			t.Errorf("%s: changed more than the part", brief(op))
		}
	})
	if seen < 100 {
		t.Errorf("%d other parts alone", seen)
	}
}

// TestTitleGoesWithAll makes the title's edit ahead of another one, and behind it.
func TestTitleGoesWithAll(t *testing.T) {
	title := opTitle(strings.Repeat("ü", 20))
	tries(150, func(s api.Score, op api.Op) {
		if op.Kind == api.OpTitle {
			return
		}
		a, _, n, e := edit.Run(s, []api.Op{title, op})
		b, _, m, f := edit.Run(s, []api.Op{op, title})
		if e != f || !equal(a, b) || e == api.OK && (n != 2 || m != 2) || e != api.OK && (n != 1 || m != 0) {
			t.Errorf("%s: %d done, error %d, and %d done, error %d", brief(op), n, e, m, f)
		}
	})
}

// TestTakenBackStepByStep takes the edits of a run back one by one, and makes them again.
func TestTakenBackStepByStep(t *testing.T) {
	next := dice()
	for _, s := range someScores(60) {
		scores, backs := []api.Score{s}, []api.Op{}
		for range 8 {
			last := scores[len(scores)-1]
			if u, back, e := edit.Apply(last, thrownOp(next, last)); e == api.OK {
				scores, backs = append(scores, u), append(backs, back)
			}
		}
		u := scores[len(scores)-1]
		var again []api.Op
		for i := len(backs) - 1; i >= 0; i-- {
			v, a, e := edit.Apply(u, backs[i])
			if e != api.OK || !equal(v, scores[i]) {
				t.Errorf("%s: error %d", brief(backs[i]), e)
			}
			u, again = v, append(again, a)
		}
		for i := range backs {
			v, _, e := edit.Apply(u, again[len(again)-1-i])
			if e != api.OK || !equal(v, scores[i+1]) {
				t.Errorf("%s made again: error %d", brief(again[len(again)-1-i]), e)
			}
			u = v
		}
	}
}

// TestGreatest edits a score that has as much of all as there may be.
func TestGreatest(t *testing.T) {
	chord := "64 C3 E3 G3 B3 C4 E4 G4 B4 !1234"
	voice := strings.TrimSuffix(strings.Repeat(chord+"|", 64), "|")
	s := scored(strings.Repeat("1/1 ", 100))
	cell := celled(strings.Join([]string{voice, voice, voice, voice}, "/"))
	for range 8 {
		p := api.Part{Dyns: make([][]api.Dyn, 100)}
		for range 100 {
			p.Cells = append(p.Cells, cell)
		}
		s.Parts = append(s.Parts, p)
	}
	for _, op := range []api.Op{opUp(-1, -1, -2), opBarsOut(0, 99), opEvents(api.Place{Part: 7, Bar: 99, Voice: 3, At: 63}, 1, "64"), opVoiceOut(7, 99, 3)} {
		want, back, e := made(s, op)
		u, b, f := edit.Apply(s, op)
		if e != api.OK || f != api.OK || !equal(u, want) || !equalOps(b, back) {
			t.Errorf("%s: error %d, want error %d", brief(op), f, e)
		}
	}
}
