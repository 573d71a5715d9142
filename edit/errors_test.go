package edit_test

import (
	"math"
	"slices"
	"strings"
	"testing"

	"partita/api"
	"partita/edit"
	"partita/score"
)

// P9.1: which error is told.

// pick is a score of two parts of three and of one voice, and of three bars; in the first bar's voices there are two events, one, and three.
func pick() api.Score {
	return scored("2/4 2/4 2/4", "4 C4|4/2/8|8 E4|4;2/2/2;2/2/2", "2 C3;2;2")
}

// numbers are such that there is none of so many items, and such that there is one.
func numbers(count int) (none, some []int) {
	none = append(extremes(), -1, -2, count, count+1, count+2, count+100)
	for n := range count {
		some = append(some, n)
	}
	return none, some
}

// TestNoSuchPlace asks for each kind at the first and the last number, at how many there are, below 0, and at the extremes.
func TestNoSuchPlace(t *testing.T) {
	noPart, parts := numbers(2)
	noBar, bars := numbers(3)
	dyns := func(part, bar int) api.Op { return opDyns(part, bar, loud(of(0, 1), 9)...) }
	same := func(part, bar int) api.Op { return opEvents(api.Place{Part: part, Bar: bar}, 0, "") }
	voiceIn := func(part, bar int) api.Op { return opVoiceIn(part, bar, 0, "2") }
	voiceOut := func(part, bar int) api.Op { return opVoiceOut(part, bar, 0) }
	for _, op := range []func(part, bar int) api.Op{dyns, same, voiceIn, voiceOut} {
		for _, part := range noPart {
			for _, bar := range slices.Concat(bars, noBar) {
				expectRefused(t, pick(), op(part, bar), api.ErrOp)
			}
		}
		for _, part := range parts {
			for _, bar := range noBar {
				expectRefused(t, pick(), op(part, bar), api.ErrOp)
			}
			for _, bar := range bars {
				if _, _, e := edit.Apply(pick(), op(part, bar)); e == api.ErrOp {
					t.Errorf("%s: refused", brief(op(part, bar)))
				}
			}
		}
	}
	for _, bar := range bars {
		b := api.Bar{Meter: timed("4/8")}
		expectDone(t, pick(), opBar(bar, b), changed(pick(), func(s *api.Score) { s.Bars[bar] = b }), opBar(bar, pick().Bars[bar]))
	}
	for _, bar := range noBar {
		expectRefused(t, pick(), opBar(bar, barred("2/4")...), api.ErrOp)
	}
}

func TestNoSuchVoice(t *testing.T) {
	for part, count := range []int{3, 1} {
		none, _ := numbers(count)
		for _, voice := range none {
			for bar := range 3 {
				p := api.Place{Part: part, Bar: bar, Voice: voice}
				expectRefused(t, pick(), opEvents(p, 0, ""), api.ErrOp)
				expectRefused(t, pick(), opEvents(p, 1, "2"), api.ErrOp)
				expectRefused(t, pick(), opVoiceOut(part, bar, voice), api.ErrOp)
				if voice != count { // behind all a voice may come
					expectRefused(t, pick(), opVoiceIn(part, bar, voice, "2"), api.ErrOp)
				}
			}
		}
	}
}

// TestNoSuchEvents asks for At and Count of 0, of all, of one more, below 0, and the extremes.
func TestNoSuchEvents(t *testing.T) {
	for voice, there := range []int{2, 1, 3} {
		for _, at := range append(extremes(), -2, -1, 0, 1, 2, 3, 4, 5) {
			for _, count := range append(extremes(), -5, -2, -1, 0, 1, 2, 3, 4, 5) {
				op := opEvents(api.Place{Voice: voice, At: at}, count, "")
				if at < 0 || count < 0 || at > there || count > there || at+count > there {
					expectRefused(t, pick(), op, api.ErrOp)
				} else if count > 0 {
					expectRefused(t, pick(), op, api.ErrFill)
				} else {
					expectDone(t, pick(), op, pick(), op)
				}
			}
		}
	}
}

func TestNoSuchBars(t *testing.T) {
	for _, at := range append(extremes(), -3, -2, -1, 0, 1, 2, 3, 4, 5, 100) {
		for _, count := range append(extremes(), -3, -1, 0, 1, 2, 3, 4, 5, 100) {
			op := opBarsOut(at, count)
			if at < 0 || count < 0 || at > 3 || count > 3 || at+count > 3 {
				expectRefused(t, pick(), op, api.ErrOp)
			} else if count == 3 {
				expectRefused(t, pick(), op, api.ErrLimit)
			} else {
				want, back := withoutBars(pick(), at, count)
				expectDone(t, pick(), op, want, back)
			}
		}
		for _, op := range []api.Op{opBarsIn(at, "", "", ""), opBarsIn(at, "1/4", "4", "4 C4")} {
			if at < 0 || at > 3 {
				expectRefused(t, pick(), op, api.ErrOp)
			} else {
				expectDone(t, pick(), op, withBars(pick(), at, op), opBarsOut(at, len(op.Bars)))
			}
		}
	}
}

// TestBarsInOfOtherNumbers has parts, or bars, too few and too many, each by itself.
func TestBarsInOfOtherNumbers(t *testing.T) {
	good := func() api.Op { return opBarsIn(1, "1/4 1/4", "4;4", "4 C4;4 D4") }
	expectDone(t, pick(), good(), withBars(pick(), 1, good()), opBarsOut(1, 2))
	cell, dyns := celled("4"), loud(of(0, 1), 9)
	for i, how := range []func(op *api.Op){
		func(op *api.Op) { op.Bars = nil }, func(op *api.Op) { op.Bars = op.Bars[:1] }, func(op *api.Op) { op.Bars = append(op.Bars, barred("1/4")...) },
		func(op *api.Op) { op.Cells = nil }, func(op *api.Op) { op.Cells = op.Cells[:1] }, func(op *api.Op) { op.Cells = append(op.Cells, cells("4;4")) }, func(op *api.Op) { op.Cells = append(op.Cells, nil) },
		func(op *api.Op) { op.Dyns = nil }, func(op *api.Op) { op.Dyns = op.Dyns[:1] }, func(op *api.Op) { op.Dyns = append(op.Dyns, make([][]api.Dyn, 2)) }, func(op *api.Op) { op.Dyns = append(op.Dyns, nil) },
		func(op *api.Op) { op.Cells[0] = nil }, func(op *api.Op) { op.Cells[1] = nil }, func(op *api.Op) { op.Cells[0] = op.Cells[0][:1] }, func(op *api.Op) { op.Cells[1] = op.Cells[1][:1] }, func(op *api.Op) { op.Cells[0] = append(op.Cells[0], cell) }, func(op *api.Op) { op.Cells[1] = append(op.Cells[1], cell) },
		func(op *api.Op) { op.Dyns[0] = nil }, func(op *api.Op) { op.Dyns[1] = nil }, func(op *api.Op) { op.Dyns[0] = op.Dyns[0][:1] }, func(op *api.Op) { op.Dyns[1] = op.Dyns[1][:1] }, func(op *api.Op) { op.Dyns[0] = append(op.Dyns[0], dyns) }, func(op *api.Op) { op.Dyns[1] = append(op.Dyns[1], dyns) },
		func(op *api.Op) { op.Cells[0], op.Cells[1] = op.Cells[0][:1], append(op.Cells[1], cell) }, func(op *api.Op) { op.Dyns[0], op.Dyns[1] = op.Dyns[0][:1], append(op.Dyns[1], dyns) }, func(op *api.Op) { op.Cells, op.Dyns = nil, nil }, func(op *api.Op) { op.Cells, op.Dyns, op.Bars = nil, nil, nil },
		func(op *api.Op) { op.Bars = nil; op.Cells, op.Dyns = make([][][]api.Voice, 2), make([][][]api.Dyn, 1) }, func(op *api.Op) { op.Bars = nil; op.Cells, op.Dyns = make([][][]api.Voice, 3), make([][][]api.Dyn, 2) },
	} {
		op := good()
		how(&op)
		if equalOps(op, good()) {
			t.Fatalf("change %d is none", i)
		}
		expectRefused(t, pick(), op, api.ErrOp)
	}
}

// TestNotOne has lists of one item of other numbers.
func TestNotOne(t *testing.T) {
	for _, op := range []api.Op{opBar(0), opBar(1, barred("2/4 2/4")...), opBar(2, barred("2/4 2/4 2/4")...)} {
		expectRefused(t, pick(), op, api.ErrOp)
	}
	dyns := loud(of(0, 1), 9)
	for _, l := range [][][][]api.Dyn{nil, {}, {nil}, {{}}, {{dyns, dyns}}, {{dyns}, {dyns}}, {{dyns}, nil}, {nil, {dyns}}, {{nil, nil}}, {{dyns}, {dyns}, {dyns}}, {{dyns, dyns, dyns}}} {
		expectRefused(t, pick(), api.Op{Kind: api.OpDyns, Dyns: l}, api.ErrOp)
	}
	one, two := celled("2"), celled("2/2")
	for _, l := range [][][][]api.Voice{nil, {}, {nil}, {{}}, {{nil}}, {{{}}}, {{two}}, {{one, one}}, {{one}, {one}}, {{one}, nil}, {nil, {one}}, {{one, nil}}, {{nil, one}}, {{nil}, {one}}, {{append(two, one...)}}} {
		expectRefused(t, pick(), api.Op{Kind: api.OpVoiceIn, Cells: l}, map[bool]api.Errno{false: api.ErrOp, true: api.ErrFill}[isOneVoice(l)])
	}
}

// isOneVoice tells whether there is one part's, of one bar, of one voice.
func isOneVoice(l [][][]api.Voice) bool {
	return len(l) == 1 && len(l[0]) == 1 && len(l[0][0]) == 1
}

func TestNoSuchKind(t *testing.T) {
	for _, kind := range append(extremes(), 0, -1, -8, 10, 11, 100, 256+1, 1<<32+2) {
		op := cluttered(api.Op{Kind: kind})
		expectRefused(t, pick(), op, api.ErrOp)
		expectRefused(t, pick(), api.Op{Kind: kind, Text: "x"}, api.ErrOp)
		expectRefused(t, pick(), api.Op{Kind: kind, Events: sung("2 C4"), Count: 1}, api.ErrOp)
	}
}

func TestTooFarUp(t *testing.T) {
	rests := upped(0, 0, "2;2.", "2;2.")
	for _, part := range []int{-1, 0, 1, math.MinInt} {
		for _, n := range append(extremes(), 71, -71, 72, -72, 120, -120, 127) {
			expectRefused(t, rests, opUp(part, n, 0), api.ErrOp)
			expectRefused(t, rests, opUp(part, n, n), api.ErrOp)
			expectRefused(t, rests, opUp(part, n, 120), api.ErrOp)
		}
		for _, n := range append(extremes(), 121, -121, 122, -122, 127) {
			expectRefused(t, rests, opUp(part, 0, n), api.ErrOp)
			expectRefused(t, rests, opUp(part, 70, n), api.ErrOp)
			expectRefused(t, rests, opUp(part, -70, n), api.ErrOp)
		}
	}
	none, _ := numbers(2)
	for _, part := range none {
		if part > 0 {
			expectRefused(t, rests, opUp(part, 0, 0), api.ErrOp)
			expectRefused(t, rests, opUp(part, 71, 0), api.ErrOp)
			expectRefused(t, rests, opUp(part, 7, 12), api.ErrOp)
		}
	}
}

// TestKeysUp asks for keys that can't be moved: the first one, one in the middle, the last one.
func TestKeysUp(t *testing.T) {
	for at := range 3 {
		s := changed(pick(), func(s *api.Score) { s.Bars[at].Key.Fifths = 6 })
		expectRefused(t, s, opUp(-1, 1, 2), api.ErrKey)
		expectRefused(t, s, opUp(-1, 0, -2), api.ErrKey)
		expectRefused(t, s, opUp(-9, 0, 2), api.ErrKey)
		expectDone(t, s, opUp(0, 1, 2), changed(s, func(s *api.Score) {
			s.Parts[0].Cells[0] = celled("4 D4|4/2/8|8 F#4|4")
		}), opUp(0, -1, -2)) // a part alone leaves the keys
	}
}

// TestEventsUp asks for events that can't be moved, at each place by itself.
func TestEventsUp(t *testing.T) {
	for _, p := range allPlaces(pick()) {
		for _, x := range []struct {
			name          string
			steps, halves int
		}{{"G9", 0, 1}, {"G9", 7, 12}, {"C-1", 0, -1}, {"C-1", -1, -2}, {"C##4", 0, 1}, {"Dbb4", 0, -1}, {"C4", 1, 5}, {"C4", 0, 120}, {"C4", 70, 120}, {"C4", -70, 0}} {
			s := changed(pick(), func(s *api.Score) {
				for _, q := range allPlaces(*s) { // all others are rests
					e := &s.Parts[q.Part].Cells[q.Bar][q.Voice].L[q.At]
					*e = api.Event{Value: e.Value}
					if q == p {
						e.Kind, e.Pitches, e.Ties = api.Chord, []api.Pitch{named(x.name)}, []bool{false}
					}
				}
			})
			expectRefused(t, s, opUp(p.Part, x.steps, x.halves), api.ErrPitch)
			expectDone(t, s, opUp(1-p.Part, x.steps, x.halves), s, opUp(1-p.Part, -x.steps, -x.halves))
			if fifths := 7*x.halves - 12*x.steps; fifths >= -7 && fifths <= 7 {
				expectRefused(t, s, opUp(-1, x.steps, x.halves), api.ErrPitch)
			} else {
				expectRefused(t, s, opUp(-1, x.steps, x.halves), api.ErrKey) // of the keys first
			}
		}
	}
}

// TestKeysAheadOfEvents has the last bar's key, and the first event, not go up.
func TestKeysAheadOfEvents(t *testing.T) {
	s := changed(scored("2/4 2/4", "2 G9;2 G9", "2 G9;2 G9"), func(s *api.Score) { s.Bars[1].Key.Fifths = 7 })
	expectRefused(t, s, opUp(-1, 0, 1), api.ErrKey)
	expectRefused(t, s, opUp(0, 0, 1), api.ErrPitch)
	expectRefused(t, s, opUp(-1, 7, 12), api.ErrPitch)
}

// wrongScores are such that are not right.
func wrongScores() []api.Score {
	l := []api.Score{{}, {Title: "x"}, {Bars: make([]api.Bar, 3)}, plain(9, 1), plain(1, 101), plain(0, 3), {Bars: make([]api.Bar, 2), Parts: make([]api.Part, 2)}}
	for _, how := range []func(s *api.Score){
		func(s *api.Score) { s.Title = "\n" }, func(s *api.Score) { s.Bars[1].Meter.Num = math.MaxInt }, func(s *api.Score) { s.Bars[2].Key.Fifths = 8 }, func(s *api.Score) { s.Bars[0].Tempos = tempo(of(1, 2), 500000) }, func(s *api.Score) { s.Parts[1].Clef = 4 }, func(s *api.Score) { s.Parts[1].Cells = s.Parts[1].Cells[:2] }, func(s *api.Score) { s.Parts[0].Dyns = append(s.Parts[0].Dyns, nil) }, func(s *api.Score) { s.Parts[0].Cells[2] = nil }, func(s *api.Score) { s.Parts[0].Cells[2] = celled("2/2/2/2/2") }, func(s *api.Score) { s.Parts[1].Cells[0] = celled("4") }, func(s *api.Score) { s.Parts[1].Cells[0][0].L = nil }, func(s *api.Score) { s.Parts[1].Cells[2] = celled("2 C4~") }, func(s *api.Score) { s.Parts[1].Cells[2] = celled("4 C4~|4 D4") }, func(s *api.Score) { s.Parts[0].Cells[1][2].L[0].Marks = []int{1} }, func(s *api.Score) { s.Parts[0].Dyns[1] = loud(of(0, 1), 0) }, func(s *api.Score) { s.Parts[1].Cells[1][0].L = sung(strings.Repeat("64|", 64) + "64") },
	} {
		l = append(l, changed(pick(), how))
	}
	return l
}

// someOps are edits of pick of each kind, all of which can be done.
func someOps() []api.Op {
	return []api.Op{opEvents(api.Place{}, 2, "2 E4"), opBarsIn(1, "1/4", "4 D4", "4"), opBarsOut(1, 1), opBar(2, api.Bar{Meter: timed("2/4"), Key: api.Key{Fifths: 1}}), opDyns(1, 1, loud(of(1, 4), 3)...), opVoiceIn(1, 0, 0, "2"), opVoiceOut(0, 2, 1), opUp(1, 4, 7), opUp(-1, 1, 1), opTitle("New")}
}

// TestScoreAheadOfEdit has wrong scores, with edits that can be done, such that can't, and such that would mend them.
func TestScoreAheadOfEdit(t *testing.T) {
	for _, s := range wrongScores() {
		_, errno := score.Check(s)
		if errno == api.OK {
			t.Fatalf("%s is right", brief(s))
		}
		for _, op := range append(someOps(), api.Op{}, junk(), opTitle("\n"), opBarsOut(2, 5), opUp(9, 0, 0), opUp(-1, 0, 3), opBarsOut(0, 3), opEvents(api.Place{Part: 1}, 1, "2"), opBar(1, barred("2/4")...), opVoiceOut(0, 2, 4)) {
			expectRefused(t, s, op, errno)
		}
		for kind := range 11 {
			expectRefused(t, s, cluttered(api.Op{Kind: kind}), errno)
		}
	}
	for _, op := range someOps() { // which can be done, where the score is right
		if _, _, e := edit.Apply(pick(), op); e != api.OK {
			t.Errorf("%s: error %d", brief(op), e)
		}
	}
}

// TestEditAheadOfWhatComes has edits that can't be done there, with what would not be right either.
func TestEditAheadOfWhatComes(t *testing.T) {
	wrong := api.Event{Kind: 7}
	many := make([]api.Bar, 200)
	for _, op := range []api.Op{
		{Kind: api.OpEvents, Place: api.Place{At: 3}, Events: []api.Event{wrong}}, {Kind: api.OpEvents, Count: 3, Events: []api.Event{wrong}}, {Kind: api.OpEvents, Place: api.Place{Voice: 3}, Count: 1},
		{Kind: api.OpBarsIn, Place: api.Place{Bar: 4}, Bars: many, Cells: make([][][]api.Voice, 2), Dyns: make([][][]api.Dyn, 2)}, {Kind: api.OpBarsIn, Bars: many}, opBarsOut(0, 4), opBarsOut(-1, 3), opBar(3, api.Bar{}), opBar(0, api.Bar{}, api.Bar{}), opBar(0),
		opDyns(2, 0, api.Dyn{}), opDyns(0, 3, api.Dyn{}), opVoiceIn(0, 0, 4, "1/1"), opVoiceIn(0, 0, 4, "1"), opVoiceIn(1, 0, 0, "1/1"), opVoiceOut(1, 0, 1), opUp(2, 0, 120), opUp(-1, 71, 3), opUp(0, 0, 121),
	} {
		expectRefused(t, pick(), op, api.ErrOp)
	}
}

// TestWhatComesIsNotRight has edits that can be done there, of which no right score comes.
func TestWhatComesIsNotRight(t *testing.T) {
	with := func(e api.Event) api.Op { return api.Op{Kind: api.OpEvents, Count: 1, Events: []api.Event{e}} }
	bars := func(how func(op *api.Op)) api.Op {
		op := opBarsIn(3, "1/4", "4", "4")
		how(&op)
		return op
	}
	bar := func(how func(b *api.Bar)) api.Op {
		b := barred("2/4")
		how(&b[0])
		return opBar(1, b...)
	}
	odd := written("4 C4")
	odd.Ties = nil
	for i, x := range []struct {
		op    api.Op
		errno api.Errno
	}{
		{opEvents(api.Place{}, 1, "8"), api.ErrFill}, {opEvents(api.Place{}, 1, "2"), api.ErrFill}, {opEvents(api.Place{}, 1, ""), api.ErrFill}, {opEvents(api.Place{}, 2, ""), api.ErrFill}, {opEvents(api.Place{At: 2}, 0, "4"), api.ErrFill}, {opEvents(api.Place{}, 1, "4 C4~"), api.ErrTie}, {opEvents(api.Place{At: 1}, 1, "4 C4~"), api.ErrTie}, {opEvents(api.Place{Bar: 2}, 1, "2 C4~"), api.ErrTie}, {opEvents(api.Place{}, 1, "4 !1"), api.ErrEvent}, {opEvents(api.Place{}, 1, "4 'la"), api.ErrEvent}, {with(odd), api.ErrEvent}, {with(api.Event{Kind: 2}), api.ErrEvent}, {with(api.Event{Value: api.Value{Base: math.MinInt}}), api.ErrEvent}, {opEvents(api.Place{}, 2, strings.Repeat("64|", 64)+"64"), api.ErrVoice},
		{bars(func(op *api.Op) { op.Bars[0] = api.Bar{} }), api.ErrMeter}, {bars(func(op *api.Op) { op.Bars[0].Key.Fifths = -8 }), api.ErrKey}, {bars(func(op *api.Op) { op.Bars[0].Tempos = tempo(of(1, 4), 500000) }), api.ErrTempo}, {bars(func(op *api.Op) { op.Cells[1][0] = nil }), api.ErrLimit}, {bars(func(op *api.Op) { op.Cells[0][0] = celled("4/4/4/4/4") }), api.ErrLimit}, {bars(func(op *api.Op) { op.Cells[0][0] = celled("4/2") }), api.ErrFill}, {bars(func(op *api.Op) { op.Cells[0][0] = celled("4 C4~") }), api.ErrTie}, {bars(func(op *api.Op) { op.Dyns[1][0] = loud(of(1, 4), 9) }), api.ErrDyn}, {bars(func(op *api.Op) { op.Cells[0][0], op.Dyns[0][0] = celled("2"), loud(of(0, 1), 128) }), api.ErrFill},
		{opBarsOut(0, 3), api.ErrLimit},
		{bar(func(b *api.Bar) { b.Meter.Num = 3 }), api.ErrFill}, {bar(func(b *api.Bar) { b.Meter.Den = math.MinInt }), api.ErrMeter}, {bar(func(b *api.Bar) { b.Key.Fifths = math.MaxInt }), api.ErrKey}, {bar(func(b *api.Bar) { b.Tempos = tempo(of(0, 1), 99999) }), api.ErrTempo}, {bar(func(b *api.Bar) { b.Meter.Groups = []int{1} }), api.ErrMeter},
		{opDyns(0, 0, api.Dyn{At: of(0, 1)}), api.ErrDyn}, {opDyns(0, 0, api.Dyn{Level: 1}), api.ErrDyn}, {opDyns(1, 2, api.Dyn{At: of(1, 2), Level: 1}), api.ErrDyn}, {opDyns(1, 2, slices.Repeat(loud(of(0, 1), 9), 2)...), api.ErrDyn},
		{opVoiceIn(1, 0, 1, "4"), api.ErrFill}, {opVoiceIn(1, 0, 1, "2 C4~"), api.ErrTie}, {opVoiceIn(1, 0, 1, ""), api.ErrFill}, {opVoiceIn(1, 0, 1, "2 !1"), api.ErrEvent}, {opVoiceIn(1, 0, 0, strings.Repeat("64|", 64)+"64"), api.ErrVoice},
		{opVoiceOut(1, 0, 0), api.ErrLimit},
		{opTitle("\n"), api.ErrScore}, {opTitle("\xff"), api.ErrScore}, {opTitle(strings.Repeat("x", 41)), api.ErrScore}, {opTitle(strings.Repeat("ä", 21)), api.ErrScore}, {opTitle("\x7f"), api.ErrScore}, {opTitle(strings.Repeat("x", 100000)), api.ErrScore},
	} {
		if _, _, e := made(pick(), x.op); e != x.errno {
			t.Fatalf("%d: error %d by what the chapter says, want error %d", i, e, x.errno)
		}
		expectRefused(t, pick(), x.op, x.errno)
	}
}
