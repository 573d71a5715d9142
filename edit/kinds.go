package edit

import (
	"partita/api"
	"partita/event"
	"partita/key"
)

const (
	allParts   = -1 // the part of an edit that goes to all of them
	mostSteps  = 70
	mostHalves = 120
)

func within(n, least, most int) bool { return least <= n && n <= most }

// among tells whether there is an item of that number.
func among(number, count int) bool { return within(number, 0, count-1) }

// stretch tells whether there are so many items from one on.
func stretch(from, count, there int) bool {
	return from >= 0 && count >= 0 && count <= there-from // from and count together may be too much for 64 bits
}

// refused is what an edit that can't be done there answers.
func refused() (api.Op, api.Errno) { return api.Op{}, api.ErrOp }

// part answers the part of a place; nil, if there is no such part, or no such bar.
func (w *work) part(p api.Place) *api.Part {
	if !among(p.Part, len(w.score.Parts)) || !among(p.Bar, len(w.score.Bars)) {
		return nil
	}
	return &w.score.Parts[p.Part]
}

// voice answers the voice of a place; nil, if there is none.
func (w *work) voice(p api.Place) *api.Voice {
	part := w.part(p)
	if part == nil || !among(p.Voice, len(part.Cells[p.Bar])) {
		return nil
	}
	return &part.Cells[p.Bar][p.Voice]
}

// events has events of a voice give way to others.
func (w *work) events(op api.Op) (api.Op, api.Errno) {
	v := w.voice(op.Place)
	if v == nil || !stretch(op.Place.At, op.Count, len(v.L)) {
		return refused()
	}
	back := api.Op{Kind: api.OpEvents, Place: op.Place, Count: len(op.Events)}
	v.L, back.Events = replaced(v.L, op.Place.At, op.Count, each(op.Events, copiedEvent))
	return back, api.OK
}

// forBars tells whether there is an item of a list for each part, and in that one for each of so many bars.
func forBars[T any](l [][]T, parts, bars int) bool {
	for _, part := range l {
		if len(part) != bars {
			return false
		}
	}
	return len(l) == parts
}

// barsIn puts bars in, with what the parts have there.
func (w *work) barsIn(op api.Op) (api.Op, api.Errno) {
	at, bars, parts := op.Place.Bar, len(op.Bars), len(w.score.Parts)
	if !within(at, 0, len(w.score.Bars)) || !forBars(op.Cells, parts, bars) || !forBars(op.Dyns, parts, bars) {
		return refused()
	}
	w.score.Bars, _ = replaced(w.score.Bars, at, 0, each(op.Bars, copiedBar))
	for i := range w.score.Parts {
		part := &w.score.Parts[i]
		part.Cells, _ = replaced(part.Cells, at, 0, each(op.Cells[i], copiedCell))
		part.Dyns, _ = replaced(part.Dyns, at, 0, each(op.Dyns[i], copiedDyns))
	}
	return api.Op{Kind: api.OpBarsOut, Place: api.Place{Bar: at}, Count: bars}, api.OK
}

// barsOut takes bars out, with what the parts have there.
func (w *work) barsOut(op api.Op) (api.Op, api.Errno) {
	at, parts := op.Place.Bar, len(w.score.Parts)
	if !stretch(at, op.Count, len(w.score.Bars)) {
		return refused()
	}
	back := api.Op{Kind: api.OpBarsIn, Place: api.Place{Bar: at}, Cells: make([][][]api.Voice, parts), Dyns: make([][][]api.Dyn, parts)}
	w.score.Bars, back.Bars = replaced(w.score.Bars, at, op.Count, nil)
	for i := range w.score.Parts {
		part := &w.score.Parts[i]
		part.Cells, back.Cells[i] = replaced(part.Cells, at, op.Count, nil)
		part.Dyns, back.Dyns[i] = replaced(part.Dyns, at, op.Count, nil)
	}
	return back, api.OK
}

// bar has a bar give way to another one.
func (w *work) bar(op api.Op) (api.Op, api.Errno) {
	at := op.Place.Bar
	if !among(at, len(w.score.Bars)) || len(op.Bars) != 1 {
		return refused()
	}
	back := api.Op{Kind: api.OpBar, Place: api.Place{Bar: at}, Bars: []api.Bar{w.score.Bars[at]}}
	w.score.Bars[at] = copiedBar(op.Bars[0])
	return back, api.OK
}

// dyns has the dynamics of a part in a bar give way to others.
func (w *work) dyns(op api.Op) (api.Op, api.Errno) {
	part, at := w.part(op.Place), op.Place.Bar
	if part == nil || !forBars(op.Dyns, 1, 1) {
		return refused()
	}
	back := api.Op{Kind: api.OpDyns, Place: api.Place{Part: op.Place.Part, Bar: at}, Dyns: [][][]api.Dyn{{part.Dyns[at]}}}
	part.Dyns[at] = copiedDyns(op.Dyns[0][0])
	return back, api.OK
}

// withoutAt is the place of a voice.
func withoutAt(p api.Place) api.Place {
	p.At = 0
	return p
}

// voiceIn puts a voice into a part's bar.
func (w *work) voiceIn(op api.Op) (api.Op, api.Errno) {
	part, at := w.part(op.Place), op.Place.Bar
	if part == nil || !within(op.Place.Voice, 0, len(part.Cells[at])) || !forBars(op.Cells, 1, 1) || len(op.Cells[0][0]) != 1 {
		return refused()
	}
	part.Cells[at], _ = replaced(part.Cells[at], op.Place.Voice, 0, copiedCell(op.Cells[0][0]))
	return api.Op{Kind: api.OpVoiceOut, Place: withoutAt(op.Place)}, api.OK
}

// voiceOut takes a voice out of a part's bar.
func (w *work) voiceOut(op api.Op) (api.Op, api.Errno) {
	if w.voice(op.Place) == nil {
		return refused()
	}
	part, at := w.part(op.Place), op.Place.Bar
	all, out := replaced(part.Cells[at], op.Place.Voice, 1, nil)
	part.Cells[at] = all
	return api.Op{Kind: api.OpVoiceIn, Place: withoutAt(op.Place), Cells: [][][]api.Voice{{out}}}, api.OK
}

// keysUp moves the keys of all bars; key.Move's error of the first one that has one.
func (w *work) keysUp(by api.Interval) api.Errno {
	for i := range w.score.Bars {
		moved, errno := key.Move(w.score.Bars[i].Key, by)
		if errno != api.OK {
			return errno
		}
		w.score.Bars[i].Key = moved
	}
	return api.OK
}

// voiceUp moves the events of a voice; event.Up's error of the first one that has one.
func voiceUp(v api.Voice, by api.Interval) api.Errno {
	for i, e := range v.L {
		moved, errno := event.Up(e, by)
		if errno != api.OK {
			return errno
		}
		v.L[i] = moved
	}
	return api.OK
}

// partUp moves the events of a part, bar by bar and voice by voice; the first error.
func partUp(part api.Part, by api.Interval) api.Errno {
	for _, cell := range part.Cells {
		for _, v := range cell {
			if errno := voiceUp(v, by); errno != api.OK {
				return errno
			}
		}
	}
	return api.OK
}

// allUp moves the keys, and then the events of all parts; the first error.
func (w *work) allUp(by api.Interval) api.Errno {
	if errno := w.keysUp(by); errno != api.OK {
		return errno
	}
	for _, part := range w.score.Parts {
		if errno := partUp(part, by); errno != api.OK {
			return errno
		}
	}
	return api.OK
}

// up moves a part, or all of them with their keys.
func (w *work) up(op api.Op) (api.Op, api.Errno) {
	part, by := max(op.Place.Part, allParts), op.Interval
	if part >= len(w.score.Parts) || !within(by.Steps, -mostSteps, mostSteps) || !within(by.Halves, -mostHalves, mostHalves) {
		return refused()
	}
	back := api.Op{Kind: api.OpUp, Place: api.Place{Part: part}, Interval: api.Interval{Steps: -by.Steps, Halves: -by.Halves}}
	if part == allParts {
		return back, w.allUp(by)
	}
	return back, partUp(w.score.Parts[part], by)
}

// title has the title give way to another one.
func (w *work) title(op api.Op) (api.Op, api.Errno) {
	back := api.Op{Kind: api.OpTitle, Text: w.score.Title}
	w.score.Title = op.Text
	return back, api.OK
}
