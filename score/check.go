package score

import (
	"partita/api"
	"partita/event"
	"partita/key"
	"partita/meter"
	"partita/ratio"
	"partita/voice"
)

const (
	lastChannel = 15
	leastLevel  = 1
	mostLevel   = 127
)

// nameRight tells whether a text may be a name. Layer 6 tells of a word by an event that has it.
func nameRight(name string) bool {
	sung := api.Event{Kind: api.Chord, Pitches: []api.Pitch{{}}, Ties: []bool{false}, Word: name}
	return len(name) <= api.MaxName && event.Right(sung)
}

// placed tells whether items stand within a bar of that length, each behind the one ahead of it.
func placed[T any](l []T, at func(T) api.Ratio, length api.Ratio) bool {
	for i, item := range l {
		place := at(item)
		if !ratio.Right(place) || place.Num < 0 || ratio.Compare(place, length) >= 0 {
			return false
		}
		if i > 0 && ratio.Compare(at(l[i-1]), place) >= 0 {
			return false
		}
	}
	return true
}

func temposRight(l []api.Tempo, length api.Ratio) bool {
	for _, tempo := range l {
		if !within(tempo.Micros, api.MinMicros, api.MaxMicros) {
			return false
		}
	}
	return placed(l, func(tempo api.Tempo) api.Ratio { return tempo.At }, length)
}

func dynsRight(l []api.Dyn, length api.Ratio) bool {
	for _, dyn := range l {
		if !within(dyn.Level, leastLevel, mostLevel) {
			return false
		}
	}
	return placed(l, func(dyn api.Dyn) api.Ratio { return dyn.At }, length)
}

// wholeError looks at how many bars and parts there are, and at the title.
func wholeError(s api.Score) api.Errno {
	if !within(len(s.Bars), 1, api.MaxBars) || !within(len(s.Parts), 1, api.MaxParts) {
		return api.ErrLimit
	}
	if !nameRight(s.Title) {
		return api.ErrScore
	}
	return api.OK
}

func barError(b stretch) api.Errno {
	switch {
	case !meter.Right(b.bar.Meter):
		return api.ErrMeter
	case !key.Right(b.bar.Key):
		return api.ErrKey
	case !temposRight(b.bar.Tempos, b.length):
		return api.ErrTempo
	}
	return api.OK
}

// partError looks at what a part has but its cells and dynamics themselves.
func partError(part api.Part, bars int) api.Errno {
	switch {
	case !nameRight(part.Name),
		!within(part.Clef, api.Treble, api.Tenor),
		!within(part.Channel, 0, lastChannel),
		len(part.Cells) != bars,
		len(part.Dyns) != bars:
		return api.ErrScore
	}
	return api.OK
}

// voiceError answers, beside what is wrong with a voice in a bar of that length, the number of the event at fault.
func voiceError(v api.Voice, bar api.Ratio) (int, api.Errno) {
	length, errno := voice.Length(v)
	if errno != api.OK {
		at, _ := voice.Check(v) // 0, where the length alone is at fault
		return at, errno
	}
	if length != bar { // right ratios are equal, if their terms are
		return 0, api.ErrFill
	}
	return 0, api.OK
}

func cellError(c cell) (api.Place, api.Errno) {
	if !within(len(c.voices), 1, api.MaxVoices) {
		return c.place(0, 0), api.ErrLimit
	}
	for number, v := range c.voices {
		if at, errno := voiceError(v, c.over.length); errno != api.OK {
			return c.place(number, at), errno
		}
	}
	if !dynsRight(c.dyns, c.over.length) {
		return c.place(0, 0), api.ErrDyn
	}
	return api.Place{}, api.OK
}

// loose tells whether a right event that is a voice's last one ties a pitch that the event behind it has not.
func loose(c cell, number int, e api.Event) bool {
	behind, ok := c.behind(number)
	if !ok {
		return event.Tied(e)
	}
	_, errno := voice.Check(api.Voice{L: []api.Event{e, behind}}) // both are right: a tie alone can be wrong
	return errno != api.OK
}

func tieError(c cell) (api.Place, api.Errno) {
	for number, v := range c.voices {
		last := len(v.L) - 1 // a voice that fills its bar has events
		if loose(c, number, v.L[last]) {
			return c.place(number, last), api.ErrTie
		}
	}
	return api.Place{}, api.OK
}

func firstOfBars(s api.Score) (api.Place, api.Errno) {
	for b := range bars(s) {
		// What is wrong with a meter is told here, ahead of any length that hangs on it.
		if errno := barError(b); errno != api.OK {
			return api.Place{Bar: b.number}, errno
		}
	}
	return api.Place{}, api.OK
}

func firstOfParts(s api.Score) (api.Place, api.Errno) {
	at, errno := api.Place{}, api.OK
found:
	for number, part := range s.Parts {
		if errno = partError(part, len(s.Bars)); errno != api.OK {
			at.Part = number
			break found
		}
		for c := range cells(s, number) {
			if at, errno = cellError(c); errno != api.OK {
				break found
			}
		}
	}
	return at, errno
}

func firstOfTies(s api.Score) (api.Place, api.Errno) {
	at, errno := api.Place{}, api.OK
found:
	for number := range s.Parts {
		for c := range cells(s, number) {
			if at, errno = tieError(c); errno != api.OK {
				break found
			}
		}
	}
	return at, errno
}

// Check answers OK and a place of all 0, if s is right; else the first thing that is wrong, and its place: how much there is, and the title; then bar by bar what stands over them; then part by part, bar by bar what the part has there; then what the last events of voices tie.
func Check(s api.Score) (api.Place, api.Errno) {
	if errno := wholeError(s); errno != api.OK {
		return api.Place{}, errno
	}
	if at, errno := firstOfBars(s); errno != api.OK {
		return at, errno
	}
	if at, errno := firstOfParts(s); errno != api.OK {
		return at, errno
	}
	return firstOfTies(s)
}
