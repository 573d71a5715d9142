package score

import (
	"slices"

	"partita/api"
	"partita/event"
	"partita/ratio"
	"partita/voice"
)

// spot is an event, the number of its voice, and where it stands: from the beginning of its bar, and that from the score's.
type spot struct {
	event  api.Event
	number int
	bar    api.Ratio
	start  api.Ratio
}

// record are the sounds of the events so far, and, voice by voice, the number of the sound that goes on, for each pitch that the last of its events ties.
type record struct {
	sounds []api.Sound
	tied   [api.MaxVoices]map[api.Pitch]int
}

// begin adds a sound of a pitch that is nothing long so far; ErrRatio, if its place is no right ratio.
func (r *record) begin(p api.Pitch, x spot) api.Errno {
	at, errno := ratio.Add(x.bar, x.start)
	r.sounds = append(r.sounds, api.Sound{Pitch: p, At: at, Length: beginning(), Marks: fresh(x.event.Marks)})
	return errno
}

// lengthen makes a sound longer; ErrRatio, if it is then as long as no right ratio is.
func (r *record) lengthen(number int, by api.Ratio) api.Errno {
	length, errno := ratio.Add(r.sounds[number].Length, by)
	r.sounds[number].Length = length
	return errno
}

// add takes the next event of a voice: a pitch that the event ahead ties goes on, another one begins. Of a right score ties lead to the next event alone, so that none waits while a voice pauses.
func (r *record) add(x spot) api.Errno {
	length, _ := event.Length(x.event) // each event is right
	tied := map[api.Pitch]int{}
	for i, p := range x.event.Pitches {
		number, goesOn := r.tied[x.number][p]
		if !goesOn {
			number = len(r.sounds)
			if errno := r.begin(p, x); errno != api.OK {
				return errno
			}
		}
		if errno := r.lengthen(number, length); errno != api.OK {
			return errno
		}
		if x.event.Ties[i] {
			tied[p] = number
		}
	}
	r.tied[x.number] = tied
	return api.OK
}

func byPlace(a, b api.Sound) int { return ratio.Compare(a.At, b.At) }

// Sounds answers what sounds of a part, by where it begins, the lesser voices ahead: tied pitches are one sound, with the marks of the first event; Check's error; ErrArg, if there is no such part; ErrRatio, if a place, or a length while it is added up event by event, is no right ratio.
func Sounds(s api.Score, part int) ([]api.Sound, api.Errno) {
	errno := noPart(s, part)
	if errno != api.OK {
		return nil, errno
	}
	var r record
wrong:
	for c := range cells(s, part) {
		for number, v := range c.voices {
			starts, _ := voice.Starts(v) // each voice is right
			for i, e := range v.L {
				if errno = r.add(spot{event: e, number: number, bar: c.over.from, start: starts[i]}); errno != api.OK {
					break wrong
				}
			}
		}
	}
	if errno != api.OK {
		return nil, errno
	}
	// Stable: so sounds of one place stay as they came, voice by voice and pitch by pitch.
	slices.SortStableFunc(r.sounds, byPlace)
	return r.sounds, api.OK
}
