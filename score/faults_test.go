package score_test

import (
	"math/big"
	"slices"
	"unicode/utf8"

	"partita/api"
	"partita/event"
)

// All that chapter 8 says may be wrong with a score, each found by itself.

// fault is something wrong, and where it stands in the order of P8.1.
type fault struct {
	rank  []int
	at    api.Place
	errno api.Errno
}

type finder struct {
	s     api.Score
	found []fault
}

func (f *finder) when(wrong bool, errno api.Errno, at api.Place, rank ...int) {
	if wrong {
		f.found = append(f.found, fault{rank, at, errno})
	}
}

func wrongName(name string) bool {
	control := slices.ContainsFunc([]byte(name), func(b byte) bool { return b < 32 || b == 127 })
	return control || len(name) > 40 || !utf8.ValidString(name)
}

func wrongMeter(m api.Meter) bool {
	sum := 0
	for _, group := range m.Groups {
		if group < 1 || group > 32 {
			return true
		}
		sum += group
	}
	return m.Num < 1 || m.Num > 32 || !slices.Contains([]int{1, 2, 4, 8, 16, 32, 64}, m.Den) || len(m.Groups) > 0 && sum != m.Num
}

// wrongPlaces tells whether places do not rise from 0 to below a length.
func wrongPlaces(l []api.Ratio, length *big.Rat) bool {
	for i, at := range l {
		if !right(at) || at.Num < 0 || exact(at).Cmp(length) >= 0 || i > 0 && exact(l[i-1]).Cmp(exact(at)) >= 0 {
			return true
		}
	}
	return false
}

func wrongTempos(b api.Bar) bool {
	var l []api.Ratio
	for _, t := range b.Tempos {
		l = append(l, t.At)
		if t.Micros < 100000 || t.Micros > 4000000 {
			return true
		}
	}
	return wrongPlaces(l, barLong(b.Meter))
}

func wrongDyns(dyns []api.Dyn, length *big.Rat) bool {
	var l []api.Ratio
	for _, d := range dyns {
		l = append(l, d.At)
		if d.Level < 1 || d.Level > 127 {
			return true
		}
	}
	return wrongPlaces(l, length)
}

// lost tells whether an event ties what another one has not.
func lost(e, behind api.Event) bool {
	return slices.ContainsFunc(e.Pitches, func(p api.Pitch) bool { return ties(e, p) && !slices.Contains(behind.Pitches, p) })
}

// voice finds what is wrong with a voice.
func (f *finder) voice(i, j, k int, v api.Voice) {
	at := api.Place{Part: i, Bar: j, Voice: k}
	numbered := func(n int) api.Place { return api.Place{Part: i, Bar: j, Voice: k, At: n} }
	f.when(len(v.L) > 64, api.ErrVoice, numbered(64), 3, i, 1, j, k, 0)
	known := true
	for n, e := range v.L {
		known = known && event.Right(e)
		f.when(!event.Right(e), api.ErrEvent, numbered(n), 3, i, 1, j, k, 1, n)
	}
	if !known || len(v.L) > 64 {
		return
	}
	for n := 0; n+1 < len(v.L); n++ {
		f.when(lost(v.L[n], v.L[n+1]), api.ErrTie, numbered(n), 3, i, 1, j, k, 2, n)
	}
	l := places(v)
	f.when(slices.ContainsFunc(l, func(r *big.Rat) bool { return !fits(r) }), api.ErrRatio, at, 3, i, 1, j, k, 3)
	f.when(l[len(l)-1].Cmp(barLong(f.s.Bars[j].Meter)) != 0, api.ErrFill, at, 3, i, 1, j, k, 4)
	if n := len(v.L) - 1; n >= 0 {
		b, ok := api.Event{}, j+1 < len(f.s.Parts[i].Cells) && k < len(f.s.Parts[i].Cells[j+1]) && len(f.s.Parts[i].Cells[j+1][k].L) > 0
		if ok {
			b = f.s.Parts[i].Cells[j+1][k].L[0]
		}
		f.when(lost(v.L[n], b), api.ErrTie, numbered(n), 4, i, j, k)
	}
}

// part finds what is wrong with a part, in bars whose meters are right.
func (f *finder) part(i int, p api.Part) {
	bars := f.s.Bars
	own := wrongName(p.Name) || p.Clef < 0 || p.Clef > 3 || p.Channel < 0 || p.Channel > 15 || len(p.Cells) != len(bars) || len(p.Dyns) != len(bars)
	f.when(own, api.ErrScore, api.Place{Part: i}, 3, i, 0)
	for j := range min(len(p.Cells), len(bars)) {
		at := api.Place{Part: i, Bar: j}
		f.when(len(p.Cells[j]) == 0 || len(p.Cells[j]) > 4, api.ErrLimit, at, 3, i, 1, j, -1)
		for k, v := range p.Cells[j] {
			f.voice(i, j, k, v)
		}
	}
	for j := range min(len(p.Dyns), len(bars)) {
		f.when(wrongDyns(p.Dyns[j], barLong(bars[j].Meter)), api.ErrDyn, api.Place{Part: i, Bar: j}, 3, i, 1, j, 1000000)
	}
}

// checked is what Check tells of a score: of all faults the one that is ahead of the others.
func checked(s api.Score) (api.Place, api.Errno) {
	f := finder{s: s}
	f.when(len(s.Bars) < 1 || len(s.Bars) > 100 || len(s.Parts) < 1 || len(s.Parts) > 8, api.ErrLimit, api.Place{}, 1, 0)
	f.when(wrongName(s.Title), api.ErrScore, api.Place{}, 1, 1)
	meters := true
	for j, b := range s.Bars {
		at := api.Place{Bar: j}
		meters = meters && !wrongMeter(b.Meter)
		f.when(wrongMeter(b.Meter), api.ErrMeter, at, 2, j, 0)
		f.when(b.Key.Fifths < -7 || b.Key.Fifths > 7, api.ErrKey, at, 2, j, 1)
		f.when(!wrongMeter(b.Meter) && wrongTempos(b), api.ErrTempo, at, 2, j, 2)
	}
	for i, p := range s.Parts {
		if meters {
			f.part(i, p)
		}
	}
	if len(f.found) == 0 {
		return api.Place{}, api.OK
	}
	first := slices.MinFunc(f.found, func(a, b fault) int { return slices.Compare(a.rank, b.rank) })
	return first.at, first.errno
}
