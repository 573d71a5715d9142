package edit

import (
	"slices"

	"partita/api"
)

// fresh copies a list into memory of its own.
func fresh[T any](l []T) []T { return append([]T(nil), l...) }

// each copies a list of items that have lists themselves, by what copies one of them.
func each[T any](l []T, copied func(T) T) []T {
	var all []T
	for _, item := range l {
		all = append(all, copied(item))
	}
	return all
}

// replaced answers l, count items of which, from that at at on, give way to others, and those that give way: two lists of memory of their own, though not what their items have.
func replaced[T any](l []T, at, count int, by []T) (all, out []T) {
	return slices.Concat(l[:at], by, l[at+count:]), fresh(l[at : at+count])
}

func copiedEvent(e api.Event) api.Event {
	e.Pitches, e.Ties, e.Marks = fresh(e.Pitches), fresh(e.Ties), fresh(e.Marks)
	return e
}

func copiedVoice(v api.Voice) api.Voice { return api.Voice{L: each(v.L, copiedEvent)} }

func copiedCell(cell []api.Voice) []api.Voice { return each(cell, copiedVoice) }

func copiedDyns(dyns []api.Dyn) []api.Dyn { return fresh(dyns) }

func copiedBar(b api.Bar) api.Bar {
	b.Meter.Groups, b.Turn.Endings, b.Tempos = fresh(b.Meter.Groups), fresh(b.Turn.Endings), fresh(b.Tempos)
	return b
}

func copiedPart(p api.Part) api.Part {
	p.Cells, p.Dyns = each(p.Cells, copiedCell), each(p.Dyns, copiedDyns)
	return p
}

func copiedScore(s api.Score) api.Score {
	s.Bars, s.Parts = each(s.Bars, copiedBar), each(s.Parts, copiedPart)
	return s
}
