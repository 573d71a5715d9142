package score

import (
	"slices"

	"partita/api"
	"partita/meter"
	"partita/voice"
)

func sameTurn(a, b api.Turn) bool {
	lines := a.Begin == b.Begin && a.Times == b.Times && slices.Equal(a.Endings, b.Endings)
	signs := a.Sign == b.Sign && a.Coda == b.Coda && a.ToCoda == b.ToCoda && a.Fine == b.Fine
	return lines && signs && a.Jump == b.Jump
}

func sameBar(a, b api.Bar) bool {
	return meter.Same(a.Meter, b.Meter) && a.Key == b.Key && sameTurn(a.Turn, b.Turn) && slices.Equal(a.Tempos, b.Tempos)
}

func sameVoices(a, b []api.Voice) bool { return slices.EqualFunc(a, b, voice.Same) }

func sameDyns(a, b []api.Dyn) bool { return slices.Equal(a, b) }

func samePart(a, b api.Part) bool {
	if a.Name != b.Name || a.Clef != b.Clef || a.Channel != b.Channel {
		return false
	}
	return slices.EqualFunc(a.Cells, b.Cells, sameVoices) && slices.EqualFunc(a.Dyns, b.Dyns, sameDyns)
}

// Same tells whether two scores are alike in all that they have; they need not be right.
func Same(a api.Score, b api.Score) bool {
	return a.Title == b.Title && slices.EqualFunc(a.Bars, b.Bars, sameBar) && slices.EqualFunc(a.Parts, b.Parts, samePart)
}
