package score_test

import (
	"slices"
	"strings"

	"partita/api"
	"partita/value"
)

// Right scores, thrown by dice.

// filled is a voice that fills a bar of so many sixty-fourths.
func filled(next func(int) int, units int) api.Voice {
	groups := []struct {
		text  string
		units int
	}{{"1", 64}, {"2", 32}, {"4", 16}, {"8", 8}, {"16", 4}, {"4.", 24}, {"8..", 14}, {"8*3:2|8*3:2|8*3:2", 16}, {"4*3:2|8*3:2", 16}, {"16*5:4|16*5:4|8.*5:4", 16}, {"8*7:4|4.*7:4|4.*7:4", 32}}
	var v api.Voice
	for range next(8) {
		g := groups[next(len(groups))]
		if g.units <= units {
			v.L = append(v.L, sung(g.text).L...)
			units -= g.units
		}
	}
	if units > 0 {
		l, _ := value.Split(told(barLong(api.Meter{Num: units, Den: 64})))
		for _, x := range l {
			v.L = append(v.L, api.Event{Value: x})
		}
	}
	return v
}

// voiced gives some of the events pitches, marks and words.
func voiced(next func(int) int, v api.Voice) {
	for i := range v.L {
		e := &v.L[i]
		for _, name := range []string{"B3", "C4", "C#4", "Db4", "G4"} {
			if next(3) == 0 {
				e.Kind, e.Pitches, e.Ties = api.Chord, append(e.Pitches, named(name)), append(e.Ties, false)
			}
		}
		for mark := api.Staccato; e.Kind == api.Chord && mark <= api.Fermata; mark++ {
			if next(4) == 0 {
				e.Marks = append(e.Marks, mark)
			}
		}
		if e.Kind == api.Chord && next(5) == 0 {
			e.Word = "la"
		}
	}
}

// tiedOn ties pitches wherever the event behind has them, two of three times.
func tiedOn(next func(int) int, s api.Score) {
	for _, p := range allPlaces(s) {
		b, ok := behind(s, p)
		for i, x := range at(s, p).Pitches {
			at(s, p).Ties[i] = ok && slices.Contains(at(s, b).Pitches, x) && next(3) > 0
		}
	}
}

// spread are some places in a bar, in order.
func spread(next func(int) int, units int) []api.Ratio {
	var l []api.Ratio
	for at := next(16); at < units && len(l) < 3; at += 1 + next(20) {
		l = append(l, told(barLong(api.Meter{Num: at, Den: 64})))
	}
	return l
}

func thrownBar(next func(int) int) api.Bar {
	meters := []string{"4/4", "3/4", "2/4", "5/8", "6/8", "7/16", "1/64", "2/1", "13/32"}
	b := api.Bar{Meter: timed(meters[next(len(meters))]), Key: api.Key{Fifths: next(15) - 7, Minor: next(2) == 0}}
	if next(3) == 0 {
		b.Meter.Groups = []int{b.Meter.Num}
	}
	for _, at := range spread(next, units(b.Meter)) {
		b.Tempos = append(b.Tempos, api.Tempo{At: at, Micros: 100000 + next(3900001), Ramp: next(2) == 0})
	}
	b.Turn = api.Turn{Begin: next(2) == 0, Times: next(5) - 1, Endings: []int{next(3), next(3)}[:next(3)], Jump: next(9) - 1}
	return b
}

func units(m api.Meter) int { return m.Num * 64 / m.Den }

func thrownPart(next func(int) int, bars []api.Bar) api.Part {
	p := api.Part{Name: strings.Repeat("ä", next(21)), Clef: next(4), Channel: next(16)}
	for _, b := range bars {
		var cell []api.Voice
		for range 1 + next(4) {
			v := filled(next, units(b.Meter))
			voiced(next, v)
			cell = append(cell, v)
		}
		var dyns []api.Dyn
		for _, at := range spread(next, units(b.Meter)) {
			dyns = append(dyns, api.Dyn{At: at, Level: 1 + next(127), Hair: next(2) == 0})
		}
		p.Cells, p.Dyns = append(p.Cells, cell), append(p.Dyns, dyns)
	}
	return p
}

// thrown is a right score of at most so many bars and parts.
func thrown(next func(int) int, bars, parts int) api.Score {
	s := api.Score{Title: strings.Repeat("t", next(41))}
	for range 1 + next(bars) {
		s.Bars = append(s.Bars, thrownBar(next))
	}
	for range 1 + next(parts) {
		s.Parts = append(s.Parts, thrownPart(next, s.Bars))
	}
	tiedOn(next, s)
	return s
}

// someScores are right ones: rich, small and great ones.
func someScores() []api.Score {
	l := []api.Score{rich(), plain(1, 1), plain(8, 100), scored("2/4 2/4", "2 C4~;2 C4"), scored("12/1 4/4", strings.Repeat("1|", 11)+"1;"+odd)}
	next := dice()
	for range 300 {
		l = append(l, thrown(next, 5, 3))
	}
	return append(l, thrown(next, 100, 8))
}
