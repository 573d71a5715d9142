package edit_test

import (
	"slices"
	"strings"
	"testing"

	"partita/api"
)

// P9.1: what comes of each kind of edit, and what takes it back.

func opEvents(p api.Place, count int, text string) api.Op {
	return api.Op{Kind: api.OpEvents, Place: p, Count: count, Events: sung(text)}
}

// opBarsIn puts bars of some meters in, without dynamics, with a text of the cells of each part.
func opBarsIn(at int, meters string, parts ...string) api.Op {
	op := api.Op{Kind: api.OpBarsIn, Place: api.Place{Bar: at}, Bars: barred(meters)}
	for _, text := range parts {
		op.Cells, op.Dyns = append(op.Cells, cells(text)), append(op.Dyns, make([][]api.Dyn, len(op.Bars)))
	}
	return op
}

func opBarsOut(at, count int) api.Op {
	return api.Op{Kind: api.OpBarsOut, Place: api.Place{Bar: at}, Count: count}
}

func opBar(at int, b ...api.Bar) api.Op {
	return api.Op{Kind: api.OpBar, Place: api.Place{Bar: at}, Bars: b}
}

func opDyns(part, bar int, dyns ...api.Dyn) api.Op {
	return api.Op{Kind: api.OpDyns, Place: api.Place{Part: part, Bar: bar}, Dyns: [][][]api.Dyn{{dyns}}}
}

func opVoiceIn(part, bar, voice int, text string) api.Op {
	return api.Op{Kind: api.OpVoiceIn, Place: api.Place{Part: part, Bar: bar, Voice: voice}, Cells: [][][]api.Voice{{celled(text)}}}
}

func opVoiceOut(part, bar, voice int) api.Op {
	return api.Op{Kind: api.OpVoiceOut, Place: api.Place{Part: part, Bar: bar, Voice: voice}}
}

func opUp(part, steps, halves int) api.Op {
	return api.Op{Kind: api.OpUp, Place: api.Place{Part: part}, Interval: api.Interval{Steps: steps, Halves: halves}}
}

func opTitle(text string) api.Op { return api.Op{Kind: api.OpTitle, Text: text} }

func TestEvents(t *testing.T) {
	s := scored("2/4 2/4", "4 C4|8 D4|8/2 ; 8 E4|8|4 F4", "2 C3 ; 2 D3")
	for _, x := range []struct {
		place api.Place
		count int
		by    string
		want  string // of the cell
		out   string
	}{
		// One event, several, all; by as many, less, more. (The first one is the chapter's example.)
		{api.Place{}, 1, "4", "4|8 D4|8/2", "4 C4"}, {api.Place{}, 1, "4 G4 A4 !13 'la", "4 G4 A4 !13 'la|8 D4|8/2", "4 C4"}, {api.Place{At: 1}, 1, "16 G4|16 A4", "4 C4|16 G4|16 A4|8/2", "8 D4"}, {api.Place{At: 2}, 1, "8 G4", "4 C4|8 D4|8 G4/2", "8"}, {api.Place{At: 1}, 2, "4", "4 C4|4/2", "8 D4|8"}, {api.Place{At: 0}, 2, "4. G4", "4. G4|8/2", "4 C4|8 D4"}, {api.Place{}, 3, "2 C4", "2 C4/2", "4 C4|8 D4|8"}, {api.Place{}, 3, "4 C4~|4 C4", "4 C4~|4 C4/2", "4 C4|8 D4|8"},
		// None by none: at the first, in the middle, behind all.
		{api.Place{}, 0, "", "4 C4|8 D4|8/2", ""}, {api.Place{At: 1}, 0, "", "4 C4|8 D4|8/2", ""}, {api.Place{At: 3}, 0, "", "4 C4|8 D4|8/2", ""},
		// Another voice, bar, part.
		{api.Place{Voice: 1}, 1, "4|4 G4", "4 C4|8 D4|8/4|4 G4", "2"}, {api.Place{Voice: 1, At: 1}, 0, "", "4 C4|8 D4|8/2", ""}, {api.Place{Bar: 1, At: 1}, 2, "8 G4|4", "8 E4|8 G4|4", "8|4 F4"}, {api.Place{Bar: 1}, 3, "2", "2", "8 E4|8|4 F4"}, {api.Place{Part: 1}, 1, "2 C#3", "2 C#3", "2 C3"}, {api.Place{Part: 1, Bar: 1}, 1, "4*3:2|4*3:2|4*3:2", "4*3:2|4*3:2|4*3:2", "2 D3"}, {api.Place{Part: 1, Bar: 1, At: 1}, 0, "", "2 D3", ""},
	} {
		want := changed(s, func(s *api.Score) { s.Parts[x.place.Part].Cells[x.place.Bar] = celled(x.want) })
		expectDone(t, s, opEvents(x.place, x.count, x.by), want, opEvents(x.place, len(sung(x.by)), x.out))
	}
}

// TestEventsMany has as many events as there may be give way, and come.
func TestEventsMany(t *testing.T) {
	many := func(n int, text string) string { return strings.TrimSuffix(strings.Repeat(text+"|", n), "|") }
	one, all := scored("1/1", "1 C4"), scored("1/1", many(64, "64 C4"))
	expectDone(t, one, opEvents(api.Place{}, 1, many(64, "64 C4")), all, opEvents(api.Place{}, 64, "1 C4"))
	expectDone(t, all, opEvents(api.Place{}, 64, "1 C4"), one, opEvents(api.Place{}, 1, many(64, "64 C4")))
	expectDone(t, all, opEvents(api.Place{}, 64, many(64, "64 C4")), all, opEvents(api.Place{}, 64, many(64, "64 C4")))
	expectDone(t, all, opEvents(api.Place{At: 64}, 0, ""), all, opEvents(api.Place{At: 64}, 0, ""))
	expectDone(t, all, opEvents(api.Place{At: 63}, 1, "64 D4"), scored("1/1", many(63, "64 C4")+"|64 D4"), opEvents(api.Place{At: 63}, 1, "64 C4"))
	expectRefused(t, one, opEvents(api.Place{}, 1, many(65, "64 C4")), api.ErrVoice)
	expectRefused(t, all, opEvents(api.Place{At: 64}, 0, "64 C4"), api.ErrVoice)
	expectRefused(t, all, opEvents(api.Place{}, 0, many(1000, "64 C4")), api.ErrVoice)
	expectRefused(t, all, opEvents(api.Place{}, 64, ""), api.ErrFill)
	expectRefused(t, all, opEvents(api.Place{}, 65, many(64, "64 C4")), api.ErrOp)
}

// withBars is what comes of bars that stand ahead of one of a score.
func withBars(s api.Score, at int, op api.Op) api.Score {
	return changed(s, func(s *api.Score) {
		s.Bars = slices.Concat(s.Bars[:at], op.Bars, s.Bars[at:])
		for i := range s.Parts {
			p := &s.Parts[i]
			p.Cells, p.Dyns = slices.Concat(p.Cells[:at], op.Cells[i], p.Cells[at:]), slices.Concat(p.Dyns[:at], op.Dyns[i], p.Dyns[at:])
		}
	})
}

// untied is rich without ties that lead across bar lines.
func untied() api.Score {
	return changed(rich(), func(s *api.Score) {
		for _, p := range allPlaces(*s) {
			if v := s.Parts[p.Part].Cells[p.Bar][p.Voice]; p.At == len(v.L)-1 {
				clear(v.L[p.At].Ties)
			}
		}
	})
}

// moreBars are two bars for rich, with something everywhere.
func moreBars(at int) api.Op {
	op := opBarsIn(at, "3/4 7/8", "2. A4/4 A4|2;2.. A4", "2.;8|2. C#2", "2. F5 !4 'do/2.;2..")
	op.Bars[0].Tempos, op.Bars[1].Tempos = tempo(of(1, 3), 654321), tempo(of(2, 3), 123456)
	op.Bars[0].Key, op.Bars[1].Meter.Groups = api.Key{Fifths: 5}, []int{4, 3}
	op.Bars[1].Turn = api.Turn{Times: 3, Endings: []int{2}, Sign: true}
	op.Dyns[0][0], op.Dyns[0][1], op.Dyns[2][1] = loud(of(0, 1), 11), loud(of(1, 4), 12), loud(of(5, 6), 13)
	return op
}

func TestBarsIn(t *testing.T) {
	for at := range 4 { // ahead of each, and behind all
		expectDone(t, untied(), moreBars(at), withBars(untied(), at, moreBars(at)), opBarsOut(at, 2))
		none := opBarsIn(at, "", "", "", "")
		expectDone(t, rich(), none, rich(), opBarsOut(at, 0))
	}
	// Between bars that are tied: where the tie leads nowhere, and where it leads on.
	two := scored("2/4 2/4", "2 C4~;2 C4")
	expectRefused(t, two, opBarsIn(1, "2/4", "2 D4"), api.ErrTie)
	expectDone(t, two, opBarsIn(1, "1/4 3/4", "4 C4~;2. C4~"), scored("2/4 1/4 3/4 2/4", "2 C4~;4 C4~;2. C4~;2 C4"), opBarsOut(1, 2))
	expectDone(t, two, opBarsIn(1, "2/4", "2 C4 E4"), scored("2/4 2/4 2/4", "2 C4~;2 C4 E4;2 C4"), opBarsOut(1, 1))
	// As many as there may be, and one more.
	many := func(parts, bars int) api.Op {
		op := opBarsIn(1, strings.Repeat("4/4 ", bars))
		for range parts {
			op.Cells, op.Dyns = append(op.Cells, slices.Repeat(cells("1 C4"), bars)), append(op.Dyns, make([][]api.Dyn, bars))
		}
		return op
	}
	for _, parts := range []int{1, 2, 7, 8} {
		s := plain(parts, 1)
		expectDone(t, s, many(parts, 99), plain(parts, 100), opBarsOut(1, 99))
		expectRefused(t, s, many(parts, 100), api.ErrLimit)
		expectRefused(t, s, many(parts, 3000), api.ErrLimit)
		expectDone(t, plain(parts, 100), many(parts, 0), plain(parts, 100), opBarsOut(1, 0))
		expectRefused(t, plain(parts, 100), many(parts, 1), api.ErrLimit)
	}
}

// withoutBars is what comes of bars that are out of a score, and what puts them back.
func withoutBars(s api.Score, at, count int) (api.Score, api.Op) {
	back := api.Op{Kind: api.OpBarsIn, Place: api.Place{Bar: at}, Bars: s.Bars[at : at+count]}
	for _, p := range s.Parts {
		back.Cells, back.Dyns = append(back.Cells, p.Cells[at:at+count]), append(back.Dyns, p.Dyns[at:at+count])
	}
	return changed(s, func(s *api.Score) {
		s.Bars = slices.Delete(s.Bars, at, at+count)
		for i := range s.Parts {
			p := &s.Parts[i]
			p.Cells, p.Dyns = slices.Delete(p.Cells, at, at+count), slices.Delete(p.Dyns, at, at+count)
		}
	}), back
}

func TestBarsOut(t *testing.T) {
	s := withBars(untied(), 1, moreBars(1))
	for at := range 6 {
		for count := range 6 - at {
			if count == 5 {
				expectRefused(t, s, opBarsOut(at, count), api.ErrLimit) // all are out
				continue
			}
			want, back := withoutBars(s, at, count)
			expectDone(t, s, opBarsOut(at, count), want, back)
		}
	}
	expectRefused(t, plain(8, 100), opBarsOut(0, 100), api.ErrLimit)
	want, back := withoutBars(plain(8, 100), 0, 99)
	expectDone(t, plain(8, 100), opBarsOut(0, 99), want, back)
	// Where bars are tied: what leads nowhere, and what is led to no more.
	tied := scored("2/4 2/4 2/4", "2 C4~;2 C4~ D4;2 C4")
	expectRefused(t, tied, opBarsOut(2, 1), api.ErrTie)
	expectRefused(t, tied, opBarsOut(1, 2), api.ErrTie)
	for at := range 2 {
		want, back := withoutBars(tied, at, 1)
		expectDone(t, tied, opBarsOut(at, 1), want, back)
	}
}

func TestBar(t *testing.T) {
	full := []api.Bar{
		{Meter: api.Meter{Num: 16, Den: 16, Groups: []int{3, 3, 10}}, Key: api.Key{Fifths: 7}, Turn: api.Turn{Begin: true, Times: 9, Endings: []int{4, 5}, Sign: true, Coda: true, ToCoda: true, Fine: true, Jump: 6}, Tempos: []api.Tempo{{At: of(0, 1), Micros: 100000, Ramp: true}, {At: of(999, 1000), Micros: 4000000}}},
		{Meter: api.Meter{Num: 20, Den: 32}, Tempos: tempo(of(5, 9), 777777)}, {Meter: api.Meter{Num: 1, Den: 2}, Key: api.Key{Fifths: -7, Minor: true}},
	}
	for at, b := range full {
		want := changed(rich(), func(s *api.Score) { s.Bars[at] = b })
		expectDone(t, rich(), opBar(at, b), want, opBar(at, rich().Bars[at]))
		expectDone(t, rich(), opBar(at, rich().Bars[at]), rich(), opBar(at, rich().Bars[at]))
	}
}

func TestDyns(t *testing.T) {
	for part := range 3 {
		for bar := range 3 {
			old := rich().Parts[part].Dyns[bar]
			for _, dyns := range [][]api.Dyn{nil, {}, loud(of(0, 1), 127), {{At: of(1, 5), Level: 1, Hair: true}, {At: of(2, 5), Level: 33}, {At: of(12, 25), Level: 33, Hair: true}}} {
				want := changed(rich(), func(s *api.Score) { s.Parts[part].Dyns[bar] = dyns })
				expectDone(t, rich(), opDyns(part, bar, dyns...), want, opDyns(part, bar, old...))
			}
		}
	}
}

func TestVoiceIn(t *testing.T) {
	for _, x := range []struct {
		part, bar, voice int
		by               string
	}{{0, 0, 2, "2 A4|2 !4"}, {0, 0, 3, "4|2. A4 !12 'do"}, {0, 1, 3, "2 A4|8 A5"}, {0, 2, 0, "2"}, {0, 2, 1, "2 A4"}, {0, 2, 2, "8*3:2|4*3:2|4 A4"}, {1, 0, 1, "1 A4"}, {1, 1, 1, "2|8"}, {1, 2, 0, "2 A2"}, {1, 2, 1, "2"}, {2, 0, 0, "1 A5"}, {2, 0, 1, "2|2"}, {2, 1, 0, "4|4."}, {2, 1, 1, "8|2"}} {
		want := changed(rich(), func(s *api.Score) {
			c := &s.Parts[x.part].Cells[x.bar]
			*c = slices.Insert(*c, x.voice, celled(x.by)[0])
		})
		expectDone(t, rich(), opVoiceIn(x.part, x.bar, x.voice, x.by), want, opVoiceOut(x.part, x.bar, x.voice))
	}
	// There are four at most.
	for n := 1; n <= 4; n++ {
		s := scored("1/4", strings.TrimSuffix(strings.Repeat("4 C4/", n), "/"))
		for at := 0; at <= n; at++ {
			op := opVoiceIn(0, 0, at, "8|8 D4")
			if n == 4 {
				expectRefused(t, s, op, api.ErrLimit)
				continue
			}
			want := changed(s, func(s *api.Score) { s.Parts[0].Cells[0] = slices.Insert(s.Parts[0].Cells[0], at, celled("8|8 D4")[0]) })
			expectDone(t, s, op, want, opVoiceOut(0, 0, at))
		}
	}
	// A voice that stands ahead takes the numbers of those behind it, and so what is tied to them.
	tied := scored("2/4 2/4", "2 C4~;2 C4")
	expectRefused(t, tied, opVoiceIn(0, 1, 0, "2"), api.ErrTie)
	expectRefused(t, tied, opVoiceIn(0, 0, 0, "2"), api.ErrTie)
	expectDone(t, tied, opVoiceIn(0, 1, 0, "2 C4 E4"), scored("2/4 2/4", "2 C4~;2 C4 E4/2 C4"), opVoiceOut(0, 1, 0))
	expectDone(t, tied, opVoiceIn(0, 0, 1, "2"), scored("2/4 2/4", "2 C4~/2;2 C4"), opVoiceOut(0, 0, 1))
	expectRefused(t, tied, opVoiceIn(0, 1, 1, "2 C4~"), api.ErrTie)
}

func TestVoiceOut(t *testing.T) {
	s := untied()
	for i, p := range s.Parts {
		for j, cell := range p.Cells {
			for k, v := range cell {
				if len(cell) == 1 {
					expectRefused(t, s, opVoiceOut(i, j, k), api.ErrLimit)
					continue
				}
				want := changed(s, func(s *api.Score) { s.Parts[i].Cells[j] = slices.Delete(s.Parts[i].Cells[j], k, k+1) })
				back := api.Op{Kind: api.OpVoiceIn, Place: api.Place{Part: i, Bar: j, Voice: k}, Cells: [][][]api.Voice{{{v}}}}
				expectDone(t, s, opVoiceOut(i, j, k), want, back)
			}
		}
	}
	tied := scored("2/4 2/4", "2 D4/2 C4~;2 C4/2 C4")
	expectRefused(t, tied, opVoiceOut(0, 1, 0), api.ErrTie)
	expectRefused(t, tied, opVoiceOut(0, 1, 1), api.ErrTie)
	expectDone(t, tied, opVoiceOut(0, 0, 0), scored("2/4 2/4", "2 C4~;2 C4/2 C4"), opVoiceIn(0, 0, 0, "2 D4"))
	expectDone(t, tied, opVoiceOut(0, 0, 1), scored("2/4 2/4", "2 D4;2 C4/2 C4"), opVoiceIn(0, 0, 1, "2 C4~"))
}

// upped is a score of 2/4 and 3/4 with keys, whose two parts have what is told.
func upped(first, second int, parts ...string) api.Score {
	return changed(scored("2/4 3/4", parts...), func(s *api.Score) {
		s.Bars[0].Key, s.Bars[1].Key = api.Key{Fifths: first}, api.Key{Fifths: second, Minor: true}
	})
}

func TestUp(t *testing.T) {
	one, other := "4 C4~ E4 !13|4 C4 'la/2 !4;2. Bb3", "2 F#5;4|2 Cb2"
	s := upped(0, -2, one, other)
	for _, x := range []struct {
		part, steps, halves int
		first, second       int // the keys
		one, other          string
	}{
		// One part: its events alone.
		{0, 1, 2, 0, -2, "4 D4~ F#4 !13|4 D4 'la/2 !4;2. C4", other}, {1, 1, 2, 0, -2, one, "2 G#5;4|2 Db2"}, {0, -7, -12, 0, -2, "4 C3~ E3 !13|4 C3 'la/2 !4;2. Bb2", other}, {0, 0, 1, 0, -2, "4 C#4~ E#4 !13|4 C#4 'la/2 !4;2. B3", other}, {1, 0, -1, 0, -2, one, "2 F5;4|2 Cbb2"}, {0, 0, 0, 0, -2, one, other}, {1, 4, 7, 0, -2, one, "2 C#6;4|2 Gb2"},
		// All, and the keys.
		{-1, 1, 2, 2, 0, "4 D4~ F#4 !13|4 D4 'la/2 !4;2. C4", "2 G#5;4|2 Db2"}, {-1, 0, 0, 0, -2, one, other}, {-1, 7, 12, 0, -2, "4 C5~ E5 !13|4 C5 'la/2 !4;2. Bb4", "2 F#6;4|2 Cb3"}, {-1, -3, -5, 1, -1, "4 G3~ B3 !13|4 G3 'la/2 !4;2. F3", "2 C#5;4|2 Gb1"}, {-1, 2, 3, -3, -5, "4 Eb4~ G4 !13|4 Eb4 'la/2 !4;2. Db4", "2 A5;4|2 Ebb2"}, {-1, 0, 1, 7, 5, "4 C#4~ E#4 !13|4 C#4 'la/2 !4;2. B3", "2 F##5;4|2 C2"},
	} {
		expectDone(t, s, opUp(x.part, x.steps, x.halves), upped(x.first, x.second, x.one, x.other), opUp(x.part, -x.steps, -x.halves))
	}
	// Below 0 all numbers are one.
	for _, part := range append(extremes(), -2, -3, -100) {
		if part < 0 {
			expectDone(t, s, opUp(part, 7, 12), upped(0, -2, "4 C5~ E5 !13|4 C5 'la/2 !4;2. Bb4", "2 F#6;4|2 Cb3"), opUp(-1, -7, -12))
		}
	}
}

// TestUpWidest goes up and down as far as may be.
func TestUpWidest(t *testing.T) {
	rests := []string{"2/4|4;2.", "2;4|2"}
	for _, steps := range []int{-70, -69, 0, 69, 70} {
		for _, halves := range []int{-120, -119, 0, 119, 120} {
			for part := range 2 {
				s := upped(3, -7, rests...)
				expectDone(t, s, opUp(part, steps, halves), s, opUp(part, -steps, -halves))
			}
		}
	}
	lows, tops := []string{"2 C-1;2. G-1 !4", "2;4|2 E#-1"}, []string{"2 C9;2. G9 !4", "2;4|2 E#9"}
	for part, want := range []api.Score{upped(3, -7, tops[0], lows[1]), upped(3, -7, lows[0], tops[1])} {
		expectDone(t, upped(3, -7, lows...), opUp(part, 70, 120), want, opUp(part, -70, -120))
		expectDone(t, want, opUp(part, -70, -120), upped(3, -7, lows...), opUp(part, 70, 120))
	}
	// Ten octaves leave the keys; a half tone less is seven fifths down.
	expectDone(t, upped(3, -7, lows...), opUp(-1, 70, 120), upped(3, -7, tops...), opUp(-1, -70, -120))
	expectDone(t, upped(3, -7, tops...), opUp(-1, -70, -120), upped(3, -7, lows...), opUp(-1, 70, 120))
	expectDone(t, upped(7, 0, rests...), opUp(-1, 70, 119), upped(0, -7, rests...), opUp(-1, -70, -119))
	expectDone(t, upped(0, -7, rests...), opUp(-1, -70, -119), upped(7, 0, rests...), opUp(-1, 70, 119))
}

func TestTitle(t *testing.T) {
	for _, old := range []string{"Rich", "", "ä"} {
		s := changed(rich(), func(s *api.Score) { s.Title = old })
		for _, text := range []string{"", "x", old, strings.Repeat("ä", 20), strings.Repeat("y", 40)} {
			expectDone(t, s, opTitle(text), changed(s, func(s *api.Score) { s.Title = text }), opTitle(old))
		}
	}
}
