package score_test

import (
	"slices"
	"strings"
	"testing"

	"partita/api"
	"partita/score"
)

// P8.1

// expect asks Check, and all calls that tell its error.
func expect(t *testing.T, s api.Score, at api.Place, errno api.Errno) {
	t.Helper()
	if p, e := score.Check(s); p != at || e != errno {
		t.Errorf("Check(%s): %+v error %d, want %+v error %d", shown(s), p, e, at, errno)
	}
	if errno != api.OK {
		expectRefused(t, s, errno)
	}
}

// expectRefused asks all other calls about a score that is not right, with arguments that are right and such as are not.
func expectRefused(t *testing.T, s api.Score, errno api.Errno) {
	t.Helper()
	if l, e := score.Starts(s); len(l) != 0 || e != errno {
		t.Errorf("Starts: %v error %d, want error %d", l, e, errno)
	}
	if l, e := score.Places(s); len(l) != 0 || e != errno {
		t.Errorf("Places: %v error %d, want error %d", l, e, errno)
	}
	for _, part := range []int{0, -1, 9} {
		if l, e := score.Sounds(s, part); len(l) != 0 || e != errno {
			t.Errorf("Sounds of %d: %v error %d, want error %d", part, l, e, errno)
		}
		for _, voice := range []int{0, -1, 4} {
			if v, e := score.Joined(s, part, voice); len(v.L) != 0 || e != errno {
				t.Errorf("Joined of %d, %d: %v error %d, want error %d", part, voice, v, e, errno)
			}
		}
		if e, f := score.Get(s, api.Place{Part: part}); !equalEvents(e, api.Event{}) || f != errno {
			t.Errorf("Get of %d: %v error %d, want error %d", part, e, f, errno)
		}
	}
}

// wrongHow is a change that makes a right score wrong, and what is told of it.
type wrongHow struct {
	how   func(s *api.Score)
	at    api.Place
	errno api.Errno
}

// expectWrong makes rich wrong in each way by itself.
func expectWrong(t *testing.T, l []wrongHow) {
	t.Helper()
	for i, x := range l {
		s := changed(rich(), x.how)
		if p, e := score.Check(s); p != x.at || e != x.errno {
			t.Errorf("change %d: %+v error %d, want %+v error %d", i, p, e, x.at, x.errno)
		}
		expectRefused(t, s, x.errno)
	}
}

func TestCheckRight(t *testing.T) {
	for _, s := range someScores() {
		expect(t, s, api.Place{}, api.OK)
	}
	for _, s := range []api.Score{
		scored("4/4", "1 C4"), scored("2/4 2/4", "2 C4~;2 C4"), scored("2/4 2/4", "2 C4;2 C4"), scored("1/64", "64"), scored("32/1", strings.Repeat("1|", 31)+"1"), scored("4/4 3/4", "1;2.", "2|2;4|2"), scored("4/4", "1/1/1/1"), scored("1/1", strings.Repeat("64|", 63)+"64"),
	} {
		expect(t, s, api.Place{}, api.OK)
	}
	// Nothing is looked at in turns.
	for _, n := range append(extremes(), -1, 0, 1, 10) {
		expect(t, changed(rich(), func(s *api.Score) {
			s.Bars[1].Turn = api.Turn{Begin: true, Times: n, Endings: []int{n, n, 0}, Sign: true, Coda: true, ToCoda: true, Fine: true, Jump: n}
		}), api.Place{}, api.OK)
	}
}

func TestCheckCounts(t *testing.T) {
	spoiled := func(s *api.Score) { // in all else
		s.Title = "\xff"
		for i := range s.Bars {
			s.Bars[i].Meter.Num = 0
		}
		for i := range s.Parts {
			s.Parts[i].Clef = 4
		}
	}
	for _, parts := range []int{0, 1, 2, 7, 8, 9, 10, 20} {
		for _, bars := range []int{0, 1, 2, 99, 100, 101, 102, 200} {
			s := plain(parts, bars)
			if parts == 0 || parts > 8 || bars == 0 || bars > 100 {
				expect(t, s, api.Place{}, api.ErrLimit)
				expect(t, changed(s, spoiled), api.Place{}, api.ErrLimit)
			} else {
				expect(t, s, api.Place{}, api.OK)
			}
		}
	}
	expect(t, api.Score{}, api.Place{}, api.ErrLimit)
}

// names are texts, and whether they are right names.
func names() map[string]bool {
	l := map[string]bool{"": true, "a": true, " ": true, "~": true, "\x1f": false, "\x7f": false, "a\tb": false, "a\n": false, "\x00": false, "\u0080": true, "\u00a0": true, "ä€𝄞": true, "\ufffd": true, "\xff": false, "a\x80": false, "\xc3": false, "\xe2\x82": false, "\xc0\x80": false, "\xed\xa0\x80": false, "\xf4\x90\x80\x80": false, `"<&>\`: true}
	for n := 1; n <= 60; n++ {
		l[strings.Repeat("x", n)] = n <= 40
		l[strings.Repeat("ä", n)] = 2*n <= 40
		l[strings.Repeat("x", n-1)+"\x1f"] = false
		l[strings.Repeat("x", n-1)+"\xf0"] = false
		l["𝄞"+strings.Repeat("x", n)] = n+4 <= 40
	}
	l[strings.Repeat("x", 100000)] = false
	return l
}

func TestCheckNames(t *testing.T) {
	for name, ok := range names() {
		titled := changed(rich(), func(s *api.Score) { s.Title = name })
		if ok {
			expect(t, titled, api.Place{}, api.OK)
		} else {
			expect(t, titled, api.Place{}, api.ErrScore)
		}
		for i := range 3 {
			s := changed(rich(), func(s *api.Score) { s.Parts[i].Name = name })
			if ok {
				expect(t, s, api.Place{}, api.OK)
			} else {
				expect(t, s, api.Place{Part: i}, api.ErrScore)
			}
		}
	}
}

func TestCheckMeters(t *testing.T) {
	wrong := []api.Meter{{}, {Num: 4}, {Den: 4}, {Num: 0, Den: 4}, {Num: -4, Den: 4}, {Num: 33, Den: 4}, {Num: 4, Den: 3}, {Num: 4, Den: 128}, {Num: 4, Den: -4}, {Num: 4, Den: 4, Groups: []int{3}}, {Num: 4, Den: 4, Groups: []int{2, 3}}, {Num: 4, Den: 4, Groups: []int{4, 0}}, {Num: 4, Den: 4, Groups: []int{5, -1}}}
	for _, n := range extremes() {
		wrong = append(wrong, api.Meter{Num: n, Den: 4}, api.Meter{Num: 4, Den: n}, api.Meter{Num: 4, Den: 4, Groups: []int{n, n, 4}})
	}
	for _, m := range wrong {
		for j := range 3 {
			expect(t, changed(rich(), func(s *api.Score) { s.Bars[j].Meter = m }), api.Place{Bar: j}, api.ErrMeter)
			expect(t, changed(rich(), func(s *api.Score) { // with all else wrong in this bar, and in those behind
				for k := j; k < 3; k++ {
					s.Bars[k] = api.Bar{Meter: m, Key: api.Key{Fifths: 8}, Tempos: make([]api.Tempo, 2)}
				}
				s.Parts[0].Name = "\xff"
			}), api.Place{Bar: j}, api.ErrMeter)
		}
	}
}

func TestCheckKeys(t *testing.T) {
	for _, minor := range []bool{false, true} {
		for fifths := -7; fifths <= 7; fifths++ {
			expect(t, changed(rich(), func(s *api.Score) { s.Bars[2].Key = api.Key{Fifths: fifths, Minor: minor} }), api.Place{}, api.OK)
		}
		for _, fifths := range append(extremes(), 8, -8, 9, -9) {
			for j := range 3 {
				expect(t, changed(rich(), func(s *api.Score) { s.Bars[j].Key = api.Key{Fifths: fifths, Minor: minor} }), api.Place{Bar: j}, api.ErrKey)
			}
		}
	}
}

// wrongRatios are ratios that are not right, many of them between 0 and 1/2.
func wrongRatios() []api.Ratio {
	l := []api.Ratio{{}, of(0, 2), of(0, -1), of(2, 8), of(3, 9), of(-1, -4), of(1, -4), of(1, 0), of(1, api.MaxTerm+1), of(api.MaxTerm+1, 1), of(5, 1000000000), of(500000000, 1500000000)}
	for _, n := range extremes() {
		l = append(l, of(n, 1), of(1, n), of(0, n), of(n, n), of(n, 4), of(-1, n))
	}
	return l
}

// placings are places in a bar that is 5/8 long, and whether they are right.
func placings() (good, bad [][]api.Ratio) {
	good = [][]api.Ratio{nil, {}, {of(0, 1)}, {of(1, 1000000000)}, {of(624999999, 1000000000)}, {of(1, 3)}, {of(0, 1), of(1, 1000000000), of(1, 4), of(1, 3), of(624999999, 1000000000)}, {of(1, 1000000000), of(1, 999999999)}}
	bad = [][]api.Ratio{{of(5, 8)}, {of(625000001, 1000000000)}, {of(3, 4)}, {of(1, 1)}, {of(1000000000, 1)}, {of(-1, 1000000000)}, {of(-1, 4)}, {of(0, 1), of(0, 1)}, {of(1, 4), of(1, 4)}, {of(1, 4), of(0, 1)}, {of(1, 4), of(1, 3), of(1, 3)}, {of(1, 4), of(1, 3), of(333333333, 1000000000)}, {of(0, 1), of(1, 3), of(1, 4), of(1, 2)}, {of(0, 1), of(5, 8)}, {of(-1, 4), of(0, 1)}, {of(1, 999999999), of(1, 1000000000)}}
	for _, a := range wrongRatios() {
		bad = append(bad, []api.Ratio{a}, []api.Ratio{of(0, 1), a}, []api.Ratio{a, of(1, 2)}, []api.Ratio{of(0, 1), a, of(1, 2)})
	}
	return good, bad
}

func TestCheckTempos(t *testing.T) {
	with := func(places []api.Ratio, micros int) api.Score {
		return changed(rich(), func(s *api.Score) {
			s.Bars[1].Tempos = nil
			for i, at := range places {
				s.Bars[1].Tempos = append(s.Bars[1].Tempos, api.Tempo{At: at, Micros: micros, Ramp: i%2 > 0})
			}
		})
	}
	good, bad := placings()
	for _, micros := range []int{100000, 100001, 500000, 3999999, 4000000} {
		for _, l := range good {
			expect(t, with(l, micros), api.Place{}, api.OK)
		}
		for _, l := range bad {
			expect(t, with(l, micros), api.Place{Bar: 1}, api.ErrTempo)
		}
	}
	for _, micros := range append(extremes(), 99999, 4000001, 0, -1, -100000) {
		for _, l := range good[2:] {
			expect(t, with(l, micros), api.Place{Bar: 1}, api.ErrTempo)
		}
		for i := range 2 { // one of two alone
			expect(t, changed(rich(), func(s *api.Score) { s.Bars[0].Tempos[i].Micros = micros }), api.Place{}, api.ErrTempo)
		}
	}
}

func TestCheckDyns(t *testing.T) {
	with := func(part int, places []api.Ratio, level int) api.Score {
		return changed(rich(), func(s *api.Score) {
			s.Parts[part].Dyns[1] = nil
			for i, at := range places {
				s.Parts[part].Dyns[1] = append(s.Parts[part].Dyns[1], api.Dyn{At: at, Level: level, Hair: i%2 > 0})
			}
		})
	}
	good, bad := placings()
	for part := range 3 {
		for _, level := range []int{1, 2, 64, 126, 127} {
			for _, l := range good {
				expect(t, with(part, l, level), api.Place{}, api.OK)
			}
			for _, l := range bad {
				expect(t, with(part, l, level), api.Place{Part: part, Bar: 1}, api.ErrDyn)
			}
		}
		for _, level := range append(extremes(), 0, 128, -1, 129, 255) {
			for _, l := range good[2:] {
				expect(t, with(part, l, level), api.Place{Part: part, Bar: 1}, api.ErrDyn)
			}
		}
	}
	for i := range 2 { // one of two alone
		expect(t, changed(rich(), func(s *api.Score) { s.Parts[0].Dyns[0][i].Level = 128 }), api.Place{}, api.ErrDyn)
	}
}

func TestCheckParts(t *testing.T) {
	for i := range 3 {
		for clef := 0; clef <= 3; clef++ {
			for channel := 0; channel <= 15; channel++ {
				expect(t, changed(rich(), func(s *api.Score) { s.Parts[i].Clef, s.Parts[i].Channel = clef, channel }), api.Place{}, api.OK)
			}
		}
		for _, n := range append(extremes(), -1, -2) {
			expect(t, changed(rich(), func(s *api.Score) { s.Parts[i].Clef = n }), api.Place{Part: i}, api.ErrScore)
			expect(t, changed(rich(), func(s *api.Score) { s.Parts[i].Channel = n }), api.Place{Part: i}, api.ErrScore)
		}
		for _, n := range []int{4, 5, 15} {
			expect(t, changed(rich(), func(s *api.Score) { s.Parts[i].Clef = n }), api.Place{Part: i}, api.ErrScore)
		}
		for _, n := range []int{16, 17, 127} {
			expect(t, changed(rich(), func(s *api.Score) { s.Parts[i].Channel = n }), api.Place{Part: i}, api.ErrScore)
		}
		for _, how := range []func(p *api.Part){
			func(p *api.Part) { p.Cells = nil }, func(p *api.Part) { p.Dyns = nil }, func(p *api.Part) { p.Cells = p.Cells[:1] }, func(p *api.Part) { p.Dyns = p.Dyns[:1] }, func(p *api.Part) { p.Cells = p.Cells[:2] }, func(p *api.Part) { p.Dyns = p.Dyns[:2] },
			func(p *api.Part) { p.Cells = append(p.Cells, p.Cells[2]) }, func(p *api.Part) { p.Dyns = append(p.Dyns, nil) }, func(p *api.Part) { p.Cells, p.Dyns = p.Cells[:2], p.Dyns[:2] }, func(p *api.Part) { p.Cells, p.Dyns = append(p.Cells, nil), append(p.Dyns, nil) },
			func(p *api.Part) { p.Cells = slices.Repeat(p.Cells, 1000) }, func(p *api.Part) { p.Dyns = slices.Repeat(p.Dyns, 1000) },
		} {
			expect(t, changed(rich(), func(s *api.Score) { how(&s.Parts[i]) }), api.Place{Part: i}, api.ErrScore)
		}
	}
}

func TestCheckCells(t *testing.T) {
	for i := range 3 {
		for j := range 3 {
			for n := range 8 {
				s := changed(rich(), func(s *api.Score) {
					rests := []string{"1", "2|8", "2"}[j]
					s.Parts[i].Cells[j] = nil
					for range n {
						s.Parts[i].Cells[j] = append(s.Parts[i].Cells[j], sung(rests))
					}
					if j > 0 { // what would be tied to what is no more
						for _, v := range s.Parts[i].Cells[j-1] {
							clear(v.L[len(v.L)-1].Ties)
						}
					}
				})
				if n >= 1 && n <= 4 {
					expect(t, s, api.Place{}, api.OK)
					continue
				}
				expect(t, s, api.Place{Part: i, Bar: j}, api.ErrLimit)
				for k := range n { // ahead of what is wrong with voices, and with dynamics
					s.Parts[i].Cells[j][k] = api.Voice{}
				}
				s.Parts[i].Dyns[j] = make([]api.Dyn, 1)
				expect(t, s, api.Place{Part: i, Bar: j}, api.ErrLimit)
			}
		}
	}
	expect(t, changed(rich(), func(s *api.Score) { s.Parts[1].Cells[1] = make([]api.Voice, 1000) }), api.Place{Part: 1, Bar: 1}, api.ErrLimit)
}

// put puts a voice in place of one of rich.
func put(part, bar, number int, text string) func(s *api.Score) {
	return func(s *api.Score) { s.Parts[part].Cells[bar][number] = sung(text) }
}

// many puts so many of an event there.
func many(part, bar, number int, e api.Event, n int) func(s *api.Score) {
	return func(s *api.Score) { s.Parts[part].Cells[bar][number].L = slices.Repeat([]api.Event{e}, n) }
}

func TestCheckFill(t *testing.T) {
	for i, text := range []string{"1|1", "1|64", "2..|16..", "2..|16..|32.", "2..|16..|64.*7:4", "1..", "1.", "2", "2|4..", "64", "1|8*3:2", "8*3:2|8*3:2|8*3:2|2.*15:14", "1..*2:15"} {
		s := changed(rich(), put(2, 0, 0, text))
		if n := places(sung(text)); n[len(n)-1].Cmp(barLong(timed("4/4"))) == 0 {
			t.Fatal(i)
		}
		expect(t, s, api.Place{Part: 2}, api.ErrFill)
	}
	for _, text := range []string{"1", "2|2", "2..|16..|64", "8*3:2|8*3:2|8*3:2|2.", repeatedText("64", 64), "1*3:2|2*3:2", "4*2:1|4*2:1|2*2:1|2"} {
		expect(t, changed(rich(), put(2, 0, 0, text)), api.Place{}, api.OK)
	}
	expectWrong(t, []wrongHow{
		{put(0, 0, 2, "2 A3"), api.Place{Voice: 2}, api.ErrFill}, {put(0, 1, 1, "2|8*3:2"), api.Place{Bar: 1, Voice: 1}, api.ErrFill}, {put(2, 2, 3, "2|64..*2:1"), api.Place{Part: 2, Bar: 2, Voice: 3}, api.ErrFill}, {put(1, 1, 0, "1 C4~|1 C4"), api.Place{Part: 1, Bar: 1}, api.ErrFill},
		// Voices with no event at all.
		{func(s *api.Score) { s.Parts[2].Cells[1][0].L = nil }, api.Place{Part: 2, Bar: 1}, api.ErrFill}, {func(s *api.Score) { s.Parts[2].Cells[2][3] = api.Voice{L: []api.Event{}} }, api.Place{Part: 2, Bar: 2, Voice: 3}, api.ErrFill}, {func(s *api.Score) { s.Parts[0].Cells[1][0].L = nil }, api.Place{Bar: 1}, api.ErrFill},
		// Bars that are longer, or shorter, by as little as there is.
		{func(s *api.Score) { s.Bars[0].Meter = timed("3/4"); s.Bars[0].Tempos = nil }, api.Place{}, api.ErrFill}, {func(s *api.Score) { s.Bars[2].Meter = timed("17/32") }, api.Place{Bar: 2}, api.ErrFill}, {func(s *api.Score) { s.Bars[2].Meter = timed("31/64") }, api.Place{Bar: 2}, api.ErrFill},
	})
}

func repeatedText(text string, n int) string { return strings.Repeat(text+"|", n-1) + text }

func TestCheckEventsAndTies(t *testing.T) {
	for _, p := range allPlaces(rich()) {
		for _, how := range []func(e *api.Event){func(e *api.Event) { e.Kind = 7 }, func(e *api.Event) { e.Value.Base = 7 }, func(e *api.Event) { e.Marks = []int{5} }, func(e *api.Event) { e.Ties = append(e.Ties, false) }} {
			expect(t, changed(rich(), func(s *api.Score) { how(&s.Parts[p.Part].Cells[p.Bar][p.Voice].L[p.At]) }), p, api.ErrEvent)
		}
	}
	expectWrong(t, []wrongHow{
		{put(0, 0, 1, "4|4 C4~|2 D4"), api.Place{Voice: 1, At: 1}, api.ErrTie}, {put(2, 2, 0, "4 C4~|4"), api.Place{Part: 2, Bar: 2}, api.ErrTie}, {put(1, 2, 0, "8 C4|8 C4~ E4~|8 C4|8 C4"), api.Place{Part: 1, Bar: 2, At: 1}, api.ErrTie}, {put(1, 2, 0, "8 C4|8 C4|8 C4~|8 B#3"), api.Place{Part: 1, Bar: 2, At: 2}, api.ErrTie},
		// The first event of several, the first tie of several; an event ahead of a tie; a tie ahead of the length, and of the fill.
		{put(0, 0, 1, "4|4 C4~|2 D4~|2 E4~|4"), api.Place{Voice: 1, At: 1}, api.ErrTie}, {put(0, 0, 0, "1..*2:15 C4~|"+pieces), api.Place{}, api.ErrTie}, {put(0, 0, 2, "4|4|4 C4~|1..*2:15|"+pieces), api.Place{Voice: 2, At: 2}, api.ErrTie},
		{func(s *api.Score) {
			put(0, 0, 0, "4 C4~|1..*2:15|"+pieces)(s)
			s.Parts[0].Cells[0][0].L[4].Kind, s.Parts[0].Cells[0][0].L[5].Kind = 9, 9
		}, api.Place{At: 4}, api.ErrEvent},
	})
	expect(t, changed(rich(), put(1, 2, 0, "8 C4|8 C4~ E4~|8 C4 E4|8 C4")), api.Place{}, api.OK)
}

// TestCheckTooManyEvents asks also where other things are wrong with them, which come behind.
func TestCheckTooManyEvents(t *testing.T) {
	rest, short := written("64"), written("64..*2:1")
	expect(t, scored("1/1", repeatedText("64", 64)), api.Place{}, api.OK)
	expectWrong(t, []wrongHow{
		{many(0, 0, 0, rest, 65), api.Place{At: 64}, api.ErrVoice}, {many(1, 2, 0, short, 1000), api.Place{Part: 1, Bar: 2, At: 64}, api.ErrVoice}, {many(2, 2, 3, api.Event{}, 66), api.Place{Part: 2, Bar: 2, Voice: 3, At: 64}, api.ErrVoice}, {many(1, 1, 0, api.Event{Kind: 7}, 65), api.Place{Part: 1, Bar: 1, At: 64}, api.ErrVoice},
	})
	expect(t, changed(rich(), many(0, 0, 1, rest, 64)), api.Place{}, api.OK)
	expect(t, changed(rich(), many(0, 0, 1, rest, 63)), api.Place{Voice: 1}, api.ErrFill)
	// 65 that fill the bar.
	expect(t, scored("1/1", repeatedText("64", 63)+"|64*2:1|64*2:1"), api.Place{At: 64}, api.ErrVoice)
}

func TestCheckLengthThatIsNoRatio(t *testing.T) {
	// Its places are right ratios at first and at last, not on the way.
	all := "1..*2:15|" + pieces + "|" + lacks + "|8|64|64.."
	s := scored("14/1", all)
	if l := places(s.Parts[0].Cells[0][0]); fits(l[7]) || !fits(l[len(l)-1]) {
		t.Fatal("no such voice")
	}
	expect(t, s, api.Place{}, api.ErrRatio)
	expect(t, scored("14/1 14/1", "1;1", strings.Repeat("1|", 13)+"1;"+strings.Repeat("1|", 13)+"1/"+all), api.Place{}, api.ErrFill)
	rests := strings.Repeat("1|", 13) + "1"
	expect(t, scored("14/1 14/1", rests+";"+rests, rests+";"+rests+"/"+all), api.Place{Part: 1, Bar: 1, Voice: 1}, api.ErrRatio)
}

func TestCheckTiesBetweenBars(t *testing.T) {
	for _, x := range []struct {
		meters string
		part   string
		at     api.Place
		errno  api.Errno
	}{
		{"2/4 2/4", "2 C4~;2 C4", api.Place{}, api.OK}, {"2/4 2/4", "2 C4~;2 C4 E4", api.Place{}, api.OK}, {"2/4 2/4 2/4", "2 C4~ E4~;2 C4~ E4;2 C4", api.Place{}, api.OK}, {"2/4 3/4", "4|4 C4~;4 C4|2", api.Place{}, api.OK}, {"2/4 2/4", "2/2 C4~;2/2 C4", api.Place{}, api.OK}, {"2/4 2/4", "2 C4~/2 C4~/2 C4~/2 C4~;2 C4/2 C4/2 C4/2 C4", api.Place{}, api.OK},
		// To what the next bar's voice has not: a rest, another pitch, the same number by another name, another octave, a pitch of its second event, or of another voice.
		{"2/4 2/4", "2 C4~;2", api.Place{}, api.ErrTie}, {"2/4 2/4", "2 C4~;2 D4", api.Place{}, api.ErrTie}, {"2/4 2/4", "2 C4~;2 B#3", api.Place{}, api.ErrTie}, {"2/4 2/4", "2 C#4~;2 Db4", api.Place{}, api.ErrTie}, {"2/4 2/4", "2 C4~;2 C5", api.Place{}, api.ErrTie}, {"2/4 2/4", "2 C4 E4~;2 C4", api.Place{}, api.ErrTie}, {"2/4 2/4", "2 C4~;4 D4|4 C4", api.Place{}, api.ErrTie}, {"2/4 2/4", "2 C4~;4|4 C4", api.Place{}, api.ErrTie}, {"2/4 2/4", "2 C4~;2 E4/2 C4", api.Place{}, api.ErrTie}, {"2/4 2/4", "2/2 C4~;2 C4/2 E4", api.Place{Voice: 1}, api.ErrTie}, {"2/4 2/4", "4|8|8 C4~;2", api.Place{At: 2}, api.ErrTie},
		// To a voice that the next bar has not, or only the one behind that.
		{"2/4 2/4", "2/2 C4~;2 C4", api.Place{Voice: 1}, api.ErrTie}, {"2/4 2/4 2/4", "2/2 C4~;2 C4;2/2 C4", api.Place{Voice: 1}, api.ErrTie}, {"2/4 2/4", "2/2/2/4|4 C4~;2/2/2 C4", api.Place{Voice: 3, At: 1}, api.ErrTie},
		// At the last event of all.
		{"2/4", "2 C4~", api.Place{}, api.ErrTie}, {"2/4 2/4", "2;2 C4~", api.Place{Bar: 1}, api.ErrTie}, {"2/4 2/4", "2;4|4 C4 E4~", api.Place{Bar: 1, At: 1}, api.ErrTie}, {"2/4 2/4", "2/2;2/4|4 E4~", api.Place{Bar: 1, Voice: 1, At: 1}, api.ErrTie}, {"2/4 2/4", "2 C4~;2 C4~", api.Place{Bar: 1}, api.ErrTie},
		// Several: bar by bar, voice by voice.
		{"2/4 2/4", "2/2 C4~;2 C4~", api.Place{Voice: 1}, api.ErrTie}, {"2/4 2/4", "2/2 C4~/2 E4~;2 C4~/2", api.Place{Voice: 1}, api.ErrTie}, {"2/4 2/4 2/4", "2/2/2 C4~;2 C4~/2 E4~/2 C4~;2/2", api.Place{Bar: 1}, api.ErrTie},
	} {
		expect(t, scored(x.meters, x.part), x.at, x.errno)
		rests := strings.Repeat("2;", strings.Count(x.part, ";")) + "2"
		if x.meters == "2/4 3/4" {
			rests = "2;2."
		}
		second := x.at
		if x.errno != api.OK {
			second.Part = 1
		}
		expect(t, scored(x.meters, rests, x.part), second, x.errno)
		expect(t, scored(x.meters, x.part, rests), x.at, x.errno)
		// Ahead of such a tie in one part comes what is wrong within the others, with the part behind too.
		for i := range 2 {
			s := scored(x.meters, x.part, x.part)
			s.Parts[i].Dyns[0] = make([]api.Dyn, 1)
			expect(t, s, api.Place{Part: i}, api.ErrDyn)
		}
	}
}

// TestCheckOrder holds one fault against another one that the promise tells of behind it.
func TestCheckOrder(t *testing.T) {
	l := []wrongHow{
		{func(s *api.Score) { s.Title = "\x7f" }, api.Place{}, api.ErrScore},
		{func(s *api.Score) { s.Bars[0].Meter.Den = 5 }, api.Place{}, api.ErrMeter},
		{func(s *api.Score) { s.Bars[0].Key.Fifths = 8 }, api.Place{}, api.ErrKey},
		{func(s *api.Score) { s.Bars[0].Tempos[1].Micros = 9 }, api.Place{}, api.ErrTempo},
		{func(s *api.Score) { s.Bars[1].Meter.Groups = []int{1} }, api.Place{Bar: 1}, api.ErrMeter},
		{func(s *api.Score) { s.Bars[1].Key.Fifths = -8 }, api.Place{Bar: 1}, api.ErrKey},
		{func(s *api.Score) { s.Bars[2].Tempos[0].At = of(1, 2) }, api.Place{Bar: 2}, api.ErrTempo},
		{func(s *api.Score) { s.Parts[0].Name = "\n" }, api.Place{}, api.ErrScore},
		{func(s *api.Score) { s.Parts[0].Cells[0] = append(s.Parts[0].Cells[0], make([]api.Voice, 3)...) }, api.Place{}, api.ErrLimit},
		{func(s *api.Score) { s.Parts[0].Cells[0][0].L[1].Kind = -1 }, api.Place{At: 1}, api.ErrEvent},
		{func(s *api.Score) { s.Parts[0].Cells[0][1].L = s.Parts[0].Cells[0][1].L[:2] }, api.Place{Voice: 1}, api.ErrFill},
		{func(s *api.Score) { s.Parts[0].Cells[0][2].L[0].Word = "\x00" }, api.Place{Voice: 2}, api.ErrEvent},
		{func(s *api.Score) { s.Parts[0].Dyns[0][1].At = of(0, 1) }, api.Place{}, api.ErrDyn},
		{func(s *api.Score) { s.Parts[0].Cells[1][1].L[0].Ties = nil }, api.Place{Bar: 1, Voice: 1}, api.ErrEvent},
		{func(s *api.Score) { s.Parts[0].Dyns[2][0].Level = 0 }, api.Place{Bar: 2}, api.ErrDyn},
		{func(s *api.Score) { s.Parts[1].Clef = 4 }, api.Place{Part: 1}, api.ErrScore},
		{func(s *api.Score) { s.Parts[1].Cells[1] = nil }, api.Place{Part: 1, Bar: 1}, api.ErrLimit},
		{func(s *api.Score) { s.Parts[1].Cells[2][0].L = nil }, api.Place{Part: 1, Bar: 2}, api.ErrFill},
		{func(s *api.Score) { s.Parts[2].Channel = 16 }, api.Place{Part: 2}, api.ErrScore},
		{func(s *api.Score) { s.Parts[2].Dyns[1][1].At = of(1, 8) }, api.Place{Part: 2, Bar: 1}, api.ErrDyn},
		{func(s *api.Score) { s.Parts[0].Cells[1][0].L[2] = written("8 D4~") }, api.Place{Bar: 1, At: 2}, api.ErrTie},
		{func(s *api.Score) { s.Parts[0].Cells[2][0].L[2].Ties[0] = true }, api.Place{Bar: 2, At: 2}, api.ErrTie},
		{func(s *api.Score) { s.Parts[1].Cells[2][0].L[1].Ties[0] = true }, api.Place{Part: 1, Bar: 2, At: 1}, api.ErrTie},
		{func(s *api.Score) { s.Parts[2].Cells[2][3].L[0].Ties[0] = true }, api.Place{Part: 2, Bar: 2, Voice: 3}, api.ErrTie},
	}
	expectWrong(t, l)
	for i := range l {
		for j := range l[:i] {
			s := rich()
			l[i].how(&s) // the later one first: the earlier one takes away what it needs
			if reaches(&s, l[j].how) {
				p, e := score.Check(s)
				if p != l[j].at || e != l[j].errno {
					t.Errorf("changes %d and %d: %+v error %d, want %+v error %d", j, i, p, e, l[j].at, l[j].errno)
				}
			}
		}
	}
}

// reaches makes a change, if there still is what it is made to.
func reaches(s *api.Score, how func(*api.Score)) (ok bool) {
	defer func() { ok = recover() == nil }()
	how(s)
	return true
}

// spoilings are ways to make scores wrong, at places that are thrown.
func spoilings(next func(int) int) []func(s *api.Score) {
	bar := func(s *api.Score) *api.Bar { return &s.Bars[next(len(s.Bars))] }
	part := func(s *api.Score) *api.Part { return &s.Parts[next(len(s.Parts))] }
	cell := func(s *api.Score) *[]api.Voice {
		cells := part(s).Cells
		return &cells[next(len(cells))]
	}
	voice := func(s *api.Score) *api.Voice {
		c := *cell(s)
		return &c[next(len(c))]
	}
	event := func(s *api.Score) *api.Event {
		v := voice(s)
		return &v.L[next(len(v.L))]
	}
	dyns := func(s *api.Score) *[]api.Dyn {
		d := part(s).Dyns
		return &d[next(len(d))]
	}
	return []func(s *api.Score){
		func(s *api.Score) { s.Title += strings.Repeat("é", 5) }, func(s *api.Score) { s.Title = "\x1f" },
		func(s *api.Score) { bar(s).Meter.Num += 1 }, func(s *api.Score) { bar(s).Meter.Den = next(9) }, func(s *api.Score) { bar(s).Meter.Groups = []int{1, next(4)} }, func(s *api.Score) { bar(s).Key.Fifths += next(9) - 4 },
		func(s *api.Score) {
			bar(s).Tempos = append(bar(s).Tempos, api.Tempo{At: of(next(3), 1+next(3)), Micros: 500000})
		}, func(s *api.Score) { bar(s).Tempos[0].Micros -= 1000000 }, func(s *api.Score) { slices.Reverse(bar(s).Tempos) },
		func(s *api.Score) { part(s).Name += "x" }, func(s *api.Score) { part(s).Name += "\x80" }, func(s *api.Score) { part(s).Clef += next(3) - 1 }, func(s *api.Score) { part(s).Channel += next(3) - 1 },
		func(s *api.Score) { p := part(s); p.Cells = p.Cells[1:] }, func(s *api.Score) { p := part(s); p.Dyns = p.Dyns[1:] }, func(s *api.Score) { p := part(s); p.Cells, p.Dyns = append(p.Cells, p.Cells[0]), append(p.Dyns, nil) },
		func(s *api.Score) { *cell(s) = nil }, func(s *api.Score) { c := cell(s); *c = append(*c, *c...) }, func(s *api.Score) { c := cell(s); *c = (*c)[:len(*c)-1] }, func(s *api.Score) { c := cell(s); slices.Reverse(*c) },
		func(s *api.Score) { v := voice(s); v.L = v.L[1:] }, func(s *api.Score) { v := voice(s); v.L = append(v.L, v.L[0]) }, func(s *api.Score) { v := voice(s); slices.Reverse(v.L) }, func(s *api.Score) { v := voice(s); v.L = slices.Repeat(v.L, 65) }, func(s *api.Score) { v := voice(s); v.L = append(v.L, sung("1..*2:15|"+pieces).L...) },
		func(s *api.Score) { event(s).Kind ^= 1 }, func(s *api.Score) { event(s).Value.Base += next(3) - 1 }, func(s *api.Score) { event(s).Ties[0] = true }, func(s *api.Score) { e := event(s); e.Ties[len(e.Ties)-1] = true }, func(s *api.Score) { event(s).Pitches[0].Step ^= 1 }, func(s *api.Score) { event(s).Marks = []int{next(6)} }, func(s *api.Score) { *event(s) = written("4 C4~") },
		func(s *api.Score) { (*dyns(s))[0].Level += next(100) - 50 }, func(s *api.Score) { d := dyns(s); slices.Reverse(*d) }, func(s *api.Score) { d := dyns(s); *d = append(*d, api.Dyn{At: of(next(5), 1+next(5)), Level: 5}) },
	}
}

// TestCheckThrown holds Check against all that is wrong with scores that were spoiled a few times.
func TestCheckThrown(t *testing.T) {
	next := dice()
	spoil := spoilings(next)
	found := map[api.Errno]int{}
	for range 12000 {
		s := thrown(next, 3, 3)
		for range next(4) {
			reaches(&s, spoil[next(len(spoil))])
		}
		at, errno := checked(s)
		if p, e := score.Check(s); p != at || e != errno {
			t.Errorf("Check(%s): %+v error %d, want %+v error %d", shown(s), p, e, at, errno)
		}
		found[errno]++
	}
	for _, e := range []api.Errno{api.OK, api.ErrRatio, api.ErrKey, api.ErrMeter, api.ErrEvent, api.ErrVoice, api.ErrTie, api.ErrScore, api.ErrFill, api.ErrLimit, api.ErrTempo, api.ErrDyn} {
		if found[e] < 20 {
			t.Errorf("error %d is to be told %d times alone", e, found[e])
		}
	}
}

// TestCheckExtremes asks about scores that are all of the greatest and least numbers.
func TestCheckExtremes(t *testing.T) {
	for _, n := range append(extremes(), 0, -1) {
		s := api.Score{Bars: make([]api.Bar, 2), Parts: make([]api.Part, 2)}
		expect(t, s, api.Place{}, api.ErrMeter)
		for i := range s.Bars {
			a := of(n, n)
			s.Bars[i] = api.Bar{Meter: timed("4/4"), Tempos: []api.Tempo{{At: a, Micros: n}, {At: a, Micros: n}}}
		}
		expect(t, s, api.Place{}, api.ErrTempo)
		s.Bars[0].Tempos, s.Bars[1].Tempos = nil, nil
		s.Parts = []api.Part{{Clef: n, Channel: n, Cells: make([][]api.Voice, 2), Dyns: make([][]api.Dyn, 2)}}
		s.Parts[0].Clef, s.Parts[0].Channel = 0, 0
		expect(t, s, api.Place{}, api.ErrLimit)
		e := api.Event{Kind: api.Chord, Pitches: []api.Pitch{{Step: n, Alter: n, Octave: n}}, Ties: []bool{true}, Value: api.Value{Base: n, Dots: n, Num: n, Den: n}, Marks: []int{n, n}}
		if n == 0 {
			e.Marks = []int{0}
		}
		s.Parts[0].Cells = [][]api.Voice{{{L: []api.Event{e}}}, {{L: []api.Event{e}}}}
		expect(t, s, api.Place{}, api.ErrEvent)
		s.Parts[0].Cells = [][]api.Voice{celled("1"), celled("1")}
		s.Parts[0].Dyns[1] = []api.Dyn{{At: of(n, n), Level: n}}
		expect(t, s, api.Place{Bar: 1}, api.ErrDyn)
	}
}
