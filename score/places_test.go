package score_test

import (
	"slices"
	"strings"
	"testing"

	"partita/api"
	"partita/score"
)

// P8.3

func expectStarts(t *testing.T, s api.Score, want []api.Ratio) {
	t.Helper()
	if l, e := score.Starts(s); !slices.Equal(l, want) || e != api.OK {
		t.Errorf("Starts(%s): %v error %d, want %v", shown(s), l, e, want)
	}
}

func TestStarts(t *testing.T) {
	list := func(l ...api.Ratio) []api.Ratio { return l }
	expectStarts(t, scored("4/4", "1"), list(of(0, 1), of(1, 1)))
	expectStarts(t, scored("2/4 2/4", "2;2"), list(of(0, 1), of(1, 2), of(1, 1)))
	expectStarts(t, scored("3/4 5/8 1/64", "2.;2|8;64"), list(of(0, 1), of(3, 4), of(11, 8), of(89, 64)))
	expectStarts(t, rich(), list(of(0, 1), of(1, 1), of(13, 8), of(17, 8)))
	long := strings.Repeat("1|", 31) + "1"
	expectStarts(t, scored(strings.Repeat("32/1 ", 99)+"1/64", strings.Repeat(long+";", 99)+"64"), func() (l []api.Ratio) {
		for n := range 100 {
			l = append(l, of(32*n, 1))
		}
		return append(l, of(99*32*64+1, 64))
	}())
	for _, s := range someScores() {
		var want []api.Ratio
		for _, r := range barPlaces(s) {
			want = append(want, told(r))
		}
		expectStarts(t, s, want)
	}
}

// P8.4

// restsIn are the rests of chapter 7 that fill a bar: the longest plain values ahead.
func restsIn(m api.Meter) api.Voice {
	var v api.Voice
	left := units(m)
	for _, x := range []struct {
		text  string
		units int
	}{{"1..", 112}, {"1.", 96}, {"1", 64}, {"2..", 56}, {"2.", 48}, {"2", 32}, {"4..", 28}, {"4.", 24}, {"4", 16}, {"8..", 14}, {"8.", 12}, {"8", 8}, {"16..", 7}, {"16.", 6}, {"16", 4}, {"32.", 3}, {"32", 2}, {"64", 1}} {
		for ; x.units <= left; left -= x.units {
			v.L = append(v.L, written(x.text))
		}
	}
	return v
}

// together is a part's voice of a number, or rests where it is not.
func together(s api.Score, part, number int) api.Voice {
	var all api.Voice
	for j, cell := range s.Parts[part].Cells {
		v := restsIn(s.Bars[j].Meter)
		if number < len(cell) {
			v = cell[number]
		}
		all.L = append(all.L, v.L...)
	}
	return all
}

func expectJoined(t *testing.T, s api.Score, part, number int, want api.Voice) {
	t.Helper()
	if v, e := score.Joined(s, part, number); !equalVoices(v, want) || e != api.OK {
		t.Errorf("Joined(%s, %d, %d): %v error %d, want %v", shown(s), part, number, v, e, want)
	}
}

func TestJoined(t *testing.T) {
	s := rich()
	expectJoined(t, s, 0, 0, sung("2 G4|2 C4~ E4~ !24|4 C4~ E4 G4 !1|4 C4|8|4 C4|4*3:2|8*3:2 E4"))
	expectJoined(t, s, 0, 1, sung("4|4 C4~|2 C4 'la|2 C4|8|2"))
	expectJoined(t, s, 0, 2, sung("1 A3~|2 A3~|8 A3|2"))
	expectJoined(t, s, 0, 3, sung("1|2|8|2"))
	expectJoined(t, s, 1, 0, sung("1 C3 E3 G3 B3 C4 E4 G4 B4~|8 B4 'lo|2 !4|4 C3|4 D3"))
	expectJoined(t, s, 1, 1, sung("1|2|8|2"))
	expectJoined(t, s, 2, 3, sung("1|2|8|2 B2"))
	expectJoined(t, scored("9/4 13/16 7/64", "1 C4|1 C4|4;2.|16;16.."), 0, 2, sung("1..|2|2.|16|16.."))
	for _, s := range someScores() {
		for part := range s.Parts {
			for number := range 4 {
				expectJoined(t, s, part, number, together(s, part, number))
			}
		}
	}
}

// TestJoinedIsLong asks for more events than a voice may have.
func TestJoinedIsLong(t *testing.T) {
	s := scored(strings.Repeat("1/1 ", 100), strings.Repeat(repeatedText("64 C4", 64)+";", 99)+repeatedText("64 C4", 64))
	expectJoined(t, s, 0, 0, repeated("64 C4", 6400))
	expectJoined(t, s, 0, 1, repeated("1", 100))
}

func TestJoinedOfNone(t *testing.T) {
	for _, s := range []api.Score{rich(), plain(1, 1), plain(8, 2)} {
		n := len(s.Parts)
		for _, part := range append(extremes(), -1, n, n+1, 8) {
			for _, number := range []int{0, 3, -1, 4, part} {
				if v, e := score.Joined(s, part, number); (part < 0 || part >= n) && (len(v.L) != 0 || e != api.ErrArg) {
					t.Errorf("Joined of %d, %d: %v error %d", part, number, v, e)
				}
			}
		}
		for _, number := range append(extremes(), -1, 4, 5) {
			for part := range n {
				if v, e := score.Joined(s, part, number); len(v.L) != 0 || e != api.ErrArg {
					t.Errorf("Joined of %d, %d: %v error %d", part, number, v, e)
				}
			}
		}
	}
}

// P8.6

func TestPlacesWritten(t *testing.T) {
	s := scored("2/4 2/4", "2/4|4;2 C4", "2;8|8|4/2/2")
	want := []api.Place{{}, {Voice: 1}, {Voice: 1, At: 1}, {Bar: 1}, {Part: 1}, {Part: 1, Bar: 1}, {Part: 1, Bar: 1, At: 1}, {Part: 1, Bar: 1, At: 2}, {Part: 1, Bar: 1, Voice: 1}, {Part: 1, Bar: 1, Voice: 2}}
	if l, e := score.Places(s); !slices.Equal(l, want) || e != api.OK {
		t.Errorf("Places: %v error %d, want %v", l, e, want)
	}
	if l, e := score.Places(plain(1, 1)); !slices.Equal(l, []api.Place{{}}) || e != api.OK {
		t.Errorf("Places of one event: %v error %d", l, e)
	}
}

func TestPlaces(t *testing.T) {
	for _, s := range someScores() {
		if l, e := score.Places(s); !slices.Equal(l, allPlaces(s)) || e != api.OK {
			t.Errorf("Places(%s): %v error %d, want %v", shown(s), l, e, allPlaces(s))
		}
	}
}

func expectGet(t *testing.T, s api.Score, p api.Place, want api.Event, errno api.Errno) {
	t.Helper()
	if e, f := score.Get(s, p); !equalEvents(e, want) || f != errno {
		t.Errorf("Get(%s, %+v): %v error %d, want %v error %d", shown(s), p, e, f, want, errno)
	}
}

func TestGet(t *testing.T) {
	s := rich()
	expectGet(t, s, api.Place{}, written("2 G4"), api.OK)
	expectGet(t, s, api.Place{At: 1}, written("2 C4~ E4~ !24"), api.OK)
	expectGet(t, s, api.Place{Voice: 1, At: 2}, written("2 C4 'la"), api.OK)
	expectGet(t, s, api.Place{Part: 1, Bar: 1, At: 1}, written("2 !4"), api.OK)
	expectGet(t, s, api.Place{Part: 2, Bar: 2, Voice: 3}, written("2 B2"), api.OK)
	for _, s := range someScores()[5:100] {
		for _, p := range allPlaces(s) {
			expectGet(t, s, p, at(s, p), api.OK)
		}
	}
}

// TestGetAround asks for all places around those that there are.
func TestGetAround(t *testing.T) {
	for _, s := range []api.Score{rich(), scored("2/4 2/4", "2/4|4;2 C4", "2;8|8|4/2/2")} {
		known := allPlaces(s)
		for part := -1; part <= 3; part++ {
			for bar := -1; bar <= 3; bar++ {
				for number := -1; number <= 4; number++ {
					for n := -1; n <= 4; n++ {
						p := api.Place{Part: part, Bar: bar, Voice: number, At: n}
						if slices.Contains(known, p) {
							expectGet(t, s, p, at(s, p), api.OK)
						} else {
							expectGet(t, s, p, api.Event{}, api.ErrArg)
						}
					}
				}
			}
		}
	}
}

func TestGetOfExtremes(t *testing.T) {
	for _, s := range []api.Score{rich(), plain(8, 100)} {
		for _, n := range append(extremes(), -1, 100, 64, 8) {
			for _, p := range []api.Place{{Part: n}, {Voice: n}, {At: n}, {Part: n, Bar: n, Voice: n, At: n}, {Part: 1, Bar: 1, Voice: n, At: 1}, {Part: 0, Bar: 1, At: n}} {
				expectGet(t, s, p, api.Event{}, api.ErrArg)
			}
			if n < 0 || n >= len(s.Bars) {
				expectGet(t, s, api.Place{Bar: n}, api.Event{}, api.ErrArg)
			}
		}
	}
	expectGet(t, plain(8, 100), api.Place{Part: 7, Bar: 99}, written("1 C4"), api.OK)
}
