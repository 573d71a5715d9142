package score_test

import (
	"math/big"
	"slices"
	"strconv"
	"strings"
	"testing"

	"partita/api"
	"partita/score"
)

// P8.5

func expectSounds(t *testing.T, s api.Score, part int, want []api.Sound, errno api.Errno) {
	t.Helper()
	if l, e := score.Sounds(s, part); !equalSounds(l, want) || e != errno {
		t.Errorf("Sounds(%s, %d): %v error %d, want %v error %d", shown(s), part, l, e, want, errno)
	}
}

func fraction(text string) api.Ratio {
	num, den, two := strings.Cut(text, "/")
	a := of(0, 1)
	a.Num, _ = strconv.Atoi(num)
	if two {
		a.Den, _ = strconv.Atoi(den)
	}
	return a
}

// soundsOf reads sounds such as "C4 0 3/4 !13": a pitch, where it sounds, how long, and marks.
func soundsOf(text string) []api.Sound {
	var l []api.Sound
	for _, one := range strings.FieldsFunc(text, func(r rune) bool { return r == '|' }) {
		words := strings.Fields(one)
		s := api.Sound{Pitch: named(words[0]), At: fraction(words[1]), Length: fraction(words[2])}
		for _, marks := range words[3:] {
			for _, digit := range marks[1:] {
				s.Marks = append(s.Marks, int(digit-'0'))
			}
		}
		l = append(l, s)
	}
	return l
}

func TestSoundsWritten(t *testing.T) {
	for _, x := range []struct{ meters, part, want string }{
		// The chapter's examples.
		{"4/4", "1 C4", "C4 0 1"}, {"2/4 2/4", "2 C4~;2 C4", "C4 0 1"}, {"2/4 2/4", "2 C4;2 C4", "C4 0 1/2|C4 1/2 1/2"},
		// Of rests, of chords.
		{"4/4", "1", ""}, {"4/4 3/4", "1;2.", ""}, {"4/4", "1/2|2 !4/1/4|2.", ""}, {"2/4", "4 C4 E4|4 G4", "C4 0 1/4|E4 0 1/4|G4 1/4 1/4"},
		// Ties within a bar, across one bar line and several; of one pitch alone; on and on.
		{"4/4", "4 C4~|4 C4~|2 C4", "C4 0 1"}, {"2/4 3/4 5/8", "4|4 C4~;2. C4~;2 C4|8", "C4 1/4 3/2"}, {"2/4 2/4 2/4", "2 C4~ E4;2 C4 E4~;2 C4 E4", "C4 0 1|E4 0 1/2|E4 1/2 1|C4 1 1/2"}, {"2/4 2/4", "2 C4;4 C4~|4 C4", "C4 0 1/2|C4 1/2 1/2"}, {"2/4 2/4 2/4", "2 C4~;4 C4|4 C4~;2 C4", "C4 0 3/4|C4 3/4 3/4"}, {"2/4 2/4", "8*3:2 C4|8*3:2|8*3:2 E4~|4 E4~;2 E4", "C4 0 1/12|E4 1/6 5/6"},
		// Names are pitches of their own.
		{"2/4 2/4", "2 B#3~ C4;2 B#3 C4", "B#3 0 1|C4 0 1/2|C4 1/2 1/2"}, {"2/4 2/4", "2 C#4~ Db4~;2 C#4 Db4", "C#4 0 1|Db4 0 1"},
		// Marks are those of the first event.
		{"2/4 2/4", "2 C4~ !13;2 C4 !2", "C4 0 1 !13"}, {"2/4 2/4", "2 C4~;2 C4 E4 !24", "C4 0 1|E4 1/2 1/2 !24"}, {"2/4", "4 C4~ E4 !4|4 C4 G4 !1", "C4 0 1/2 !4|E4 0 1/4 !4|G4 1/4 1/4 !1"},
		// Voices: by place, then by their number; the pitches of an event as they stand.
		{"2/4", "4 G4|4 C4/2 E4", "G4 0 1/4|E4 0 1/2|C4 1/4 1/4"}, {"2/4", "2 E4 G4/2 C4 F4/2 D4/2 C3", "E4 0 1/2|G4 0 1/2|C4 0 1/2|F4 0 1/2|D4 0 1/2|C3 0 1/2"}, {"2/4", "4|4 G4/4 E4|4 F4/8 C4|8 D4|4 B3", "E4 0 1/4|C4 0 1/8|D4 1/8 1/8|G4 1/4 1/4|F4 1/4 1/4|B3 1/4 1/4"}, {"1/4 1/4", "4/8 E4|8 F4/4 C4;4 C4/4 G4", "E4 0 1/8|C4 0 1/4|F4 1/8 1/8|C4 1/4 1/4|G4 1/4 1/4"},
		// Of one pitch in two voices there are two sounds, each as long as its own ties lead.
		{"2/4 2/4", "2 C4~/2 C4;2 C4/2 C4", "C4 0 1|C4 0 1/2|C4 1/2 1/2"}, {"2/4 2/4", "2 C4/2 C4~;2 C4/2 C4", "C4 0 1/2|C4 0 1|C4 1/2 1/2"}, {"2/4 2/4", "2 C4~/4|4 C4~;2 C4/2 C4", "C4 0 1|C4 1/4 3/4"}, {"4/4", "2 C4~|2 C4/2|2 C4", "C4 0 1|C4 1/2 1/2"}, {"4/4", "2 C4|2/2 C4~|2 C4/2|2 C4", "C4 0 1/2|C4 0 1|C4 1/2 1/2"},
		// A voice that comes again is not tied to what it was.
		{"2/4 2/4 2/4", "2/2 C4;2;2/2 C4", "C4 0 1/2|C4 1 1/2"}, {"2/4 2/4 2/4", "2/2;2 C4~;2 C4/2 C4", "C4 1/2 1|C4 1 1/2"}, {"2/4 2/4 2/4", "2/4|4 C4~;2/2 C4;2 C4", "C4 1/4 3/4|C4 1 1/2"},
	} {
		expectSounds(t, scored(x.meters, x.part), 0, soundsOf(x.want), api.OK)
		rests := scored(x.meters, x.part)
		for j, b := range rests.Bars {
			rests.Parts[0].Cells[j] = []api.Voice{restsIn(b.Meter)}
		}
		both := scored(x.meters, x.part)
		both.Parts = append(rests.Parts, both.Parts...)
		expectSounds(t, both, 0, nil, api.OK)
		expectSounds(t, both, 1, soundsOf(x.want), api.OK)
	}
	expectSounds(t, rich(), 0, soundsOf("G4 0 1/2|A3 0 13/8|C4 1/4 3/4|C4 1/2 1 !24|E4 1/2 3/4 !24|G4 1 1/4 !1|C4 1 1/2|C4 13/8 1/4|E4 49/24 1/12"), api.OK)
	expectSounds(t, rich(), 1, soundsOf("C3 0 1|E3 0 1|G3 0 1|B3 0 1|C4 0 1|E4 0 1|G4 0 1|B4 0 9/8|C3 13/8 1/4|D3 15/8 1/4"), api.OK)
	expectSounds(t, rich(), 2, soundsOf("C5 13/8 7/16 !1234|B2 13/8 1/2|C5 33/16 1/16"), api.OK)
}

func TestSoundsOfNone(t *testing.T) {
	for _, s := range []api.Score{rich(), plain(1, 1), plain(8, 2)} {
		for _, part := range append(extremes(), -1, len(s.Parts), len(s.Parts)+1, 100) {
			expectSounds(t, s, part, nil, api.ErrArg)
		}
	}
}

// heard are the sounds of a part, each found by itself: what no event ahead ties, and through which events it is tied.
func heard(s api.Score, part int) ([]api.Sound, api.Errno) {
	ahead := map[api.Place]api.Place{}
	for _, p := range allPlaces(s) {
		if b, ok := behind(s, p); ok {
			ahead[b] = p
		}
	}
	type sorted struct {
		at    *big.Rat
		order [2]int
		sound api.Sound
	}
	var l []sorted
	bars := barPlaces(s)
	for _, p := range allPlaces(s) {
		for i, pitch := range at(s, p).Pitches {
			if a, ok := ahead[p]; p.Part != part || ok && ties(at(s, a), pitch) {
				continue
			}
			begin := plus(bars[p.Bar], places(s.Parts[part].Cells[p.Bar][p.Voice])[p.At])
			length, ok := chain(s, p, pitch)
			if !ok || !fits(begin) {
				return nil, api.ErrRatio
			}
			l = append(l, sorted{begin, [2]int{p.Voice, i}, api.Sound{Pitch: pitch, At: told(begin), Length: told(length), Marks: at(s, p).Marks}})
		}
	}
	slices.SortFunc(l, func(a, b sorted) int {
		if c := a.at.Cmp(b.at); c != 0 {
			return c
		}
		return slices.Compare(a.order[:], b.order[:])
	})
	var all []api.Sound
	for _, x := range l {
		all = append(all, x.sound)
	}
	return all, api.OK
}

// chain is how long a pitch sounds from an event on; false, if that is no right ratio, at last or on the way.
func chain(s api.Score, p api.Place, pitch api.Pitch) (*big.Rat, bool) {
	length := long(at(s, p))
	for ties(at(s, p), pitch) {
		p, _ = behind(s, p)
		if length = plus(length, long(at(s, p))); !fits(length) {
			return nil, false
		}
	}
	return length, fits(length)
}

func TestSoundsThrown(t *testing.T) {
	tied := 0
	for _, s := range someScores() {
		for part := range s.Parts {
			want, errno := heard(s, part)
			expectSounds(t, s, part, want, errno)
			for _, p := range allPlaces(s) {
				if b, ok := behind(s, p); ok && b.Bar > p.Bar && slices.Contains(at(s, p).Ties, true) {
					tied++
				}
			}
		}
	}
	if tied < 100 {
		t.Errorf("%d ties across bars alone", tied)
	}
}

// far is a score whose second bar, 4 by 4, begins behind so many whole notes of rests, in its own words.
func far(wholes int, text string) api.Score {
	return scored(strconv.Itoa(wholes)+"/1 4/4", repeatedText("1", wholes)+";"+text)
}

// TestSoundsAtNoRatios asks where an event of the bar begins at a right ratio in the bar, but not in the score.
func TestSoundsAtNoRatios(t *testing.T) {
	s := far(12, odd)
	begins := places(s.Parts[0].Cells[1][0])
	for i, r := range begins {
		if !fits(r) || fits(plus(r, big.NewRat(12, 1))) != (i != 6) {
			t.Fatalf("no such voice: event %d at %v", i, r)
		}
	}
	expectSounds(t, s, 0, nil, api.OK) // rests have no At that is told
	events := strings.Split(odd, "|")
	for i := range events {
		one := slices.Clone(events)
		one[i] += " C4"
		s := far(12, strings.Join(one, "|"))
		want, errno := heard(s, 0)
		if (errno == api.ErrRatio) != (i == 6) {
			t.Fatalf("event %d: error %d", i, errno)
		}
		expectSounds(t, s, 0, want, errno)
		near := far(10, strings.Join(one, "|"))
		if want, errno = heard(near, 0); errno != api.OK || len(want) != 1 {
			t.Fatalf("event %d: error %d", i, errno)
		}
		expectSounds(t, near, 0, want, api.OK)
	}
	// What is tied to that event does not begin there; what begins beside it does.
	tied := slices.Clone(events)
	tied[5], tied[6] = tied[5]+" C4~", tied[6]+" C4"
	want, _ := heard(far(12, strings.Join(tied, "|")), 0)
	expectSounds(t, far(12, strings.Join(tied, "|")), 0, want, api.OK)
	if len(want) != 1 {
		t.Errorf("%d sounds", len(want))
	}
	tied[6] += " E4"
	expectSounds(t, far(12, strings.Join(tied, "|")), 0, nil, api.ErrRatio)
	// Behind, and in another voice, others sound; another part does not hang on it.
	s = far(12, strings.Join(tied, "|")+"/1 C4")
	expectSounds(t, s, 0, nil, api.ErrRatio)
	s.Parts = append(s.Parts, far(12, "1 C4").Parts...)
	expectSounds(t, s, 1, soundsOf("C4 12 1"), api.OK)
	// What else is asked is told.
	expectJoined(t, s, 0, 0, together(s, 0, 0))
	expectStarts(t, s, []api.Ratio{of(0, 1), of(12, 1), of(13, 1)})
}

// sustained is a score of so many bars of whole C4, each tied, then the odd bar, all tied, then one more.
func sustained(wholes int) api.Score {
	s := scored(strings.Repeat("4/4 ", wholes)+"4/4 4/4", strings.Repeat("1 C4~;", wholes)+odd+";1 C4")
	s.Parts[0].Cells[wholes][0] = tiedC(s.Parts[0].Cells[wholes][0])
	return s
}

// TestSoundsLongOnTheWay asks for sounds that are a right ratio long, but not while they are added up.
func TestSoundsLongOnTheWay(t *testing.T) {
	expectSounds(t, sustained(9), 0, soundsOf("C4 0 11"), api.OK)
	expectSounds(t, sustained(10), 0, soundsOf("C4 0 12"), api.OK)
	for _, n := range []int{11, 12, 13, 50, 98} {
		s := sustained(n)
		expect(t, s, api.Place{}, api.OK)
		if _, ok := chain(s, api.Place{}, named("C4")); ok {
			t.Fatalf("%d: a right ratio on all the way", n)
		}
		expectSounds(t, s, 0, nil, api.ErrRatio)
		// Begun anew behind the first bars, it is shorter.
		s.Parts[0].Cells[n-3][0].L[0].Ties[0] = false
		expectSounds(t, s, 0, append(soundsOf("C4 0 "+strconv.Itoa(n-2)), soundsOf("C4 "+strconv.Itoa(n-2)+" 4")...), api.OK)
	}
	// It is not told of a sound of another part, nor of one that a voice less leaves out.
	s := sustained(12)
	s.Parts = append(s.Parts, plain(1, 14).Parts...)
	want, _ := heard(s, 1)
	expectSounds(t, s, 1, want, api.OK)
	s = sustained(12)
	for j := range s.Bars {
		s.Parts[0].Cells[j] = append(celled("1 E4"), s.Parts[0].Cells[j]...)
	}
	expectSounds(t, s, 0, nil, api.ErrRatio)
}

// TestSoundsLongAtLast asks for such that end where their length is no right ratio.
func TestSoundsLongAtLast(t *testing.T) {
	for _, n := range []int{10, 11, 12} {
		s := sustained(n)
		s.Parts[0].Cells[n][0].L[5].Ties[0] = false
		want, errno := heard(s, 0)
		if (errno == api.ErrRatio) != (n > 10) {
			t.Fatalf("%d: error %d", n, errno)
		}
		expectSounds(t, s, 0, want, errno)
	}
	// Begun within the odd bar, and led on from there.
	s := scored("4/4"+strings.Repeat(" 4/4", 12), odd+strings.Repeat(";1 C4~", 11)+";1 C4")
	s.Parts[0].Cells[0][0] = tiedC(s.Parts[0].Cells[0][0])
	for i := range 6 {
		s.Parts[0].Cells[0][0].L[i] = written(strings.Split(pieces, "|")[i])
	}
	want, errno := heard(s, 0)
	if errno != api.ErrRatio {
		t.Fatalf("error %d", errno)
	}
	expectSounds(t, s, 0, want, errno)
}

// P8.7

// sounding are how often each pitch sounds in a voice's events at a time.
func sounding(s api.Score, part int, time *big.Rat) map[api.Pitch]int {
	n := map[api.Pitch]int{}
	bars := barPlaces(s)
	for j, cell := range s.Parts[part].Cells {
		for _, v := range cell {
			l := places(v)
			for i, e := range v.L {
				if plus(bars[j], l[i]).Cmp(time) <= 0 && plus(bars[j], l[i+1]).Cmp(time) > 0 {
					for _, p := range e.Pitches {
						n[p]++
					}
				}
			}
		}
	}
	return n
}

func TestWhatSoundsIsWhatTheEventsHave(t *testing.T) {
	next := dice()
	for _, s := range someScores()[:120] {
		bars := barPlaces(s)
		units := new(big.Rat).Mul(bars[len(s.Bars)], big.NewRat(192, 1))
		for part := range s.Parts {
			l, _ := score.Sounds(s, part)
			for range 10 {
				time := big.NewRat(int64(next(int(units.Num().Int64()/units.Denom().Int64()))), 192)
				n := sounding(s, part, time)
				for _, x := range l {
					if exact(x.At).Cmp(time) <= 0 && plus(exact(x.At), exact(x.Length)).Cmp(time) > 0 {
						n[x.Pitch]--
					}
				}
				for p, more := range n {
					if more != 0 {
						t.Errorf("%s: at %v of part %d: %v sounds %d times too few", shown(s), time, part, p, more)
					}
				}
			}
		}
	}
}

func TestJoinedVoicesAreAsLongAsTheScore(t *testing.T) {
	for _, s := range someScores() {
		starts, _ := score.Starts(s)
		for part := range s.Parts {
			for number := range 4 {
				v, e := score.Joined(s, part, number)
				l := places(v)
				if e != api.OK || l[len(l)-1].Cmp(exact(starts[len(s.Bars)])) != 0 {
					t.Errorf("%s: voice %d of part %d is %v long", shown(s), number, part, l[len(l)-1])
				}
			}
		}
	}
}

func TestSoundsHangOnNoOtherPart(t *testing.T) {
	for _, s := range someScores() {
		for part := range s.Parts {
			alone := s
			alone.Parts = s.Parts[part : part+1]
			want, e := score.Sounds(alone, 0)
			expectSounds(t, s, part, want, e)
		}
	}
}
