package score_test

import (
	"slices"
	"strings"
	"testing"

	"partita/api"
	"partita/score"
)

// What all calls keep to: what is handed in is left, what is answered is new.

// room puts something into the spare room of a list.
func room[T any](l []T, spare T) []T { return append(list(l), spare, spare)[:len(l)] }

// roomy is a score whose lists all have spare room with something in it.
func roomy(s api.Score) api.Score {
	s = copied(s)
	for i := range s.Bars {
		b := &s.Bars[i]
		b.Meter.Groups, b.Turn.Endings, b.Tempos = room(b.Meter.Groups, 9), room(b.Turn.Endings, 9), room(b.Tempos, api.Tempo{Micros: 9})
	}
	for i := range s.Parts {
		p := &s.Parts[i]
		for j, cell := range p.Cells {
			for k := range cell {
				for n := range cell[k].L {
					e := &cell[k].L[n]
					e.Pitches, e.Ties, e.Marks = room(e.Pitches, api.Pitch{Step: 9}), room(e.Ties, true), room(e.Marks, 9)
				}
				cell[k].L = room(cell[k].L, api.Event{Kind: 9})
			}
			p.Cells[j] = room(cell, api.Voice{L: make([]api.Event, 9)})
		}
		for j, dyns := range p.Dyns {
			p.Dyns[j] = room(dyns, api.Dyn{Level: 9})
		}
		p.Cells, p.Dyns = room(p.Cells, make([]api.Voice, 9)), room(p.Dyns, make([]api.Dyn, 9))
	}
	s.Bars, s.Parts = room(s.Bars, api.Bar{Meter: api.Meter{Num: 9}}), room(s.Parts, api.Part{Name: "9"})
	return s
}

func all[T any](l []T) []T { return l[:cap(l)] }

func openedEvent(e api.Event) api.Event {
	e.Pitches, e.Ties, e.Marks = all(e.Pitches), all(e.Ties), all(e.Marks)
	return e
}

// opened is a score whose lists have their spare room too.
func opened(s api.Score) api.Score {
	s.Bars = lists(all(s.Bars), func(b api.Bar) api.Bar {
		b.Meter.Groups, b.Turn.Endings, b.Tempos = all(b.Meter.Groups), all(b.Turn.Endings), all(b.Tempos)
		return b
	})
	s.Parts = lists(all(s.Parts), func(p api.Part) api.Part {
		p.Cells = lists(all(p.Cells), func(cell []api.Voice) []api.Voice {
			return lists(all(cell), func(v api.Voice) api.Voice { return api.Voice{L: lists(all(v.L), openedEvent)} })
		})
		p.Dyns = lists(all(p.Dyns), all[api.Dyn])
		return p
	})
	return s
}

// askAll asks all calls about all that a score has, and about what it has not.
func askAll(s api.Score) {
	score.Check(s)
	score.Same(s, s)
	score.Starts(s)
	score.Places(s)
	for part := -1; part <= len(s.Parts); part++ {
		score.Sounds(s, part)
		for number := -1; number <= 4; number++ {
			score.Joined(s, part, number)
		}
		for n := range 3 {
			score.Get(s, api.Place{Part: part, At: n})
		}
	}
}

func TestWhatIsHandedInIsLeft(t *testing.T) {
	next := dice()
	spoil := spoilings(next)
	for i, s := range someScores()[:150] {
		if i%2 > 0 { // wrong ones too
			reaches(&s, spoil[next(len(spoil))])
		}
		s = roomy(s)
		want := copied(opened(s))
		askAll(s)
		if !equal(opened(s), want) {
			t.Errorf("wrote into %s", shown(s))
		}
	}
}

// shared is a score whose cells, voices and events are each the same memory.
func shared() api.Score {
	c := celled("2 C4 E4 !13|2 E4 !24/1 C4 !4")
	s := scored("4/4 4/4 4/4", "1;1;1", "1;1;1")
	for i := range s.Parts {
		s.Parts[i].Cells = [][]api.Voice{c, c, c}
	}
	return s
}

// spoilEvent writes into all that an event's lists have, spare room too.
func spoilEvent(e api.Event) {
	for i := range all(e.Pitches) {
		all(e.Pitches)[i].Step = -9
	}
	for i := range all(e.Ties) {
		all(e.Ties)[i] = !all(e.Ties)[i]
	}
	for i := range all(e.Marks) {
		all(e.Marks)[i] = -9
	}
}

// TestJoinedIsNewMemory writes into one event of an answer, and looks for that in the others, in another answer, and in what was handed in.
func TestJoinedIsNewMemory(t *testing.T) {
	for _, s := range []api.Score{shared(), roomy(shared()), roomy(rich())} {
		kept := copied(opened(s))
		for number := range 4 {
			want := together(copied(s), 0, number)
			for i := range want.L {
				v, _ := score.Joined(s, 0, number)
				other, _ := score.Joined(s, 0, number)
				spoilEvent(v.L[i])
				v.L[i] = want.L[i]
				if !equalVoices(v, want) || !equalVoices(other, want) || !equal(opened(s), kept) {
					t.Errorf("voice %d: what event %d has is shared", number, i)
				}
				clear(all(v.L))
				if !equalVoices(other, want) || !equal(opened(s), kept) {
					t.Errorf("voice %d is shared", number)
				}
			}
		}
	}
}

// TestJoinedIsNotKept writes into what was handed in.
func TestJoinedIsNotKept(t *testing.T) {
	s := roomy(shared())
	want := together(copied(s), 0, 0)
	v, _ := score.Joined(s, 0, 0)
	e, _ := score.Get(s, api.Place{})
	l, _ := score.Sounds(s, 0)
	sounds, _ := heard(copied(s), 0)
	for _, voice := range s.Parts[0].Cells[0] {
		for _, e := range all(voice.L) {
			spoilEvent(e)
		}
	}
	if !equalVoices(v, want) || !equalEvents(e, want.L[0]) || !equalSounds(l, sounds) {
		t.Error("an answer has the memory of what was handed in")
	}
}

func TestGetIsNewMemory(t *testing.T) {
	for _, s := range []api.Score{shared(), roomy(rich())} {
		kept := copied(opened(s))
		for _, p := range allPlaces(s) {
			want := copiedEvent(at(s, p))
			e, _ := score.Get(s, p)
			other, _ := score.Get(s, p)
			spoilEvent(e)
			if !equalEvents(other, want) || !equal(opened(s), kept) {
				t.Errorf("what is got at %+v is shared", p)
			}
		}
	}
}

func TestSoundsAreNewMemory(t *testing.T) {
	for _, s := range []api.Score{shared(), roomy(rich())} {
		kept := copied(opened(s))
		want, _ := heard(copied(s), 0)
		for i := range want {
			l, _ := score.Sounds(s, 0)
			other, _ := score.Sounds(s, 0)
			for j := range all(l[i].Marks) {
				all(l[i].Marks)[j] = -9
			}
			l[i].Marks = want[i].Marks
			if !equalSounds(l, want) || !equalSounds(other, want) || !equal(opened(s), kept) {
				t.Errorf("the marks of sound %d are shared", i)
			}
			clear(all(l))
			if !equalSounds(other, want) {
				t.Error("sounds are shared")
			}
		}
	}
}

func TestPlacesAndStartsAreNewMemory(t *testing.T) {
	s := rich()
	starts, _ := score.Starts(s)
	clear(all(starts))
	expectStarts(t, s, []api.Ratio{of(0, 1), of(1, 1), of(13, 8), of(17, 8)})
	l, _ := score.Places(s)
	clear(all(l))
	if l, _ := score.Places(s); !slices.Equal(l, allPlaces(s)) {
		t.Error("places are shared")
	}
}

// TestGreatest asks all calls about a score that has as much of all as there may be.
func TestGreatest(t *testing.T) {
	chord := "64 C3~ E3~ G3~ B3~ C4~ E4~ G4~ B4~ !1234"
	s := scored("1/1", strings.Join(slices.Repeat([]string{repeatedText(chord, 64)}, 4), "/"))
	s.Bars = slices.Repeat(s.Bars, 100)
	s.Parts[0].Cells, s.Parts[0].Dyns = slices.Repeat(s.Parts[0].Cells, 100), make([][]api.Dyn, 100)
	last := celled(strings.Join(slices.Repeat([]string{repeatedText(chord, 63) + "|64 C3 E3 G3 B3 C4 E4 G4 B4"}, 4), "/"))
	s.Parts[0].Cells[99] = last
	s.Parts = slices.Repeat(s.Parts, 8)
	expect(t, s, api.Place{}, api.OK)
	if l, e := score.Places(s); len(l) != 8*100*4*64 || e != api.OK {
		t.Errorf("%d places, error %d", len(l), e)
	}
	l, e := score.Sounds(s, 7)
	if len(l) != 32 || e != api.OK || l[31].Length != of(100, 1) || l[0].At != of(0, 1) {
		t.Errorf("%d sounds, error %d", len(l), e)
	}
	if v, e := score.Joined(s, 7, 3); len(v.L) != 6400 || e != api.OK {
		t.Errorf("%d events, error %d", len(v.L), e)
	}
	expectGet(t, s, api.Place{Part: 7, Bar: 99, Voice: 3, At: 63}, last[3].L[63], api.OK)
	if !score.Same(s, copied(s)) {
		t.Error("not the same")
	}
}
