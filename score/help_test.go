// Package score_test asks the exported functions alone: what it holds them against is worked out here, apart from the package.
package score_test

import (
	"fmt"
	"math"
	"math/big"
	"slices"
	"strconv"
	"strings"

	"partita/api"
	"partita/pitch"
	"partita/value"
)

func of(num, den int) api.Ratio { return api.Ratio{Num: num, Den: den} }

func named(name string) api.Pitch {
	p, e := pitch.Read(name)
	if e != api.OK {
		panic(name)
	}
	return p
}

// written is an event such as "4. C4~ E4 !13 'la": a value, pitches (a ~ behind those that are tied), marks, a word. One without pitches is a rest.
func written(text string) api.Event {
	words := strings.Fields(text)
	v, errno := value.Read(words[0])
	if errno != api.OK {
		panic(text)
	}
	e := api.Event{Kind: api.Rest, Value: v}
	for _, word := range words[1:] {
		switch word[0] {
		case '\'':
			e.Word = word[1:]
		case '!':
			for _, digit := range word[1:] {
				e.Marks = append(e.Marks, int(digit-'0'))
			}
		default:
			name, tied := strings.CutSuffix(word, "~")
			e.Kind, e.Pitches, e.Ties = api.Chord, append(e.Pitches, named(name)), append(e.Ties, tied)
		}
	}
	return e
}

// sung is a voice of such events with | between.
func sung(text string) api.Voice {
	var v api.Voice
	for _, e := range strings.Split(text, "|") {
		v.L = append(v.L, written(e))
	}
	return v
}

func repeated(text string, n int) api.Voice {
	var v api.Voice
	for range n {
		v.L = append(v.L, written(text))
	}
	return v
}

// celled is a cell of such voices with / between.
func celled(text string) []api.Voice {
	var l []api.Voice
	for _, v := range strings.Split(text, "/") {
		l = append(l, sung(v))
	}
	return l
}

func timed(text string) api.Meter {
	num, den, _ := strings.Cut(text, "/")
	var m api.Meter
	m.Num, _ = strconv.Atoi(num)
	m.Den, _ = strconv.Atoi(den)
	return m
}

// scored is a score of bars of some meters, such as "4/4 3/4", and of parts, each a text of its cells with ; between.
func scored(meters string, parts ...string) api.Score {
	s := api.Score{Title: "Air"}
	for _, m := range strings.Fields(meters) {
		s.Bars = append(s.Bars, api.Bar{Meter: timed(m)})
	}
	for i, text := range parts {
		p := api.Part{Name: "part " + strconv.Itoa(i), Dyns: make([][]api.Dyn, len(s.Bars))}
		for _, cell := range strings.Split(text, ";") {
			p.Cells = append(p.Cells, celled(cell))
		}
		s.Parts = append(s.Parts, p)
	}
	return s
}

// plain is a score of so many parts and bars, of whole notes.
func plain(parts, bars int) api.Score {
	s := api.Score{}
	for range bars {
		s.Bars = append(s.Bars, api.Bar{Meter: timed("4/4")})
	}
	for range parts {
		p := api.Part{Dyns: make([][]api.Dyn, bars)}
		for range bars {
			p.Cells = append(p.Cells, celled("1 C4"))
		}
		s.Parts = append(s.Parts, p)
	}
	return s
}

// rich is a right score that has something everywhere: three bars of 4/4, 5/8 and 2/4, three parts.
func rich() api.Score {
	s := scored("4/4 5/8 2/4",
		"2 G4|2 C4~ E4~ !24 / 4|4 C4~|2 C4 'la / 1 A3~ ; 4 C4~ E4 G4 !1|4 C4|8 / 2 C4|8 / 2 A3~|8 A3 ; 4 C4|4*3:2|8*3:2 E4 / 2",
		"1 C3 E3 G3 B3 C4 E4 G4 B4~ ; 8 B4 'lo|2 !4 ; 4 C3|4 D3",
		"1 ; 2|8 ; 4.. C5 !1234|16 C5 / 2 / 2 / 2 B2")
	s.Title = "Rich"
	s.Bars[0].Tempos = []api.Tempo{{At: of(0, 1), Micros: 500000}, {At: of(1, 2), Micros: 400000, Ramp: true}}
	s.Bars[0].Turn = api.Turn{Begin: true, Sign: true, Coda: true}
	s.Bars[1].Meter.Groups = []int{2, 3}
	s.Bars[1].Key = api.Key{Fifths: -3, Minor: true}
	s.Bars[1].Turn = api.Turn{Times: 2, Endings: []int{1, 2}, ToCoda: true}
	s.Bars[2].Tempos = []api.Tempo{{At: of(1, 8), Micros: 300000}}
	s.Bars[2].Turn = api.Turn{Fine: true, Jump: api.DaCapo}
	s.Parts[1].Clef, s.Parts[1].Channel = api.Bass, 9
	s.Parts[2].Clef, s.Parts[2].Channel = api.Tenor, 15
	s.Parts[0].Dyns[0] = []api.Dyn{{At: of(0, 1), Level: 80, Hair: true}, {At: of(3, 4), Level: 127}}
	s.Parts[0].Dyns[2] = []api.Dyn{{At: of(1, 3), Level: 1}}
	s.Parts[2].Dyns[1] = []api.Dyn{{At: of(1, 4), Level: 64}, {At: of(1, 2), Level: 65, Hair: true}}
	return s
}

func list[T any](l []T) []T { return append([]T(nil), l...) }

// lists copies lists of lists, with what copies each of their items.
func lists[T any](l []T, each func(T) T) []T {
	var all []T
	for _, item := range l {
		all = append(all, each(item))
	}
	return all
}

func copiedEvent(e api.Event) api.Event {
	e.Pitches, e.Ties, e.Marks = list(e.Pitches), list(e.Ties), list(e.Marks)
	return e
}

func copiedVoice(v api.Voice) api.Voice { return api.Voice{L: lists(v.L, copiedEvent)} }

func copiedBar(b api.Bar) api.Bar {
	b.Meter.Groups, b.Turn.Endings, b.Tempos = list(b.Meter.Groups), list(b.Turn.Endings), list(b.Tempos)
	return b
}

func copiedPart(p api.Part) api.Part {
	p.Cells = lists(p.Cells, func(c []api.Voice) []api.Voice { return lists(c, copiedVoice) })
	p.Dyns = lists(p.Dyns, list[api.Dyn])
	return p
}

// copied is a score of memory of its own.
func copied(s api.Score) api.Score {
	s.Bars, s.Parts = lists(s.Bars, copiedBar), lists(s.Parts, copiedPart)
	return s
}

func changed(s api.Score, how func(*api.Score)) api.Score {
	s = copied(s)
	how(&s)
	return s
}

// equalEvents and equalVoices hold events against each other apart from the packages.
func equalEvents(a, b api.Event) bool {
	return a.Kind == b.Kind && a.Value == b.Value && a.Word == b.Word && slices.Equal(a.Pitches, b.Pitches) && slices.Equal(a.Ties, b.Ties) && slices.Equal(a.Marks, b.Marks)
}

func equalVoices(a, b api.Voice) bool { return slices.EqualFunc(a.L, b.L, equalEvents) }

func equalSounds(a, b []api.Sound) bool {
	return slices.EqualFunc(a, b, func(a, b api.Sound) bool {
		return a.Pitch == b.Pitch && a.At == b.At && a.Length == b.Length && slices.Equal(a.Marks, b.Marks)
	})
}

// eventShown is an event as it is written.
func eventShown(e api.Event) string {
	text, errno := value.Text(e.Value)
	if errno != api.OK {
		text = fmt.Sprint(e.Value)
	}
	for i, p := range e.Pitches {
		text += fmt.Sprint(" ", p)
		if name, errno := pitch.Text(p); errno == api.OK {
			text = strings.TrimSuffix(text, fmt.Sprint(p)) + name
		}
		if i < len(e.Ties) && e.Ties[i] {
			text += "~"
		}
	}
	return text
}

// shown is a score as it is told of where a test fails: its beginning, if it is long.
func shown(s api.Score) string {
	text := fmt.Sprintf("%q %d bars, %d parts", s.Title, len(s.Bars), len(s.Parts))
	for _, b := range s.Bars[:min(len(s.Bars), 10)] {
		text += fmt.Sprintf(" %d/%d", b.Meter.Num, b.Meter.Den)
	}
	for _, p := range s.Parts {
		for _, cell := range p.Cells {
			text += " ;"
			for _, v := range cell {
				text += " /"
				for _, e := range v.L {
					text += "|" + eventShown(e)
					if len(text) > 500 {
						return text + ".."
					}
				}
			}
		}
	}
	return text
}

// extremes are the numbers at which others go round.
func extremes() []int {
	return []int{math.MaxInt, math.MaxInt - 1, math.MinInt, math.MinInt + 1, 1 << 31, 1 << 32, 1<<32 + 1, -1 << 32, 1 << 62}
}

// dice are numbers below those asked for, always the same ones.
func dice() func(n int) int {
	state := uint64(7)
	return func(n int) int {
		state = state*6364136223846793005 + 1442695040888963407
		return int(state>>33) % n
	}
}

// What the chapters tell of places and lengths, in numbers of any size.

func exact(a api.Ratio) *big.Rat { return big.NewRat(int64(a.Num), int64(a.Den)) }

// fits tells whether a number of any size is a right ratio.
func fits(r *big.Rat) bool {
	most := big.NewInt(1000000000)
	return r.Num().CmpAbs(most) <= 0 && r.Denom().Cmp(most) <= 0
}

// right tells whether a ratio is one.
func right(a api.Ratio) bool {
	if a.Den < 1 || a.Den > 1000000000 || a.Num < -1000000000 || a.Num > 1000000000 {
		return false
	}
	r := exact(a)
	return r.Num().Int64() == int64(a.Num) && r.Denom().Int64() == int64(a.Den)
}

func told(r *big.Rat) api.Ratio { return of(int(r.Num().Int64()), int(r.Denom().Int64())) }

func plus(a, b *big.Rat) *big.Rat { return new(big.Rat).Add(a, b) }

// barLong is how long a bar of a right meter is.
func barLong(m api.Meter) *big.Rat { return big.NewRat(int64(m.Num), int64(m.Den)) }

// long is how long a right event is.
func long(e api.Event) *big.Rat {
	r := big.NewRat([]int64{4, 6, 7}[e.Value.Dots], 4<<e.Value.Base)
	if e.Value.Num != 0 {
		r.Mul(r, big.NewRat(int64(e.Value.Den), int64(e.Value.Num)))
	}
	return r
}

// places are those at which the events of a voice begin, and that at which the last one ends.
func places(v api.Voice) []*big.Rat {
	l := []*big.Rat{new(big.Rat)}
	for i, e := range v.L {
		l = append(l, plus(l[i], long(e)))
	}
	return l
}

// barPlaces are those at which the bars begin, and that at which the last one ends.
func barPlaces(s api.Score) []*big.Rat {
	l := []*big.Rat{new(big.Rat)}
	for i, b := range s.Bars {
		l = append(l, plus(l[i], barLong(b.Meter)))
	}
	return l
}

func ties(e api.Event, p api.Pitch) bool {
	i := slices.Index(e.Pitches, p)
	return i >= 0 && e.Ties[i]
}

// behind is the place of the event behind that of a place.
func behind(s api.Score, p api.Place) (api.Place, bool) {
	cells := s.Parts[p.Part].Cells
	if p.At+1 < len(cells[p.Bar][p.Voice].L) {
		p.At++
		return p, true
	}
	if p.Bar+1 == len(cells) || p.Voice >= len(cells[p.Bar+1]) {
		return api.Place{}, false
	}
	return api.Place{Part: p.Part, Bar: p.Bar + 1, Voice: p.Voice}, true
}

func at(s api.Score, p api.Place) api.Event { return s.Parts[p.Part].Cells[p.Bar][p.Voice].L[p.At] }

// allPlaces are those of all events.
func allPlaces(s api.Score) []api.Place {
	var l []api.Place
	for i, part := range s.Parts {
		for j, cell := range part.Cells {
			for k, v := range cell {
				for n := range v.L {
					l = append(l, api.Place{Part: i, Bar: j, Voice: k, At: n})
				}
			}
		}
	}
	return l
}

// Pieces of unlike tuplets have, together, too great terms for a ratio behind a dozen whole notes; with what they lack, and the rest, they fill a whole note.
const (
	pieces = "64..*8:1|8*13:1|8*11:1|8*9:1|8*7:1|8*5:1"
	lacks  = "64..*8:15|8*13:12|8*11:10|8*9:8|8*7:6|8*5:4"
	filler = "4|32.|64."
	odd    = pieces + "|" + lacks + "|" + filler
)

// tiedC has all events of a voice be C4, each tied to the next one.
func tiedC(v api.Voice) api.Voice {
	for i := range v.L {
		v.L[i].Kind, v.L[i].Pitches, v.L[i].Ties = api.Chord, []api.Pitch{named("C4")}, []bool{true}
	}
	return v
}
