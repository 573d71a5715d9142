package edit_test

import (
	"slices"

	"partita/api"
	"partita/event"
	"partita/key"
	"partita/score"
)

// What chapter 9's table says of each kind, worked out by itself.

// maker is a score that an edit is made to, and what takes it back.
type maker struct {
	s    api.Score
	op   api.Op
	back api.Op
}

// made is what an edit makes of a right score, what takes it back, and its error.
func made(s api.Score, op api.Op) (api.Score, api.Op, api.Errno) {
	m := maker{s: copied(s), op: copiedOp(op), back: api.Op{}}
	errno := api.ErrOp
	switch op.Kind {
	case api.OpEvents:
		errno = m.events()
	case api.OpBarsIn:
		errno = m.barsIn()
	case api.OpBarsOut:
		errno = m.barsOut()
	case api.OpBar:
		errno = m.bar()
	case api.OpDyns:
		errno = m.dyns()
	case api.OpVoiceIn:
		errno = m.voiceIn()
	case api.OpVoiceOut:
		errno = m.voiceOut()
	case api.OpUp:
		errno = m.up()
	case api.OpTitle:
		m.back = api.Op{Kind: api.OpTitle, Text: m.s.Title}
		m.s.Title, errno = op.Text, api.OK
	}
	if errno == api.OK {
		_, errno = score.Check(m.s)
	}
	if errno != api.OK {
		return api.Score{}, api.Op{}, errno
	}
	return m.s, m.back, api.OK
}

func (m *maker) hasBar() bool { return m.op.Place.Bar >= 0 && m.op.Place.Bar < len(m.s.Bars) }

func (m *maker) hasCell() bool {
	return m.op.Place.Part >= 0 && m.op.Place.Part < len(m.s.Parts) && m.hasBar()
}

func (m *maker) cell() *[]api.Voice { return &m.s.Parts[m.op.Place.Part].Cells[m.op.Place.Bar] }

func (m *maker) hasVoice() bool {
	return m.hasCell() && m.op.Place.Voice >= 0 && m.op.Place.Voice < len(*m.cell())
}

// hasAll tells whether there are so many items as two numbers are together.
func hasAll(from, count, there int) bool {
	return from >= 0 && count >= 0 && from <= there && count <= there && from+count <= there
}

func (m *maker) events() api.Errno {
	if !m.hasVoice() || !hasAll(m.op.Place.At, m.op.Count, len((*m.cell())[m.op.Place.Voice].L)) {
		return api.ErrOp
	}
	from, to := m.op.Place.At, m.op.Place.At+m.op.Count
	v := &(*m.cell())[m.op.Place.Voice]
	m.back = api.Op{Kind: api.OpEvents, Place: m.op.Place, Count: len(m.op.Events), Events: list(v.L[from:to])}
	v.L = slices.Insert(slices.Delete(v.L, from, to), from, m.op.Events...)
	return api.OK
}

func (m *maker) barsIn() api.Errno {
	n := len(m.op.Bars)
	if m.op.Place.Bar < 0 || m.op.Place.Bar > len(m.s.Bars) || len(m.op.Cells) != len(m.s.Parts) || len(m.op.Dyns) != len(m.s.Parts) {
		return api.ErrOp
	}
	for i := range m.s.Parts {
		if len(m.op.Cells[i]) != n || len(m.op.Dyns[i]) != n {
			return api.ErrOp
		}
	}
	for i, b := range m.op.Bars { // one by one, each behind the one ahead of it
		at := m.op.Place.Bar + i
		m.s.Bars = slices.Insert(m.s.Bars, at, b)
		for j := range m.s.Parts {
			p := &m.s.Parts[j]
			p.Cells, p.Dyns = slices.Insert(p.Cells, at, m.op.Cells[j][i]), slices.Insert(p.Dyns, at, m.op.Dyns[j][i])
		}
	}
	m.back = api.Op{Kind: api.OpBarsOut, Place: api.Place{Bar: m.op.Place.Bar}, Count: n}
	return api.OK
}

func (m *maker) barsOut() api.Errno {
	if !hasAll(m.op.Place.Bar, m.op.Count, len(m.s.Bars)) {
		return api.ErrOp
	}
	at := m.op.Place.Bar
	m.back = api.Op{Kind: api.OpBarsIn, Place: api.Place{Bar: at}, Cells: make([][][]api.Voice, len(m.s.Parts)), Dyns: make([][][]api.Dyn, len(m.s.Parts))}
	for range m.op.Count { // one by one
		m.back.Bars = append(m.back.Bars, m.s.Bars[at])
		m.s.Bars = slices.Delete(m.s.Bars, at, at+1)
		for j := range m.s.Parts {
			p := &m.s.Parts[j]
			m.back.Cells[j], m.back.Dyns[j] = append(m.back.Cells[j], p.Cells[at]), append(m.back.Dyns[j], p.Dyns[at])
			p.Cells, p.Dyns = slices.Delete(p.Cells, at, at+1), slices.Delete(p.Dyns, at, at+1)
		}
	}
	return api.OK
}

func (m *maker) bar() api.Errno {
	if !m.hasBar() || len(m.op.Bars) != 1 {
		return api.ErrOp
	}
	at := m.op.Place.Bar
	m.back = api.Op{Kind: api.OpBar, Place: api.Place{Bar: at}, Bars: []api.Bar{m.s.Bars[at]}}
	m.s.Bars[at] = m.op.Bars[0]
	return api.OK
}

func (m *maker) dyns() api.Errno {
	if !m.hasCell() || len(m.op.Dyns) != 1 || len(m.op.Dyns[0]) != 1 {
		return api.ErrOp
	}
	p := m.op.Place
	m.back = api.Op{Kind: api.OpDyns, Place: api.Place{Part: p.Part, Bar: p.Bar}, Dyns: [][][]api.Dyn{{m.s.Parts[p.Part].Dyns[p.Bar]}}}
	m.s.Parts[p.Part].Dyns[p.Bar] = m.op.Dyns[0][0]
	return api.OK
}

func (m *maker) voiceIn() api.Errno {
	p := m.op.Place
	if !m.hasCell() || p.Voice < 0 || p.Voice > len(*m.cell()) || len(m.op.Cells) != 1 || len(m.op.Cells[0]) != 1 || len(m.op.Cells[0][0]) != 1 {
		return api.ErrOp
	}
	*m.cell() = slices.Insert(*m.cell(), p.Voice, m.op.Cells[0][0][0])
	m.back = api.Op{Kind: api.OpVoiceOut, Place: api.Place{Part: p.Part, Bar: p.Bar, Voice: p.Voice}}
	return api.OK
}

func (m *maker) voiceOut() api.Errno {
	if !m.hasVoice() {
		return api.ErrOp
	}
	p := m.op.Place
	m.back = api.Op{Kind: api.OpVoiceIn, Place: api.Place{Part: p.Part, Bar: p.Bar, Voice: p.Voice}, Cells: [][][]api.Voice{{{(*m.cell())[p.Voice]}}}}
	*m.cell() = slices.Delete(*m.cell(), p.Voice, p.Voice+1)
	return api.OK
}

func (m *maker) up() api.Errno {
	by, part := m.op.Interval, max(m.op.Place.Part, -1)
	if part >= len(m.s.Parts) || by.Steps < -70 || by.Steps > 70 || by.Halves < -120 || by.Halves > 120 {
		return api.ErrOp
	}
	errno := api.OK
	first := func(e api.Errno) {
		if errno == api.OK {
			errno = e
		}
	}
	for i := range m.s.Bars {
		if part < 0 {
			k, e := key.Move(m.s.Bars[i].Key, by)
			m.s.Bars[i].Key = k
			first(e)
		}
	}
	for _, p := range allPlaces(m.s) {
		if part < 0 || part == p.Part {
			v := m.s.Parts[p.Part].Cells[p.Bar][p.Voice]
			e, errno := event.Up(v.L[p.At], by)
			v.L[p.At] = e
			first(errno)
		}
	}
	m.back = api.Op{Kind: api.OpUp, Place: api.Place{Part: part}, Interval: api.Interval{Steps: -by.Steps, Halves: -by.Halves}}
	return errno
}

// allPlaces are those of all events.
func allPlaces(s api.Score) []api.Place {
	var l []api.Place
	for i, part := range s.Parts {
		for j, cell := range part.Cells {
			for k, v := range cell {
				for n := range v.L {
					l = append(l, api.Place{Part: i, Bar: j, Voice: k, At: n})
				}
			}
		}
	}
	return l
}
