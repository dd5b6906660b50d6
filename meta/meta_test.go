package meta_test

import (
	"fmt"
	"math"
	"slices"
	"testing"

	"triptych/api"
	"triptych/meta"
	"triptych/record"
)

// top is the greatest value of a record.
const top = 1<<48 - 1

// dice is numbers from a fixed rule.
type dice struct{ seed uint64 }

// below is a number from 0 to n - 1.
func (d *dice) below(n int) int {
	d.seed = d.seed*6364136223846793005 + 1442695040888963407
	return int(d.seed >> 33 % uint64(n))
}

// of is one of these.
func (d *dice) of(l ...int) int { return l[d.below(len(l))] }

// far are numbers that are far from all that may be.
func far() []int {
	return []int{math.MinInt, math.MinInt + 1, -1 << 48, -1 << 32, -513, -1, 1 << 48, 1<<48 + 1, 1 << 56, 1 << 62, math.MaxInt - 1, math.MaxInt}
}

// metas calls f with what may be known, and with what may not: all states of all slots, each of them active or none, and numbers that are 0 or not.
func metas(f func(m meta.Meta)) {
	for n := range 6 * 6 * 6 {
		for _, active := range []int{0, 1, 2, -1, 3, math.MaxInt} {
			for fill := range 6 {
				m := meta.Meta{Active: active}
				for i := range m.Slots {
					m.Slots[i].State = []int{n / 36, n / 6 % 6, n % 6}[i]
				}
				filled(&m, fill)
				f(m)
			}
		}
	}
}

// filled lets its numbers be others: of the first fills those that each state may have.
func filled(m *meta.Meta, fill int) {
	for i := range m.Slots {
		s := &m.Slots[i]
		mayVersion := s.State >= 2 && s.State <= 4
		switch {
		case fill == 1 && mayVersion:
			s.Version = 7 + i
		case fill == 2 && mayVersion:
			s.Version = top - i
		case fill >= 3:
			s.Version = 70 - i
		}
		switch {
		case (fill == 1 || fill == 2) && s.State == 3:
			s.Base = 512 - fill/2*i
		case fill >= 4:
			s.Base = 4 + i
		}
	}
	m.Floor = []int{0, 8, top - 1, 71, 0, -5}[fill]
	m.Cursor = []int{0, 3, top, 1, 0, -6}[fill]
	m.Intent = []int{0, 65, 0, 2, 0, -7}[fill]
}

// ours are the kinds that there are.
func ours() []int {
	return []int{1, 2, 3, 4, 5, 6, 7, 8, 9, 10, 11, 12, 13, 100, 101, 102, 103, 104, 105, 110, 111}
}

// others are the kinds of records that there aren't.
func others() []int {
	var l []int
	for kind := range 128 {
		if !slices.Contains(ours(), kind) {
			l = append(l, kind)
		}
	}
	return l
}

// values are values at the edges of what is asked of them.
func values() []int {
	return []int{0, 1, 7, 8, 9, 71, 72, 511, 512, 513, 1 << 32, top - 1, top}
}

// right asks the chapter's questions one by one.
func right(m meta.Meta) bool {
	trials := 0
	for i, s := range m.Slots {
		switch s.State {
		case 0, 1, 5:
			if s.Version != 0 {
				return false
			}
		case 2, 4:
		case 3:
			trials++
			if m.Active != i {
				return false
			}
		default:
			return false
		}
		if s.Version < 0 || s.Version > top || s.Base < 0 || s.Base > 512 {
			return false
		}
		if s.Base != 0 && s.State != 3 {
			return false
		}
	}
	if trials > 1 || m.Slots[0].State != 4 {
		return false
	}
	if m.Active != 0 && m.Active != 1 && m.Active != 2 {
		return false
	}
	if a := m.Slots[m.Active].State; m.Active != 0 && a != 3 && a != 4 {
		return false
	}
	for _, n := range []int{m.Floor, m.Cursor, m.Intent} {
		if n < 0 || n > top {
			return false
		}
	}
	return true
}

// may tells whether a record of the kinds up to 13 may be done, by the chapter's table; its slot is one where the kind speaks of one.
func may(m meta.Meta, r record.Rec) bool {
	var state int
	if r.Slot < 3 {
		state = m.Slots[r.Slot].State
	}
	golden, active := r.Slot == 0, r.Slot == m.Active
	none := true
	for _, s := range m.Slots {
		none = none && s.State != 3
	}
	switch r.Kind {
	case 1, 6:
		return !golden && !active && state != 3
	case 2:
		return state == 1
	case 3:
		return state == 2 && r.Value <= 512 && none
	case 4:
		return state == 3
	case 5:
		return !golden && state != 0
	case 7:
		return golden || state == 4
	case 8:
		return r.Value > m.Floor
	case 9:
		return true
	case 10:
		return r.Value != 0 && m.Intent == 0
	case 11:
		return m.Intent != 0
	case 12:
		return (state == 5 || state == 1) && !golden
	case 13:
		return m.Active != 0 && !active && (golden || state == 4)
	}
	return false
}

// ruin lets a slot be bad as kind 5 does.
func ruin(m *meta.Meta, i int) {
	m.Slots[i].State, m.Slots[i].Version, m.Slots[i].Base = 5, 0, 0
	if m.Active == i {
		m.Active = 0
	}
}

// done is what the chapter's table says that a record of the kinds up to 13 does, where it may be.
func done(m meta.Meta, r record.Rec) meta.Meta {
	var s meta.Slot
	if r.Slot < 3 {
		s = m.Slots[r.Slot]
	}
	switch r.Kind {
	case 1:
		s.State, s.Version, s.Base = 1, 0, 0
	case 2:
		s.State, s.Version, s.Base = 2, r.Value, 0
	case 3:
		s.State, s.Base = 3, r.Value
		m.Active = r.Slot
	case 4:
		s.State, s.Base = 4, 0
		if s.Version > m.Floor {
			m.Floor = s.Version
		}
	case 6:
		s.State, s.Version, s.Base = 0, 0, 0
	case 8:
		m.Floor = r.Value
	case 9:
		m.Cursor = r.Value
	case 10:
		m.Intent = r.Value
	case 11:
		m.Intent = 0
	case 12:
		s.State, s.Version, s.Base = 4, r.Value, 0
	}
	switch r.Kind {
	case 1, 2, 3, 4, 6, 12:
		m.Slots[r.Slot] = s
	case 5:
		ruin(&m, r.Slot)
	case 7:
		for i := range m.Slots {
			if m.Slots[i].State == 3 {
				ruin(&m, i)
				break
			}
		}
		m.Active = r.Slot
	case 13:
		for i := range m.Slots {
			if i == m.Active {
				ruin(&m, i)
				break
			}
		}
		m.Active = r.Slot
	}
	return m
}

// do is what the chapter says that Do does.
func do(m meta.Meta, r record.Rec) (meta.Meta, api.Errno) {
	if r.Kind < 0 || r.Kind > 127 || r.Slot < 0 || r.Slot > 3 || r.No < 0 || r.No > 65535 || r.Value < 0 || r.Value > top {
		return m, api.ErrArg
	}
	if !slices.Contains(ours(), r.Kind) || r.Slot == 3 && (r.Kind < 8 || r.Kind > 11) {
		return m, api.ErrArg
	}
	switch {
	case r.Kind == 110:
		m.Active = r.Slot
	case r.Kind == 111 && r.Value > 512:
		return m, api.ErrState
	case r.Kind == 111:
		m.Slots[r.Slot].Base = r.Value
	case r.Kind >= 100:
		m.Slots[r.Slot].State, m.Slots[r.Slot].Version = r.Kind-100, r.Value
	case !may(m, r):
		return m, api.ErrState
	default:
		return done(m, r), api.OK
	}
	return m, api.OK
}

// same holds a Do against the chapter's.
func same(t *testing.T, m meta.Meta, r record.Rec) {
	t.Helper()
	want, err := do(m, r)
	if got, e := meta.Do(m, r); got != want || e != err {
		t.Fatalf("%v %v: %v %v, want %v %v", m, r, got, e, want, err)
	}
}

// P17.1: the chapter's example.
func TestExample(t *testing.T) {
	m, e := meta.All(record.Rec{Kind: meta.Write, Slot: 1}, record.Rec{Kind: meta.Stage, Slot: 1, Value: 9}, record.Rec{Kind: meta.Try, Slot: 1, Value: 4})
	if slot, on := meta.Trial(m); e != api.OK || slot != 1 || !on || m.Active != 1 || m.Slots[1] != (meta.Slot{State: api.Trial, Version: 9, Base: 4}) {
		t.Error(m, e)
	}
}

// P17.1: at first golden is confirmed and active, and all else is 0.
func TestNew(t *testing.T) {
	want := meta.Meta{}
	want.Slots[0].State = 4
	if m := meta.New(); m != want || !meta.Right(m) {
		t.Error(m)
	}
}

// P17.1: the kinds have the numbers that the log's pages hold.
func TestKinds(t *testing.T) {
	got := []int{meta.Write, meta.Stage, meta.Try, meta.Confirm, meta.Bad, meta.Clear, meta.Activate, meta.Floor, meta.Cursor, meta.Intent, meta.Done, meta.Copy, meta.Drop, meta.Is, meta.Now, meta.Began}
	if want := []int{1, 2, 3, 4, 5, 6, 7, 8, 9, 10, 11, 12, 13, 100, 110, 111}; !slices.Equal(got, want) {
		t.Error(got)
	}
}

// step is a record, and what is known behind it, as Text tells it.
type step struct {
	kind, slot, value int
	e                 api.Errno
	text              string
}

// P17.1: lives written out, record by record; what is refused leaves what is known.
func TestWritten(t *testing.T) {
	lives := [][]step{
		{ // Images that are tried, confirmed, and dropped.
			{meta.Stage, 1, 7, api.ErrState, "golden=confirmed a=empty b=empty active=golden"},
			{meta.Write, 1, 99, api.OK, "golden=confirmed a=writing b=empty active=golden"},
			{meta.Write, 1, 0, api.OK, "golden=confirmed a=writing b=empty active=golden"},
			{meta.Try, 1, 0, api.ErrState, "golden=confirmed a=writing b=empty active=golden"},
			{meta.Stage, 1, 7, api.OK, "golden=confirmed a=staged:7 b=empty active=golden"},
			{meta.Stage, 1, 8, api.ErrState, "golden=confirmed a=staged:7 b=empty active=golden"},
			{meta.Confirm, 1, 0, api.ErrState, "golden=confirmed a=staged:7 b=empty active=golden"},
			{meta.Activate, 1, 0, api.ErrState, "golden=confirmed a=staged:7 b=empty active=golden"},
			{meta.Try, 1, 513, api.ErrState, "golden=confirmed a=staged:7 b=empty active=golden"},
			{meta.Try, 1, 512, api.OK, "golden=confirmed a=trial:7@512 b=empty active=a"},
			{meta.Write, 2, 0, api.OK, "golden=confirmed a=trial:7@512 b=writing active=a"},
			{meta.Stage, 2, 9, api.OK, "golden=confirmed a=trial:7@512 b=staged:9 active=a"},
			{meta.Try, 2, 0, api.ErrState, "golden=confirmed a=trial:7@512 b=staged:9 active=a"},
			{meta.Clear, 1, 0, api.ErrState, "golden=confirmed a=trial:7@512 b=staged:9 active=a"},
			{meta.Confirm, 1, 0, api.OK, "golden=confirmed a=confirmed:7 b=staged:9 active=a floor=7"},
			{meta.Write, 1, 0, api.ErrState, "golden=confirmed a=confirmed:7 b=staged:9 active=a floor=7"},
			{meta.Try, 2, 0, api.OK, "golden=confirmed a=confirmed:7 b=trial:9 active=b floor=7"},
			{meta.Drop, 2, 0, api.ErrState, "golden=confirmed a=confirmed:7 b=trial:9 active=b floor=7"},
			{meta.Drop, 1, 0, api.OK, "golden=confirmed a=confirmed:7 b=bad active=a floor=7"},
			{meta.Copy, 2, 3, api.OK, "golden=confirmed a=confirmed:7 b=confirmed:3 active=a floor=7"},
			{meta.Copy, 2, 4, api.ErrState, "golden=confirmed a=confirmed:7 b=confirmed:3 active=a floor=7"},
			{meta.Drop, 0, 0, api.OK, "golden=confirmed a=bad b=confirmed:3 active=golden floor=7"},
			{meta.Drop, 2, 0, api.ErrState, "golden=confirmed a=bad b=confirmed:3 active=golden floor=7"},
			{meta.Activate, 2, 0, api.OK, "golden=confirmed a=bad b=confirmed:3 active=b floor=7"},
			{meta.Bad, 2, 0, api.OK, "golden=confirmed a=bad b=bad active=golden floor=7"},
			{meta.Clear, 2, 0, api.OK, "golden=confirmed a=bad b=empty active=golden floor=7"},
			{meta.Bad, 2, 0, api.ErrState, "golden=confirmed a=bad b=empty active=golden floor=7"},
			{meta.Copy, 2, 0, api.ErrState, "golden=confirmed a=bad b=empty active=golden floor=7"},
			{meta.Clear, 2, 0, api.OK, "golden=confirmed a=bad b=empty active=golden floor=7"},
			{meta.Write, 0, 0, api.ErrState, "golden=confirmed a=bad b=empty active=golden floor=7"},
			{meta.Bad, 0, 0, api.ErrState, "golden=confirmed a=bad b=empty active=golden floor=7"},
			{meta.Copy, 0, 0, api.ErrState, "golden=confirmed a=bad b=empty active=golden floor=7"},
			{meta.Write, 3, 0, api.ErrArg, "golden=confirmed a=bad b=empty active=golden floor=7"},
		},
		{ // A trial that is over, a confirmed image below the floor, and what is written into while another is on trial.
			{meta.Floor, 3, 8, api.OK, "golden=confirmed a=empty b=empty active=golden floor=8"},
			{meta.Floor, 0, 8, api.ErrState, "golden=confirmed a=empty b=empty active=golden floor=8"},
			{meta.Write, 2, 0, api.OK, "golden=confirmed a=empty b=writing active=golden floor=8"},
			{meta.Stage, 2, 0, api.OK, "golden=confirmed a=empty b=staged active=golden floor=8"},
			{meta.Try, 2, 5, api.OK, "golden=confirmed a=empty b=trial@5 active=b floor=8"},
			{meta.Activate, 1, 0, api.ErrState, "golden=confirmed a=empty b=trial@5 active=b floor=8"},
			{meta.Activate, 2, 0, api.ErrState, "golden=confirmed a=empty b=trial@5 active=b floor=8"},
			{meta.Activate, 0, 0, api.OK, "golden=confirmed a=empty b=bad active=golden floor=8"},
			{meta.Copy, 2, 4, api.OK, "golden=confirmed a=empty b=confirmed:4 active=golden floor=8"},
			{meta.Activate, 2, 0, api.OK, "golden=confirmed a=empty b=confirmed:4 active=b floor=8"},
			{meta.Write, 1, 0, api.OK, "golden=confirmed a=writing b=confirmed:4 active=b floor=8"},
			{meta.Stage, 1, 6, api.OK, "golden=confirmed a=staged:6 b=confirmed:4 active=b floor=8"},
			{meta.Write, 1, 0, api.OK, "golden=confirmed a=writing b=confirmed:4 active=b floor=8"},
			{meta.Copy, 1, 5, api.OK, "golden=confirmed a=confirmed:5 b=confirmed:4 active=b floor=8"},
			{meta.Activate, 1, 0, api.OK, "golden=confirmed a=confirmed:5 b=confirmed:4 active=a floor=8"},
			{meta.Write, 2, 0, api.OK, "golden=confirmed a=confirmed:5 b=writing active=a floor=8"},
			{meta.Stage, 2, 6, api.OK, "golden=confirmed a=confirmed:5 b=staged:6 active=a floor=8"},
			{meta.Try, 2, 1, api.OK, "golden=confirmed a=confirmed:5 b=trial:6@1 active=b floor=8"},
			{meta.Activate, 1, 0, api.OK, "golden=confirmed a=confirmed:5 b=bad active=a floor=8"},
			{meta.Write, 2, 0, api.OK, "golden=confirmed a=confirmed:5 b=writing active=a floor=8"},
			{meta.Bad, 2, 0, api.OK, "golden=confirmed a=confirmed:5 b=bad active=a floor=8"},
			{meta.Bad, 2, 0, api.OK, "golden=confirmed a=confirmed:5 b=bad active=a floor=8"},
			{meta.Bad, 1, 0, api.OK, "golden=confirmed a=bad b=bad active=golden floor=8"},
		},
		{ // A trial confirmed below the floor leaves it.
			{meta.Floor, 0, top, api.OK, "golden=confirmed a=empty b=empty active=golden floor=281474976710655"},
			{meta.Write, 1, 0, api.OK, "golden=confirmed a=writing b=empty active=golden floor=281474976710655"},
			{meta.Stage, 1, top - 1, api.OK, "golden=confirmed a=staged:281474976710654 b=empty active=golden floor=281474976710655"},
			{meta.Try, 1, 0, api.OK, "golden=confirmed a=trial:281474976710654 b=empty active=a floor=281474976710655"},
			{meta.Confirm, 1, 0, api.OK, "golden=confirmed a=confirmed:281474976710654 b=empty active=a floor=281474976710655"},
		},
		{ // Cursor and intent.
			{meta.Done, 0, 0, api.ErrState, "golden=confirmed a=empty b=empty active=golden"},
			{meta.Intent, 0, 0, api.ErrState, "golden=confirmed a=empty b=empty active=golden"},
			{meta.Intent, 3, 65, api.OK, "golden=confirmed a=empty b=empty active=golden intent=65"},
			{meta.Intent, 0, 66, api.ErrState, "golden=confirmed a=empty b=empty active=golden intent=65"},
			{meta.Cursor, 3, top, api.OK, "golden=confirmed a=empty b=empty active=golden cursor=281474976710655 intent=65"},
			{meta.Done, 3, 7, api.OK, "golden=confirmed a=empty b=empty active=golden cursor=281474976710655"},
			{meta.Done, 0, 0, api.ErrState, "golden=confirmed a=empty b=empty active=golden cursor=281474976710655"},
			{meta.Cursor, 0, 0, api.OK, "golden=confirmed a=empty b=empty active=golden"},
		},
		{ // What is told, whatever was.
			{meta.Is + api.Confirmed, 0, 4, api.OK, "golden=confirmed:4 a=empty b=empty active=golden"},
			{meta.Is + api.Confirmed, 1, 6, api.OK, "golden=confirmed:4 a=confirmed:6 b=empty active=golden"},
			{meta.Is + api.Staged, 2, 8, api.OK, "golden=confirmed:4 a=confirmed:6 b=staged:8 active=golden"},
			{meta.Now, 1, 99, api.OK, "golden=confirmed:4 a=confirmed:6 b=staged:8 active=a"},
			{meta.Is + api.Trial, 1, 5, api.OK, "golden=confirmed:4 a=trial:5 b=staged:8 active=a"},
			{meta.Began, 1, 513, api.ErrState, "golden=confirmed:4 a=trial:5 b=staged:8 active=a"},
			{meta.Began, 1, 512, api.OK, "golden=confirmed:4 a=trial:5@512 b=staged:8 active=a"},
			{meta.Is + api.Trial, 1, 6, api.OK, "golden=confirmed:4 a=trial:6@512 b=staged:8 active=a"},
			{meta.Began, 1, 0, api.OK, "golden=confirmed:4 a=trial:6 b=staged:8 active=a"},
			{meta.Now, 2, 0, api.OK, ""},
			{meta.Now, 3, 0, api.ErrArg, ""},
			{meta.Is, 3, 0, api.ErrArg, ""},
			{meta.Began, 3, 0, api.ErrArg, ""},
		},
	}
	for _, life := range lives {
		m := meta.New()
		for _, s := range life {
			x, e := meta.Do(m, record.Rec{Kind: s.kind, Slot: s.slot, No: 5, Value: s.value})
			if e != s.e || meta.Text(x) != s.text || e != api.OK && x != m {
				t.Fatalf("%v %v: %q %v", m, s, meta.Text(x), e)
			}
			m = x
		}
	}
}

// P17.1: each kind is done, or refused, as the chapter's table says, whatever is known, right or not.
func TestDo(t *testing.T) {
	metas(func(m meta.Meta) {
		l := []int{0, 9, 512, 513, top}
		if right(m) {
			l = values()
		}
		for _, kind := range ours() {
			for slot := range 4 {
				for _, value := range l {
					same(t, m, record.Rec{Kind: kind, Slot: slot, Value: value})
				}
			}
		}
	})
}

// P17.1: a record's number doesn't matter to what is done.
func TestDoNumber(t *testing.T) {
	metas(func(m meta.Meta) {
		if !right(m) {
			return
		}
		for _, kind := range ours() {
			for slot := range 4 {
				for _, no := range []int{1, 255, 65535} {
					r := record.Rec{Kind: kind, Slot: slot, Value: 9}
					want, err := meta.Do(m, r)
					r.No = no
					if got, e := meta.Do(m, r); got != want || e != err {
						t.Fatal(m, r, got, e)
					}
				}
			}
		}
	})
}

// P17.1: a kind that there isn't, and a record that isn't right, are ErrArg, and leave what is known.
func TestDoWrong(t *testing.T) {
	metas(func(m meta.Meta) {
		var l []record.Rec
		for _, kind := range others() {
			l = append(l, record.Rec{Kind: kind, Slot: kind % 4, Value: kind % 3})
		}
		for _, n := range append(far(), -2, 128, 129, 228, 256, 257, 1<<32) {
			l = append(l, record.Rec{Kind: n}, record.Rec{Kind: n, Slot: 1, Value: 1})
		}
		for _, kind := range ours() {
			for _, n := range far() {
				l = append(l, record.Rec{Kind: kind, Slot: n}, record.Rec{Kind: kind, Slot: 1, No: n}, record.Rec{Kind: kind, Slot: 1, Value: n})
			}
			l = append(l, record.Rec{Kind: kind, Slot: 4}, record.Rec{Kind: kind, Slot: 5, Value: 1}, record.Rec{Kind: kind, Slot: 2, No: 65536, Value: 1})
		}
		for _, r := range l {
			if got, e := meta.Do(m, r); got != m || e != api.ErrArg {
				t.Fatal(m, r, got, e)
			}
		}
	})
}

// P17.1: slot 3 is none, so it is ErrArg of the kinds that speak of a slot, even where these would be refused; to the others a slot doesn't matter.
func TestDoSlot3(t *testing.T) {
	metas(func(m meta.Meta) {
		for _, kind := range ours() {
			for _, value := range []int{0, 1, 513, top} {
				got, e := meta.Do(m, record.Rec{Kind: kind, Slot: 3, Value: value})
				if kind < 8 || kind > 11 {
					if got != m || e != api.ErrArg {
						t.Fatal(m, kind, got, e)
					}
					continue
				}
				if want, err := meta.Do(m, record.Rec{Kind: kind, Value: value}); got != want || e != err {
					t.Fatal(m, kind, got, e)
				}
			}
		}
	})
}

// P17.1: what the kinds up to 13 do of what is right is right.
func TestStaysRight(t *testing.T) {
	all, changed := 0, 0
	metas(func(m meta.Meta) {
		if !right(m) {
			return
		}
		all++
		for kind := 1; kind <= 13; kind++ {
			for slot := range 4 {
				for _, value := range values() {
					got, e := meta.Do(m, record.Rec{Kind: kind, Slot: slot, Value: value})
					if !right(got) || !meta.Right(got) {
						t.Fatal(m, kind, slot, value, got, e)
					}
					if got != m {
						changed++
					}
				}
			}
		}
	})
	if all < 100 || changed < 1000 {
		t.Error(all, changed)
	}
}

// P17.1: what is known through long lives is right, is what the chapter's table says, and is told by its base.
func TestLives(t *testing.T) {
	d := dice{17}
	for range 300 {
		m := meta.New()
		for range 200 {
			r := record.Rec{Kind: 1 + d.below(13), Slot: d.below(4), No: d.below(65536), Value: d.of(values()...)}
			if d.below(4) == 0 {
				r.Value = d.below(600)
			}
			same(t, m, r)
			m, _ = meta.Do(m, r)
			if !meta.Right(m) {
				t.Fatal(m, r)
			}
			if back, e := meta.All(meta.Base(m)...); back != m || e != api.OK {
				t.Fatal(m, back, e)
			}
		}
	}
}

// P17.1: Right asks all of the chapter's questions: all states, each one active, with versions and bases or without.
func TestRight(t *testing.T) {
	for n := range 8 * 8 * 8 {
		for active := -1; active <= 3; active++ {
			for fill := range 64 {
				m := meta.Meta{Active: active}
				for i := range m.Slots {
					m.Slots[i] = meta.Slot{State: []int{n / 64, n / 8 % 8, n % 8}[i] - 1, Version: fill >> i & 1, Base: fill >> (i + 3) & 1}
				}
				if meta.Right(m) != right(m) {
					t.Fatal(m, !right(m))
				}
			}
		}
	}
}

// P17.1: Right asks each number's range.
func TestRightRanges(t *testing.T) {
	m := meta.New()
	m.Slots[1] = meta.Slot{State: api.Trial, Version: 7, Base: 3}
	m.Slots[2] = meta.Slot{State: api.Staged, Version: 8}
	m.Active = 1
	ask := func(n int, want bool, change func(m *meta.Meta, n int)) {
		t.Helper()
		x := m
		change(&x, n)
		if meta.Right(x) != want || right(x) != want {
			t.Error(x, want)
		}
	}
	for _, n := range append(far(), 0, 1, 511, 512, 513, 1<<47, top-1, top) {
		value := 0 <= n && n <= top
		ask(n, value, func(m *meta.Meta, n int) { m.Floor = n })
		ask(n, value, func(m *meta.Meta, n int) { m.Cursor = n })
		ask(n, value, func(m *meta.Meta, n int) { m.Intent = n })
		for i := range 3 {
			ask(n, value, func(m *meta.Meta, n int) { m.Slots[i].Version = n })
		}
		ask(n, 0 <= n && n <= 512, func(m *meta.Meta, n int) { m.Slots[1].Base = n })
		ask(n, n == 0, func(m *meta.Meta, n int) { m.Slots[2].Base = n })
		ask(n, n == 0, func(m *meta.Meta, n int) { m.Slots[0].Base = n })
	}
	for _, n := range append(far(), 0, 2, 3, 4, 5) {
		ask(n, false, func(m *meta.Meta, n int) { m.Active = n })
	}
	for _, n := range append(far(), -2, 6, 7, 100) {
		for i := range 3 {
			ask(n, false, func(m *meta.Meta, n int) { m.Slots[i].State = n })
		}
	}
}

// P17.1: that of a trial is the first slot on trial, also of several; 0 and false where there is none.
func TestTrial(t *testing.T) {
	metas(func(m meta.Meta) {
		want := slices.IndexFunc(m.Slots[:], func(s meta.Slot) bool { return s.State == 3 })
		if slot, on := meta.Trial(m); slot != max(want, 0) || on != (want >= 0) {
			t.Fatal(m, slot, on)
		}
	})
}

// P17.1: the states' names.
func TestState(t *testing.T) {
	for n, name := range []string{"empty", "writing", "staged", "trial", "confirmed", "bad"} {
		if got := meta.State(n); got != name {
			t.Errorf("%d %q", n, got)
		}
	}
	for _, n := range append(far(), -6, -5, 6, 7, 8, 100, 104) {
		if got := meta.State(n); got != "" {
			t.Errorf("%d %q", n, got)
		}
	}
}

// P17.1: bases written out.
func TestBaseWritten(t *testing.T) {
	m := meta.Meta{Active: 2, Floor: 5, Cursor: 6, Intent: 65}
	m.Slots[0] = meta.Slot{State: api.Confirmed, Version: 1}
	m.Slots[1] = meta.Slot{State: api.Bad}
	m.Slots[2] = meta.Slot{State: api.Trial, Version: 9, Base: 4}
	for _, c := range []struct {
		m    meta.Meta
		want []record.Rec
	}{
		{meta.New(), []record.Rec{{Kind: 104}, {Kind: 100, Slot: 1}, {Kind: 100, Slot: 2}, {Kind: 110}}},
		{m, []record.Rec{{Kind: 104, Value: 1}, {Kind: 105, Slot: 1}, {Kind: 103, Slot: 2, Value: 9}, {Kind: 111, Slot: 2, Value: 4}, {Kind: 110, Slot: 2}, {Kind: 8, Value: 5}, {Kind: 9, Value: 6}, {Kind: 10, Value: 65}}},
	} {
		if got := meta.Base(c.m); !slices.Equal(got, c.want) {
			t.Error(c.m, got)
		}
	}
}

// base is what the chapter says that Base is of what is right.
func base(m meta.Meta) []record.Rec {
	var l []record.Rec
	for i, s := range m.Slots {
		l = append(l, record.Rec{Kind: 100 + s.State, Slot: i, Value: s.Version}, record.Rec{Kind: 111, Slot: i, Value: s.Base})
	}
	l = append(l, record.Rec{Kind: 110, Slot: m.Active}, record.Rec{Kind: 8, Value: m.Floor}, record.Rec{Kind: 9, Value: m.Cursor}, record.Rec{Kind: 10, Value: m.Intent})
	return slices.DeleteFunc(l, func(r record.Rec) bool {
		return r.Value == 0 && (r.Kind == 111 || r.Kind < 100)
	})
}

// P17.1: the base of what is right tells it, in at most nine records that the log takes; of what isn't right there is nothing.
func TestBase(t *testing.T) {
	metas(func(m meta.Meta) {
		l := meta.Base(m)
		if !right(m) {
			if len(l) != 0 {
				t.Fatal(m, l)
			}
			return
		}
		if !slices.Equal(l, base(m)) || len(l) > 9 {
			t.Fatal(m, l)
		}
		for _, r := range l {
			if !record.Right(r) || r.Kind > 125 {
				t.Fatal(m, r)
			}
		}
		if back, e := meta.All(l...); back != m || e != api.OK {
			t.Fatal(m, back, e)
		}
	})
}

// P17.1, rule 2: a base is new memory.
func TestBaseOwnMemory(t *testing.T) {
	m := meta.New()
	l := meta.Base(m)
	want := slices.Clone(l)
	clear(l)
	if got := meta.Base(m); !slices.Equal(got, want) {
		t.Error(got)
	}
}

// P17.1: all records are done from New on, one by one; of an error the first one is told, and nothing is known.
func TestAll(t *testing.T) {
	if m, e := meta.All(); m != meta.New() || e != api.OK {
		t.Error(m, e)
	}
	d := dice{71}
	ends := map[api.Errno]int{}
	for range 20000 {
		var l []record.Rec
		for range d.below(12) {
			kind := d.of(ours()...)
			if d.below(40) == 0 {
				kind = d.of(others()...)
			}
			l = append(l, record.Rec{Kind: kind, Slot: d.below(3 + d.below(2)), No: d.below(65536), Value: d.of(values()...)})
		}
		want, err := meta.New(), api.OK
		for _, r := range l {
			if want, err = do(want, r); err != api.OK {
				want = meta.Meta{}
				break
			}
		}
		ends[err]++
		given := slices.Clone(l)
		if m, e := meta.All(l...); m != want || e != err {
			t.Fatal(l, m, e, want, err)
		}
		if !slices.Equal(l, given) {
			t.Fatal(l, given)
		}
	}
	for _, e := range []api.Errno{api.OK, api.ErrArg, api.ErrState} {
		if ends[e] < 1000 {
			t.Error(ends)
		}
	}
}

// P17.1: of two errors in a list the first is told, whichever it is.
func TestAllFirst(t *testing.T) {
	fine, wrong, refused := record.Rec{Kind: meta.Write, Slot: 1}, record.Rec{Kind: 14}, record.Rec{Kind: meta.Done}
	for _, c := range []struct {
		l []record.Rec
		e api.Errno
	}{
		{[]record.Rec{fine, wrong, refused, fine}, api.ErrArg},
		{[]record.Rec{fine, refused, wrong, fine}, api.ErrState},
		{[]record.Rec{fine, refused}, api.ErrState},
		{[]record.Rec{wrong}, api.ErrArg},
	} {
		if m, e := meta.All(c.l...); m != (meta.Meta{}) || e != c.e {
			t.Error(c.l, m, e)
		}
	}
}

// P17.1: what is known is a value: what is done of it leaves it.
func TestValue(t *testing.T) {
	m := meta.New()
	x, _ := meta.Do(m, record.Rec{Kind: meta.Write, Slot: 2})
	y, _ := meta.Do(x, record.Rec{Kind: meta.Stage, Slot: 2, Value: 3})
	if m != meta.New() || x.Slots[2].State != api.Writing || y.Slots[2].State != api.Staged {
		t.Error(m, x, y)
	}
}

// asked is a text of the tests' own, of what is right.
func asked(m meta.Meta) string {
	slots := []any{}
	for _, s := range m.Slots {
		word := []string{"empty", "writing", "staged", "trial", "confirmed", "bad"}[s.State]
		if s.Version != 0 {
			word += fmt.Sprintf(":%d", s.Version)
		}
		if s.Base != 0 {
			word += fmt.Sprintf("@%d", s.Base)
		}
		slots = append(slots, word)
	}
	text := fmt.Sprintf("golden=%s a=%s b=%s active=", slots...) + [3]string{"golden", "a", "b"}[m.Active]
	for i, n := range []int{m.Floor, m.Cursor, m.Intent} {
		if n != 0 {
			text += fmt.Sprintf(" %s=%d", [3]string{"floor", "cursor", "intent"}[i], n)
		}
	}
	return text
}

// P17.1: the text of what is right, and Parse leads back; of what isn't right it is "".
func TestText(t *testing.T) {
	metas(func(m meta.Meta) {
		s := meta.Text(m)
		if !right(m) {
			if s != "" {
				t.Fatal(m, s)
			}
			return
		}
		if s != asked(m) {
			t.Fatalf("%v %q", m, s)
		}
		if back, e := meta.Parse(s); back != m || e != api.OK {
			t.Fatal(s, back, e)
		}
	})
}
