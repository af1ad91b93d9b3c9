package oram_test

import (
	"bytes"
	"maps"
	"math"
	"slices"
	"testing"

	"oubliette/api"
	"oubliette/oram"
	"oubliette/pos"
	"oubliette/trace"
)

// model does what the document's words say, on blocks in the clear: those whose bytes are all alike, told by that byte.
type model struct {
	c           api.Config
	tape        []int
	drawn       int
	places      []pos.Place
	fresh, read map[int]bool
	stash       map[int]byte
	live        []int
	cells       map[cell]map[int]byte
	paths, tags []int
	ops         []op
}

// cell is a bucket's cell of a version.
type cell struct{ bucket, version int }

// op is what is read or written, and the blocks of it.
type op struct {
	kind int
	cell
	blocks map[int]byte
}

// modelOf is of partsOf's parts.
func modelOf(c api.Config, leaves ...int) *model {
	m := &model{c: c, tape: leaves, live: make([]int, 2<<c.Height-1), stash: map[int]byte{}, cells: map[cell]map[int]byte{}}
	for id := range c.Blocks {
		m.places = append(m.places, placeOf(c, id))
	}
	m.begin()
	return m
}

func (m *model) begin() { m.fresh, m.read, m.paths = map[int]bool{}, map[int]bool{}, nil }

func (m *model) draw() pos.Place {
	p := pos.Place{Tag: m.drawn}
	if m.drawn < len(m.tape) {
		p.Leaf = m.tape[m.drawn] % (1 << m.c.Height)
	}
	m.drawn++
	return p
}

func (m *model) slots(ids []int) []oram.Slot {
	var l []oram.Slot
	for _, id := range ids {
		p := m.draw()
		if id < 0 || id >= len(m.places) || m.fresh[id] {
			l = append(l, oram.Slot{ID: -1, Place: p})
			continue
		}
		l = append(l, oram.Slot{ID: id, Place: m.places[id]})
		m.places[id], m.fresh[id] = p, true
	}
	return l
}

func (m *model) renew(l []oram.Slot) {
	for _, s := range l {
		p := m.draw()
		if s.ID >= 0 && s.ID < len(m.places) {
			m.places[s.ID], m.fresh[s.ID] = p, true
		}
	}
}

// path climbs from the leaf's bucket to the root, and answers it from there.
func (m *model) path(leaf int) []int {
	path := []int{1<<m.c.Height - 1 + leaf}
	for path[0] != 0 {
		path = slices.Insert(path, 0, (path[0]-1)/2)
	}
	return path
}

// fetch reads until as many operations as are left have been made.
func (m *model) fetch(l []oram.Slot, left int) api.Errno {
	for _, s := range l {
		if s.Leaf < 0 || s.Leaf >= 1<<m.c.Height {
			return api.ErrRange
		}
		m.paths, m.tags = append(m.paths, s.Leaf), append(m.tags, s.Tag)
		for _, b := range m.path(s.Leaf) {
			if left == 0 {
				return api.ErrDown
			}
			left--
			at := cell{b, m.live[b]}
			m.ops = append(m.ops, op{trace.ReadOp, at, m.cells[at]})
			if !m.read[b] {
				maps.Copy(m.stash, m.cells[at])
			}
			m.read[b] = true
		}
	}
	return api.OK
}

func (m *model) data(id int) (byte, bool) {
	c, has := m.stash[id]
	return c, has || m.fresh[id]
}

func (m *model) put(id int, c byte) bool {
	if m.fresh[id] {
		m.stash[id] = c
	}
	return m.fresh[id]
}

// planned is where the stash's blocks go: on each level from the deepest on, to each bucket that was read, the least one that is left.
func (m *model) planned() (map[int]map[int]byte, map[int]byte) {
	left, fills := maps.Clone(m.stash), map[int]map[int]byte{}
	for level := m.c.Height; level >= 0; level-- {
		for b := 1<<level - 1; b < 2<<level-1; b++ {
			if !slices.ContainsFunc(m.paths, func(leaf int) bool { return m.path(leaf)[level] == b }) {
				continue
			}
			fills[b] = map[int]byte{}
			for _, id := range slices.Sorted(maps.Keys(left)) {
				if len(fills[b]) < m.c.Z && m.path(m.places[id].Leaf)[level] == b {
					fills[b][id] = left[id]
					delete(left, id)
				}
			}
		}
	}
	return fills, left
}

// evict writes until as many operations as are left have been made.
func (m *model) evict(left int) api.Errno {
	fills, stay := m.planned()
	if len(stay) > m.c.Stash {
		return api.ErrHalted
	}
	written := maps.Clone(m.cells)
	for _, leaf := range m.paths {
		for _, b := range m.path(leaf) {
			if left == 0 {
				return api.ErrDown
			}
			left--
			at := cell{b, 1 - m.live[b]}
			m.ops = append(m.ops, op{trace.WriteOp, at, fills[b]})
			written[at] = fills[b]
		}
	}
	m.stash, m.cells = stay, written
	for b := range fills {
		m.live[b] = 1 - m.live[b]
	}
	m.begin()
	return api.OK
}

// wantModel holds all that can be told of o against the model.
func wantModel(t *testing.T, p oram.Parts, o *oram.Oram, m *model) {
	t.Helper()
	if !slices.Equal(o.All(), m.places) || !slices.Equal(o.Paths(), m.paths) || !slices.Equal(o.Tags(), m.tags) || p.Leaves.Drawn() != m.drawn {
		t.Fatalf("places %v, paths %v, tags %v; want %v, %v, %v", o.All(), o.Paths(), o.Tags(), m.places, m.paths, m.tags)
	}
	if !maps.Equal(held(o.Stash().All()), m.stash) {
		t.Fatalf("stash %v; want %v", held(o.Stash().All()), m.stash)
	}
	for id := -2; id < m.c.Blocks+2; id++ {
		want, has := m.data(id)
		got, ok := o.Data(id)
		if ok != has || has && !bytes.Equal(got, data(want)) || !has && len(got) > 0 || o.Fresh(id) != m.fresh[id] {
			t.Fatalf("block %d: %v, %v, fresh %v; want %d, %v, %v", id, got, ok, o.Fresh(id), want, has, m.fresh[id])
		}
	}
	for b, live := range m.live {
		if o.Vers().Live(b) != live {
			t.Fatalf("bucket %d: live is %d", b, 1-live)
		}
	}
}

// wantTrace holds what the store saw against the model's operations, and the cells that were written against nonces one behind the other.
func wantTrace(t *testing.T, p oram.Parts, m *model) {
	t.Helper()
	ops := p.Rec.Trace()
	if len(ops) != len(m.ops) {
		t.Fatalf("%d operations; want %d", len(ops), len(m.ops))
	}
	for i, o := range ops {
		want := m.ops[i]
		if o.Kind != want.kind || o.Addr != p.Lay.Bucket(want.bucket, want.version) || !maps.Equal(blocksOf(t, p, o.Data), want.blocks) {
			t.Fatalf("operation %d: %d at %d: %v; want %v", i, o.Kind, o.Addr, blocksOf(t, p, o.Data), want)
		}
	}
}

// dice tells numbers that are always the same.
type dice uint32

func (d *dice) below(n int) int {
	*d = *d*1664525 + 1013904223
	return int(*d>>8) % n
}

func (d *dice) leaves(n int) []int {
	l := make([]int, n)
	for i := range l {
		l[i] = d.below(1 << api.MaxHeight)
	}
	return l
}

func (d *dice) config() api.Config {
	return config(d.below(4), 1+d.below(api.MaxZ), 1+d.below(12), d.below(14))
}

// ids are some of the map's, of others, and of one twice.
func (d *dice) ids(c api.Config) []int {
	l := make([]int, d.below(5))
	for i := range l {
		l[i] = d.below(c.Blocks+2) - 1
	}
	return l
}

// P14.2 to P14.5, all in one

// Whatever is called in whatever order: Puts ahead of the Fetch, Slots that are never fetched, or twice, or made by hand.
func TestManySteps(t *testing.T) {
	d := dice(14)
	halts, wrongs := 0, 0
	for range 60 {
		c, leaves := d.config(), d.leaves(300)
		p, m := partsOf(t, c, leaves...), modelOf(c, leaves...)
		o := made(t, p)
		var slots []oram.Slot
		for range 120 {
			switch d.below(8) {
			case 0, 1:
				ids := d.ids(c)
				slots = o.Slots(ids...)
				if want := m.slots(ids); !slices.Equal(slots, want) {
					t.Fatalf("Slots(%v): %v; want %v", ids, slots, want)
				}
			case 2, 3:
				if d.below(6) == 0 {
					slots = append(slots, oram.Slot{ID: d.below(99) - 9, Place: pos.Place{Leaf: d.below(1<<c.Height+2) - 1, Tag: d.below(9) - 4}})
				}
				got, want := o.Fetch(slots...), m.fetch(slots, math.MaxInt)
				if got != want {
					t.Fatalf("Fetch(%v): %d; want %d", slots, got, want)
				}
				wrongs += int(want)
			case 4:
				o.Renew(slots...)
				m.renew(slots)
			case 5, 6:
				id, v := d.below(c.Blocks+2)-1, byte(d.below(256))
				if got, want := o.Put(id, data(v)), m.put(id, v); got != want {
					t.Fatalf("Put(%d): %v", id, got)
				}
			case 7:
				got, want := o.Evict(), m.evict(math.MaxInt)
				if got != want {
					t.Fatalf("Evict(): %d; want %d", got, want)
				}
				if want == api.ErrHalted {
					halts++
				}
			}
			wantModel(t, p, o, m)
		}
		wantTrace(t, p, m)
	}
	if halts < 20 || wrongs < 20 {
		t.Errorf("not all was tried: %d, %d", halts, wrongs)
	}
}

// The store falls at each operation of an epoch in turn: what was read stays, what was written counts for nothing, and the same Oram can go on over the store.
func TestFallsAtEachOperation(t *testing.T) {
	c := config(2, 1, 6, 6)
	leaves := []int{3, 1, 1, 2, 0, 3, 2, 2, 1, 0, 3, 1, 0, 2}
	for fall := 1; fall <= 18; fall++ {
		p, m := partsOf(t, c, leaves...), modelOf(c, leaves...)
		o := made(t, p)
		both := func(got, want api.Errno) {
			t.Helper()
			if got != want {
				t.Fatalf("fall %d: %d; want %d", fall, got, want)
			}
			wantModel(t, p, o, m)
		}
		slots := o.Slots(0, 1, 2, 3)
		m.slots([]int{0, 1, 2, 3})
		for id := range slots {
			both(o.Fetch(slots[id]), m.fetch(slots[id:id+1], math.MaxInt))
			o.Put(id, data(byte(10+id)))
			m.put(id, byte(10+id))
		}
		both(o.Evict(), m.evict(math.MaxInt))
		// What was written so far outlasts the fall.
		p.Rec.Store.Sync()
		p.Rec.Arm(fall)
		slots = o.Slots(4, 0, 1)
		m.slots([]int{4, 0, 1})
		left := fall - 1
		both(o.Fetch(slots...), m.fetch(slots, left))
		if fall > 9 {
			o.Put(0, data(77))
			m.put(0, 77)
			both(o.Evict(), m.evict(left-9))
		}
		if p.Rec.Up() {
			t.Fatalf("fall %d: up", fall)
		}
		both(o.Fetch(slots[:1]...), m.fetch(slots[:1], 0))
		both(o.Evict(), m.evict(0))
		p.Rec.Reboot()
		both(o.Fetch(slots...), m.fetch(slots, math.MaxInt))
		both(o.Evict(), m.evict(math.MaxInt))
		for id := range 4 {
			slots = o.Slots(id)
			m.slots([]int{id})
			both(o.Fetch(slots...), m.fetch(slots, math.MaxInt))
		}
		wantTrace(t, p, m)
	}
}

// P14.8

// wantOnePlace asks that each block that was Put is in the stash, or in one live bucket on its leaf's path, and nowhere else.
func wantOnePlace(t *testing.T, p oram.Parts, o *oram.Oram, want map[int]byte) {
	t.Helper()
	found := held(o.Stash().All())
	for b := range o.Vers().Len() {
		for id, v := range blocksOf(t, p, p.Rec.Peek(p.Lay.Bucket(b, o.Vers().Live(b)))) {
			if _, twice := found[id]; twice {
				t.Fatalf("block %d is at two places", id)
			}
			found[id] = v
			at, _ := o.Get(id)
			if m := (&model{c: p.Lay.Config}); !slices.Contains(m.path(at.Leaf), b) {
				t.Fatalf("block %d of leaf %d is in bucket %d", id, at.Leaf, b)
			}
		}
	}
	if !maps.Equal(found, want) {
		t.Fatalf("blocks %v; want %v", found, want)
	}
}

// Each block is used as a proxy does: its Slot is fetched ahead of its Data and its Put.
func TestEachBlockIsAtOnePlace(t *testing.T) {
	d := dice(8)
	for range 60 {
		c := d.config()
		c.Stash = c.Blocks
		p := partsOf(t, c, d.leaves(200)...)
		o := made(t, p)
		want := map[int]byte{}
		for range 40 {
			for range 1 + d.below(3) {
				ids := d.ids(c)
				if e := o.Fetch(o.Slots(ids...)...); e != api.OK {
					t.Fatalf("Fetch: %d", e)
				}
				for _, id := range ids {
					if got, ok := o.Data(id); ok != (id >= 0 && id < c.Blocks) || ok && !bytes.Equal(got, data(want[id])) {
						t.Fatalf("block %d: %v; want %d", id, got, want[id])
					}
					if v := byte(d.below(256)); v%2 == 0 && o.Put(id, data(v)) {
						want[id] = v
					}
				}
			}
			if e := o.Evict(); e != api.OK {
				t.Fatalf("Evict: %d", e)
			}
			wantOnePlace(t, p, o, want)
		}
	}
}
