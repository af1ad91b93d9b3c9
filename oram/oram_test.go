package oram_test

import (
	"bytes"
	"maps"
	"math"
	"slices"
	"testing"

	"oubliette/api"
	"oubliette/bucket"
	"oubliette/cells"
	"oubliette/lay"
	"oubliette/nonce"
	"oubliette/oram"
	"oubliette/pos"
	"oubliette/seal"
	"oubliette/stash"
	"oubliette/tape"
	"oubliette/trace"
	"oubliette/vers"
)

// config is of such a tree, so many blocks and such a stash; all else is as small as it may be.
func config(height, z, blocks, most int) api.Config {
	return api.Config{Height: height, Z: z, Blocks: blocks, Rounds: 1, Read: 1, Write: 1, Stash: most, Period: 1, Queue: 1, Txs: 1, Tables: [][]int{{api.Int}}}
}

func at(leaf, tag int) pos.Place { return pos.Place{Leaf: leaf, Tag: tag} }

// placeOf is where partsOf lets a block begin.
func placeOf(c api.Config, id int) pos.Place { return at(id%(1<<c.Height), 1000+id) }

// partsOf makes parts that fit, over a new store, with these leaves to draw and pads that are not zeros.
func partsOf(t *testing.T, c api.Config, leaves ...int) oram.Parts {
	t.Helper()
	l, e := lay.Of(c)
	if e != api.OK {
		t.Fatalf("lay.Of(%v): %d", c, e)
	}
	pads := make([]byte, 2000)
	for i := range pads {
		pads[i] = byte(i*i + 7*i + 1)
	}
	var places []pos.Place
	for id := range c.Blocks {
		places = append(places, placeOf(c, id))
	}
	return oram.Parts{
		Lay: l, Rec: trace.Over(store(t, l.Total(), l.Cell())), Oracle: oracle(t, l.Payload(), pads...), Source: nonce.From(1),
		Leaves: tape.NewLeaves(leaves...), Map: pos.New(places...), Stash: stash.New(), Vers: vers.New(2<<c.Height - 1),
	}
}

func store(t *testing.T, n, size int) *cells.Store {
	t.Helper()
	s, e := cells.New(n, size)
	if e != api.OK {
		t.Fatalf("cells.New(%d, %d): %d", n, size, e)
	}
	return s
}

func oracle(t *testing.T, length int, pads ...byte) *seal.Oracle {
	t.Helper()
	o, e := seal.New(tape.NewPads(pads...), length)
	if e != api.OK {
		t.Fatalf("seal.New(%d): %d", length, e)
	}
	return o
}

func made(t *testing.T, p oram.Parts) *oram.Oram {
	t.Helper()
	o, e := oram.New(p)
	if o == nil || e != api.OK {
		t.Fatalf("New: %v, %d", o, e)
	}
	return o
}

// data is a row's bytes, all alike.
func data(c byte) []byte { return bytes.Repeat([]byte{c}, api.RowLen) }

func block(id int, c byte) bucket.Block { return bucket.Block{ID: id, Data: data(c)} }

// held tells the first byte of each block.
func held(l []bucket.Block) map[int]byte {
	m := map[int]byte{}
	for _, b := range l {
		m[b.ID] = b.Data[0]
	}
	return m
}

// blocksOf opens a cell.
func blocksOf(t *testing.T, p oram.Parts, cell []byte) map[int]byte {
	t.Helper()
	text, e := p.Oracle.Open(cell)
	l, e2 := bucket.Decode(p.Lay.Z, text)
	if e != api.OK || e2 != api.OK {
		t.Fatalf("a cell that is none: %d, %d", e, e2)
	}
	return held(l)
}

// unused is a nonce of generation 9 that was not sealed yet.
func unused(p oram.Parts) nonce.Nonce {
	n := nonce.Nonce{Gen: 9}
	for p.Oracle.Known(n) {
		n.Count++
	}
	return n
}

// sealed is the cell of a text.
func sealed(t *testing.T, p oram.Parts, text []byte) []byte {
	t.Helper()
	c, e := p.Oracle.Seal(unused(p), text)
	if e != api.OK {
		t.Fatalf("Seal: %d", e)
	}
	return c
}

// lie lets these blocks lie in a bucket's cell; it is no operation of the trace.
func lie(t *testing.T, p oram.Parts, b, version int, l ...bucket.Block) {
	t.Helper()
	text, e := bucket.Encode(p.Lay.Z, l...)
	if e != api.OK {
		t.Fatalf("Encode: %d", e)
	}
	p.Rec.Store.Write(p.Lay.Bucket(b, version), sealed(t, p, text))
}

func want[T comparable](t *testing.T, what string, got, want T) {
	t.Helper()
	if got != want {
		t.Errorf("%s: %v; want %v", what, got, want)
	}
}

func wantList[T comparable](t *testing.T, what string, got []T, want ...T) {
	t.Helper()
	if !slices.Equal(got, want) {
		t.Errorf("%s: %v; want %v", what, got, want)
	}
}

// wantStash asks for these ids, each with the byte behind it.
func wantStash(t *testing.T, o *oram.Oram, l ...int) {
	t.Helper()
	m := map[int]byte{}
	for i := 0; i < len(l); i += 2 {
		m[l[i]] = byte(l[i+1])
	}
	if got := held(o.Stash().All()); !maps.Equal(got, m) {
		t.Errorf("stash: %v; want %v", got, m)
	}
}

func wantData(t *testing.T, o *oram.Oram, id int, want []byte) {
	t.Helper()
	if got, ok := o.Data(id); !ok || !bytes.Equal(got, want) {
		t.Errorf("Data(%d): %v, %v; want %v", id, got, ok, want)
	}
}

func wantNoData(t *testing.T, o *oram.Oram, id int) {
	t.Helper()
	if got, ok := o.Data(id); ok || len(got) > 0 {
		t.Errorf("Data(%d): %v, %v", id, got, ok)
	}
}

func wantFresh(t *testing.T, p oram.Parts, o *oram.Oram, ids ...int) {
	t.Helper()
	for id := -2; id < p.Lay.Blocks+2; id++ {
		if got := o.Fresh(id); got != slices.Contains(ids, id) {
			t.Errorf("Fresh(%d): %v", id, got)
		}
	}
}

// wantOps asks for operations of one kind, from so many on, at buckets' cells of these versions, by turns.
func wantOps(t *testing.T, p oram.Parts, from, kind int, l ...int) {
	t.Helper()
	ops := p.Rec.Trace()[from:]
	if len(ops) != len(l)/2 {
		t.Fatalf("%d operations; want %d", len(ops), len(l)/2)
	}
	for i, o := range ops {
		if o.Kind != kind || o.Addr != p.Lay.Bucket(l[2*i], l[2*i+1]) {
			t.Errorf("operation %d: %d at %d; want %d at bucket %d, %d", from+i, o.Kind, o.Addr, kind, l[2*i], l[2*i+1])
		}
	}
}

// Ids that no map has.
var wrongIDs = []int{-1, -2, -64, 64, 65, 255, 256, 1 << 32, 1<<32 + 1, -1 << 32, math.MinInt, math.MinInt + 1, math.MaxInt}

// wrongLeaves are no leaves of this height, those at its ends first.
func wrongLeaves(height int) []int {
	return []int{-1, 1 << height, 1<<height + 1, -2, 2 << height, 127, 256, 1 << 32, math.MinInt, math.MinInt + 1, math.MaxInt}
}

// P14.1

func TestNewKeepsAndUsesItsParts(t *testing.T) {
	p := partsOf(t, config(2, 1, 4, 4), 1, 2, 3)
	lie(t, p, 0, 1, block(2, 7))
	p.Vers.Flip(0)
	o := made(t, p)
	if o.Map != p.Map || o.Stash() != p.Stash || o.Vers() != p.Vers {
		t.Error("the parts are others")
	}
	ops, pads := p.Rec.Ops(), p.Oracle.Drawn()
	want(t, "Mark", p.Rec.Mark(), 0)
	want(t, "leaves drawn", p.Leaves.Drawn(), 0)
	want(t, "Paths and Tags", len(o.Paths())+len(o.Tags()), 0)
	want(t, "Changes", len(o.Changes()), 0)
	wantFresh(t, p, o)
	want(t, "Fetch", o.Fetch(o.Slots(2)...), api.OK)
	want(t, "Evict", o.Evict(), api.OK)
	want(t, "leaves drawn", p.Leaves.Drawn(), 1)
	want(t, "nonces", p.Source.Count, 3)
	want(t, "pads drawn", p.Oracle.Drawn(), pads+3*38)
	want(t, "operations", p.Rec.Ops(), ops+6)
	want(t, "Live(0)", p.Vers.Live(0), 0)
	want(t, "Map", len(p.Map.Changes()), 1)
	want(t, "Most", p.Stash.Most(), 1)
}

func TestNewWithinBounds(t *testing.T) {
	greatest := api.Config{Height: 6, Z: 4, Blocks: 64, Rounds: 4, Read: 8, Write: 8, Stash: 64, Period: 8, Queue: 16, Txs: 8, Tables: [][]int{{1, 2, 1, 2}, {2, 2, 2, 2}, {1, 1, 1, 1}, {2, 1, 2, 1}}}
	for _, c := range []api.Config{config(0, 1, 1, 0), config(2, 2, 5, 3), greatest} {
		p := partsOf(t, c)
		made(t, p)
		p.Rec = trace.Over(store(t, p.Lay.Total()+1, p.Lay.Cell()))
		made(t, p)
		// The map's last block, at the last leaf, with whatever tag; more blocks than the stash may have behind an Evict.
		last := 1<<c.Height - 1
		p.Map.Set(c.Blocks-1, at(last, math.MaxInt))
		for id := range c.Blocks {
			p.Stash.Put(block(id, 1))
		}
		made(t, p)
	}
	p := partsOf(t, config(0, 1, 1, 0))
	p.Map = pos.New(at(0, -5))
	made(t, p)
}

func TestNewOfPartsThatAreNil(t *testing.T) {
	for i, without := range []func(p *oram.Parts){
		func(p *oram.Parts) { p.Rec = nil },
		func(p *oram.Parts) { p.Rec = trace.Over(nil) },
		func(p *oram.Parts) { p.Oracle = nil },
		func(p *oram.Parts) { p.Source = nil },
		func(p *oram.Parts) { p.Leaves = nil },
		func(p *oram.Parts) { p.Map = nil },
		func(p *oram.Parts) { p.Stash = nil },
		func(p *oram.Parts) { p.Vers = nil },
		func(p *oram.Parts) { *p = oram.Parts{} },
		func(p *oram.Parts) { *p = oram.Parts{Lay: p.Lay} },
		func(p *oram.Parts) { p.Lay = lay.Lay{} },
	} {
		p := partsOf(t, config(2, 1, 4, 4))
		without(&p)
		wantNoOram(t, i, p)
	}
}

func wantNoOram(t *testing.T, i int, p oram.Parts) {
	t.Helper()
	if o, e := oram.New(p); o != nil || e != api.ErrRange {
		t.Errorf("case %d: %v, %d", i, o, e)
	}
}

func TestNewOfPartsThatDoNotFit(t *testing.T) {
	fit := partsOf(t, config(2, 1, 4, 4))
	total, size, length := fit.Lay.Total(), fit.Lay.Cell(), fit.Lay.Payload()
	places := func(l ...pos.Place) func(p *oram.Parts) { return func(p *oram.Parts) { p.Map = pos.New(l...) } }
	cellsOf := func(n, size int) func(p *oram.Parts) {
		return func(p *oram.Parts) { p.Rec = trace.Over(store(t, n, size)) }
	}
	oracleOf := func(n int) func(p *oram.Parts) { return func(p *oram.Parts) { p.Oracle = oracle(t, n) } }
	stashOf := func(l ...bucket.Block) func(p *oram.Parts) { return func(p *oram.Parts) { p.Stash = stash.New(l...) } }
	for i, f := range []func(p *oram.Parts){
		func(p *oram.Parts) { p.Lay.Height = -1 }, func(p *oram.Parts) { p.Lay.Height = 7 }, func(p *oram.Parts) { p.Lay.Height = 1 }, func(p *oram.Parts) { p.Lay.Height = 3 },
		func(p *oram.Parts) { p.Lay.Z = 0 }, func(p *oram.Parts) { p.Lay.Z = 2 }, func(p *oram.Parts) { p.Lay.Z = 5 },
		func(p *oram.Parts) { p.Lay.Blocks = 0 }, func(p *oram.Parts) { p.Lay.Blocks = 3 }, func(p *oram.Parts) { p.Lay.Blocks = 5 },
		func(p *oram.Parts) { p.Lay.Stash = -1 }, func(p *oram.Parts) { p.Lay.Stash = 65 }, func(p *oram.Parts) { p.Lay.Rounds = 0 }, func(p *oram.Parts) { p.Lay.Read = 9 },
		func(p *oram.Parts) { p.Lay.Write = 0 }, func(p *oram.Parts) { p.Lay.Write = 2 }, func(p *oram.Parts) { p.Lay.Period = 0 }, func(p *oram.Parts) { p.Lay.Queue = 0 },
		func(p *oram.Parts) { p.Lay.Txs = 9 }, func(p *oram.Parts) { p.Lay.Tables = nil }, func(p *oram.Parts) { p.Lay.Tables = [][]int{{3}} },
		oracleOf(length - 1), oracleOf(length + 1), oracleOf(2 * length),
		cellsOf(total-1, size), cellsOf(1, size), cellsOf(total, size-1), cellsOf(total, size+1), cellsOf(total, length),
		places(), places(at(0, 0), at(0, 0), at(0, 0)), places(at(0, 0), at(0, 0), at(0, 0), at(0, 0), at(0, 0)),
		places(at(4, 0), at(0, 0), at(0, 0), at(0, 0)), places(at(0, 0), at(0, 0), at(0, 0), at(4, 0)), places(at(0, 0), at(-1, 0), at(0, 0), at(0, 0)), places(at(0, 0), at(math.MinInt, 0), at(math.MaxInt, 0), at(0, 0)),
		func(p *oram.Parts) { p.Vers = vers.New(6) }, func(p *oram.Parts) { p.Vers = vers.New(8) }, func(p *oram.Parts) { p.Vers = vers.New(1) }, func(p *oram.Parts) { p.Vers = vers.New(127) },
		stashOf(block(4, 1)), stashOf(block(0, 1), block(63, 1), block(3, 1)),
	} {
		p := partsOf(t, config(2, 1, 4, 4))
		f(&p)
		wantNoOram(t, i, p)
	}
}

// P14.2

func TestSlotsAnswerWhereABlockIsAndMoveIt(t *testing.T) {
	p := partsOf(t, config(2, 1, 4, 4), 7, 0, 1)
	o := made(t, p)
	wantList(t, "Slots", o.Slots(1), oram.Slot{ID: 1, Place: at(1, 1001)})
	wantList(t, "Slots", o.Slots(3, 0), oram.Slot{ID: 3, Place: at(3, 1003)}, oram.Slot{ID: 0, Place: at(0, 1000)})
	wantList(t, "All", o.All(), at(1, 2), at(3, 0), at(2, 1002), at(0, 1))
	wantList(t, "Changes", o.Changes(), pos.Change{ID: 0, Place: at(1, 2)}, pos.Change{ID: 1, Place: at(3, 0)}, pos.Change{ID: 3, Place: at(0, 1)})
	wantFresh(t, p, o, 0, 1, 3)
	want(t, "operations", p.Rec.Ops(), 0)
	want(t, "Paths and Tags", len(o.Paths())+len(o.Tags()), 0)
}

func TestSlotsOfOthersAreWhatIsDrawn(t *testing.T) {
	p := partsOf(t, config(2, 1, 4, 4), 3, 2, 1, 0, 3, 1)
	o := made(t, p)
	wantList(t, "Slots", o.Slots(-1, 2, 2, 4), oram.Slot{ID: -1, Place: at(3, 0)}, oram.Slot{ID: 2, Place: at(2, 1002)}, oram.Slot{ID: -1, Place: at(1, 2)}, oram.Slot{ID: -1, Place: at(0, 3)})
	wantList(t, "Slots", o.Slots(2), oram.Slot{ID: -1, Place: at(3, 4)})
	wantList(t, "All", o.All(), at(0, 1000), at(1, 1001), at(2, 1), at(3, 1003))
	wantFresh(t, p, o, 2)
}

func TestSlotsOfWhatTheMapHasNot(t *testing.T) {
	p := partsOf(t, config(2, 1, 64, 64), 1, 2)
	o := made(t, p)
	for i, id := range wrongIDs {
		wantList(t, "Slots", o.Slots(id), oram.Slot{ID: -1, Place: at([]int{1, 2, 0}[min(i, 2)], i)})
		want(t, "Fresh", o.Fresh(id), false)
	}
	want(t, "Changes", len(o.Changes()), 0)
	wantFresh(t, p, o)
}

func TestSlotsOfNothingDrawNothing(t *testing.T) {
	p := partsOf(t, config(2, 1, 4, 4), 1)
	o := made(t, p)
	want(t, "Slots", len(o.Slots())+len(o.Slots([]int{}...)), 0)
	want(t, "leaves drawn", p.Leaves.Drawn(), 0)
}

func TestSlotsDrawLeavesOfTheHeight(t *testing.T) {
	for height := range api.MaxHeight + 1 {
		p := partsOf(t, config(height, 1, 2, 2), 127, 126, -1)
		o := made(t, p)
		n := 1 << height
		wantList(t, "Slots", o.Slots(-1, 0, -1, -1), oram.Slot{ID: -1, Place: at(127%n, 0)}, oram.Slot{ID: 0, Place: at(0, 1000)}, oram.Slot{ID: -1, Place: at(0, 2)}, oram.Slot{ID: -1, Place: at(0, 3)})
		wantList(t, "All", o.All(), at(126%n, 1), placeOf(p.Lay.Config, 1))
	}
}

func TestABlockIsMetAnewInEachEpoch(t *testing.T) {
	p := partsOf(t, config(1, 1, 2, 2), 1, 0, 1, 0)
	o := made(t, p)
	o.Slots(0)
	o.Renew(oram.Slot{ID: 1})
	wantFresh(t, p, o, 0, 1)
	want(t, "Evict", o.Evict(), api.OK)
	wantFresh(t, p, o)
	wantList(t, "Slots", o.Slots(1, 0), oram.Slot{ID: 1, Place: at(0, 1)}, oram.Slot{ID: 0, Place: at(1, 0)})
	wantFresh(t, p, o, 0, 1)
}

// What was moved by the map's own calls is not met by that.
func TestSlotsAreOfTheMapAsItIs(t *testing.T) {
	p := partsOf(t, config(2, 1, 4, 4), 1, 2, 3)
	o := made(t, p)
	o.Set(2, at(3, 50))
	o.Apply(pos.Change{ID: 1, Place: at(0, 60)})
	wantFresh(t, p, o)
	wantList(t, "Slots", o.Slots(2, 1), oram.Slot{ID: 2, Place: at(3, 50)}, oram.Slot{ID: 1, Place: at(0, 60)})
}

// P14.3

func TestExample(t *testing.T) {
	p := partsOf(t, config(2, 1, 4, 4), 2)
	o := made(t, p)
	l := o.Slots(-1)
	wantList(t, "Slots", l, oram.Slot{ID: -1, Place: at(2, 0)})
	want(t, "Fetch", o.Fetch(l...), api.OK)
	want(t, "leaves drawn", p.Leaves.Drawn(), 1)
	wantOps(t, p, 0, trace.ReadOp, 0, 0, 2, 0, 5, 0)
}

func TestFetchReadsLiveCellsFromTheRoot(t *testing.T) {
	p := partsOf(t, config(3, 1, 4, 4))
	p.Vers.Flip(1, 4, 0, 12)
	o := made(t, p)
	want(t, "Fetch", o.Fetch(oram.Slot{ID: 3, Place: at(2, 9)}, oram.Slot{ID: -1, Place: at(5, 4)}), api.OK)
	wantOps(t, p, 0, trace.ReadOp, 0, 1, 1, 1, 4, 1, 9, 0, 0, 1, 2, 0, 5, 0, 12, 1)
	wantList(t, "Paths", o.Paths(), 2, 5)
	wantList(t, "Tags", o.Tags(), 9, 4)
	want(t, "leaves drawn", p.Leaves.Drawn(), 0)
	wantFresh(t, p, o)
	want(t, "Fetch", o.Fetch(), api.OK)
	want(t, "Mark", p.Rec.Mark(), 8)
}

func TestFetchOfEveryLeaf(t *testing.T) {
	for height := range api.MaxHeight + 1 {
		p := partsOf(t, config(height, 1, 1, 1))
		o := made(t, p)
		m := modelOf(p.Lay.Config)
		var reads, leaves []int
		for leaf := range 1 << height {
			want(t, "Fetch", o.Fetch(oram.Slot{Place: at(leaf, 0)}), api.OK)
			for _, b := range m.path(leaf) {
				reads = append(reads, b, 0)
			}
			leaves = append(leaves, leaf)
		}
		wantOps(t, p, 0, trace.ReadOp, reads...)
		wantList(t, "Paths", o.Paths(), leaves...)
	}
}

func TestFetchPutsAllBlocksOfThePath(t *testing.T) {
	p := partsOf(t, config(2, 3, 10, 10))
	lie(t, p, 0, 0, block(9, 1), block(0, 2), block(4, 3))
	lie(t, p, 1, 1, block(7, 4))
	lie(t, p, 1, 0, block(8, 5))
	lie(t, p, 4, 0, block(3, 6), block(1, 7))
	lie(t, p, 2, 0, block(2, 8))
	p.Vers.Flip(1)
	o := made(t, p)
	p.Stash.Put(block(5, 50))
	p.Stash.Put(block(4, 51))
	// Whosever the Slot is, all that lies on its path is Put, in place of what the stash has of it.
	want(t, "Fetch", o.Fetch(oram.Slot{ID: -1, Place: at(1, 0)}), api.OK)
	wantStash(t, o, 9, 1, 0, 2, 4, 3, 7, 4, 3, 6, 1, 7, 5, 50)
}

func TestFetchPutsABucketsBlocksOnceAnEpoch(t *testing.T) {
	p := partsOf(t, config(1, 1, 3, 3))
	lie(t, p, 0, 0, block(0, 1))
	lie(t, p, 1, 0, block(1, 2))
	lie(t, p, 2, 0, block(2, 3))
	o := made(t, p)
	o.Slots(0, 1)
	want(t, "Fetch", o.Fetch(oram.Slot{Place: at(0, 0)}), api.OK)
	o.Put(0, data(10))
	p.Stash.Take(1)
	want(t, "Fetch", o.Fetch(oram.Slot{Place: at(1, 0)}, oram.Slot{Place: at(0, 0)}), api.OK)
	wantStash(t, o, 0, 10, 2, 3)
	wantOps(t, p, 0, trace.ReadOp, 0, 0, 1, 0, 0, 0, 2, 0, 0, 0, 1, 0)
	want(t, "Evict", o.Evict(), api.OK)
	wantStash(t, o)
	// In the next epoch they are Put again.
	want(t, "Fetch", o.Fetch(oram.Slot{Place: at(0, 0)}), api.OK)
	wantStash(t, o, 0, 10, 2, 3)
}

func TestFetchOfWhatIsNoLeaf(t *testing.T) {
	for height := range api.MaxHeight + 1 {
		for _, leaf := range wrongLeaves(height) {
			if leaf >= 0 && leaf < 1<<height {
				continue
			}
			p := partsOf(t, config(height, 1, 4, 4))
			o := made(t, p)
			last := 1<<height - 1
			want(t, "Fetch", o.Fetch(oram.Slot{ID: 2, Place: at(leaf, 7)}), api.ErrRange)
			want(t, "operations", p.Rec.Ops(), 0)
			want(t, "Paths and Tags", len(o.Paths())+len(o.Tags()), 0)
			want(t, "Fetch", o.Fetch(oram.Slot{Place: at(last, 5)}, oram.Slot{Place: at(leaf, 7)}, oram.Slot{Place: at(0, 8)}), api.ErrRange)
			want(t, "operations", p.Rec.Ops(), height+1)
			wantList(t, "Paths", o.Paths(), last)
			wantList(t, "Tags", o.Tags(), 5)
		}
	}
}

func TestFetchAsksNothingOfIDsAndTags(t *testing.T) {
	p := partsOf(t, config(1, 1, 2, 2))
	o := made(t, p)
	var tags []int
	for _, n := range wrongIDs {
		want(t, "Fetch", o.Fetch(oram.Slot{ID: n, Place: at(1, n)}), api.OK)
		tags = append(tags, n)
	}
	wantList(t, "Tags", o.Tags(), tags...)
	wantFresh(t, p, o)
	wantStash(t, o)
}

func TestFetchOfAStoreThatIsDown(t *testing.T) {
	for fall := 1; fall <= 6; fall++ {
		p := partsOf(t, config(2, 1, 9, 9))
		lie(t, p, 0, 0, block(0, 1))
		lie(t, p, 1, 0, block(1, 2))
		lie(t, p, 3, 0, block(2, 3))
		lie(t, p, 2, 0, block(3, 4))
		lie(t, p, 6, 0, block(4, 5))
		p.Rec.Store.Sync()
		o := made(t, p)
		p.Rec.Arm(fall)
		want(t, "Fetch", o.Fetch(oram.Slot{Place: at(0, 5)}, oram.Slot{Place: at(3, 6)}, oram.Slot{Place: at(1, 7)}), api.ErrDown)
		want(t, "Mark", p.Rec.Mark(), fall-1)
		// Behind the fourth, which reads the root again, it has three of the first path and none yet of the second.
		wantStash(t, o, []int{0, 1, 1, 2, 2, 3, 3, 4}[:2*[]int{0, 1, 2, 3, 3, 4}[fall-1]]...)
		if fall <= 3 {
			wantList(t, "Paths", o.Paths(), 0)
			wantList(t, "Tags", o.Tags(), 5)
		} else {
			wantList(t, "Paths", o.Paths(), 0, 3)
			wantList(t, "Tags", o.Tags(), 5, 6)
		}
		want(t, "Fetch", o.Fetch(oram.Slot{Place: at(1, 8)}), api.ErrDown)
		want(t, "Tags", o.Tags()[len(o.Tags())-1], 8)
		// What was not read yet is Put by the first Fetch that reads it.
		p.Rec.Reboot()
		want(t, "Fetch", o.Fetch(oram.Slot{Place: at(3, 9)}, oram.Slot{Place: at(0, 9)}), api.OK)
		wantStash(t, o, 0, 1, 1, 2, 2, 3, 3, 4, 4, 5)
	}
}

// broken are cells that are none: of a nonce that may not be, or that was never sealed, of no blocks' text, and of blocks that the map has not, or one twice.
func broken(t *testing.T, p oram.Parts) [][]byte {
	t.Helper()
	text := func(l ...byte) []byte {
		b := make([]byte, p.Lay.Payload())
		for i, id := range l {
			b[38*i] = id
		}
		return sealed(t, p, b)
	}
	trailing := make([]byte, p.Lay.Payload())
	trailing[len(trailing)-1] = 1
	return [][]byte{
		bytes.Repeat([]byte{255}, p.Lay.Cell()),
		append(nonce.Nonce{Gen: 1, Count: nonce.Most}.Bytes(), make([]byte, p.Lay.Payload())...),
		append(nonce.Nonce{Gen: nonce.Most}.Bytes(), make([]byte, p.Lay.Payload())...),
		text(65), text(255), text(1, 66), text(0, 1), text(2, 2), sealed(t, p, trailing),
		text(byte(p.Lay.Blocks + 1)), text(1, byte(p.Lay.Blocks+1)), text(byte(p.Lay.Blocks+1), 1), text(64),
	}
}

func TestFetchOfACellThatIsNone(t *testing.T) {
	for i := range broken(t, partsOf(t, config(2, 2, 9, 9))) {
		p := partsOf(t, config(2, 2, 9, 9))
		lie(t, p, 0, 0, block(7, 1))
		lie(t, p, 3, 0, block(8, 2))
		lie(t, p, 2, 0, block(6, 3))
		p.Rec.Store.Write(p.Lay.Bucket(1, 0), broken(t, p)[i])
		o := made(t, p)
		want(t, "Fetch", o.Fetch(oram.Slot{Place: at(0, 5)}, oram.Slot{Place: at(3, 6)}), api.ErrForm)
		wantOps(t, p, 0, trace.ReadOp, 0, 0, 1, 0)
		wantStash(t, o, 7, 1)
		wantList(t, "Paths", o.Paths(), 0)
		wantList(t, "Tags", o.Tags(), 5)
		// Nothing of it was Put: once it is one, its blocks are.
		lie(t, p, 1, 0, block(0, 9))
		want(t, "Fetch", o.Fetch(oram.Slot{Place: at(0, 5)}), api.OK)
		wantStash(t, o, 7, 1, 0, 9, 8, 2)
		// A bucket is asked for each time that it is read.
		p.Rec.Store.Write(p.Lay.Bucket(1, 0), broken(t, p)[i])
		want(t, "Fetch", o.Fetch(oram.Slot{Place: at(1, 5)}), api.ErrForm)
		want(t, "Fetch", o.Fetch(oram.Slot{Place: at(3, 5)}), api.OK)
		wantStash(t, o, 7, 1, 0, 9, 8, 2, 6, 3)
	}
}

func TestFetchAsksNothingOfCellsThatAreNotLive(t *testing.T) {
	p := partsOf(t, config(1, 1, 2, 2))
	p.Vers.Flip(1)
	o := made(t, p)
	none := bytes.Repeat([]byte{255}, p.Lay.Cell())
	p.Rec.Store.Write(p.Lay.Bucket(0, 1), none)
	p.Rec.Store.Write(p.Lay.Bucket(1, 0), none)
	want(t, "Fetch", o.Fetch(oram.Slot{Place: at(0, 0)}), api.OK)
}

func TestRenew(t *testing.T) {
	p := partsOf(t, config(2, 1, 4, 4), 3, 1, 2, 0, 3, 2)
	o := made(t, p)
	o.Renew()
	want(t, "leaves drawn", p.Leaves.Drawn(), 0)
	// Of each Slot one is drawn; where it says that the block lies, isn't asked.
	o.Renew(oram.Slot{ID: 1, Place: at(2, 4)}, oram.Slot{ID: -1}, oram.Slot{ID: 4}, oram.Slot{ID: 0, Place: at(-9, -9)}, oram.Slot{ID: 1})
	wantList(t, "All", o.All(), at(0, 3), at(3, 4), at(2, 1002), at(3, 1003))
	wantList(t, "Changes", o.Changes(), pos.Change{ID: 0, Place: at(0, 3)}, pos.Change{ID: 1, Place: at(3, 4)})
	wantFresh(t, p, o, 0, 1)
	wantList(t, "Slots", o.Slots(1), oram.Slot{ID: -1, Place: at(2, 5)})
	want(t, "operations", p.Rec.Ops(), 0)
	want(t, "Paths and Tags", len(o.Paths())+len(o.Tags()), 0)
}

func TestRenewOfWhatTheMapHasNot(t *testing.T) {
	p := partsOf(t, config(2, 1, 64, 64))
	o := made(t, p)
	for _, id := range wrongIDs {
		o.Renew(oram.Slot{ID: id, Place: at(1, 1)})
		want(t, "Fresh", o.Fresh(id), false)
	}
	want(t, "leaves drawn", p.Leaves.Drawn(), len(wrongIDs))
	want(t, "Changes", len(o.Changes()), 0)
	wantFresh(t, p, o)
}

// P14.4

func TestData(t *testing.T) {
	p := partsOf(t, config(1, 1, 4, 4))
	lie(t, p, 0, 0, block(2, 5))
	o := made(t, p)
	for id := range 4 {
		wantNoData(t, o, id)
	}
	o.Slots(0, 2)
	o.Renew(oram.Slot{ID: 3})
	for _, id := range []int{0, 2, 3} {
		wantData(t, o, id, data(0))
	}
	wantNoData(t, o, 1)
	wantStash(t, o)
	o.Fetch(oram.Slot{Place: at(0, 0)})
	wantData(t, o, 2, data(5))
	// The stash's are told though nobody met them.
	p.Stash.Put(block(1, 6))
	p.Stash.Put(block(9, 7))
	wantData(t, o, 1, data(6))
	wantData(t, o, 9, data(7))
	for _, id := range wrongIDs {
		wantNoData(t, o, id)
	}
}

func TestPut(t *testing.T) {
	p := partsOf(t, config(1, 1, 4, 4))
	p.Stash.Put(block(1, 6))
	o := made(t, p)
	wantNoPut := func(id int, b []byte) {
		t.Helper()
		want(t, "Put", o.Put(id, b), false)
		wantStash(t, o, 1, 6)
	}
	for id := range 4 {
		wantNoPut(id, data(1))
	}
	o.Slots(0, 2, 64, -1)
	o.Renew(oram.Slot{ID: 3}, oram.Slot{ID: 4})
	for _, id := range append(wrongIDs, 1, 4, 5, 63) {
		wantNoPut(id, data(1))
	}
	for _, n := range []int{0, 1, api.RowLen - 1, api.RowLen + 1, 2 * api.RowLen, 256 + api.RowLen} {
		wantNoPut(0, make([]byte, n))
	}
	wantNoPut(0, nil)
	want(t, "Put", o.Put(0, data(1)) && o.Put(3, data(2)) && o.Put(2, data(0)) && o.Put(0, data(3)), true)
	wantStash(t, o, 0, 3, 1, 6, 2, 0, 3, 2)
	wantData(t, o, 0, data(3))
	want(t, "operations", p.Rec.Ops(), 0)
	// In the next epoch nothing is Fresh.
	want(t, "Evict", o.Evict(), api.OK)
	want(t, "Put", o.Put(0, data(9)), false)
	wantData(t, o, 0, data(3))
}

// P14.5

func TestEvictWritesThePathsInOrder(t *testing.T) {
	p := partsOf(t, config(2, 1, 4, 4), 1, 1, 0, 3)
	p.Vers.Flip(1, 5)
	o := made(t, p)
	o.Fetch(o.Slots(0, 1, 2)...)
	o.Fetch(oram.Slot{Place: at(0, 9)})
	for id := range 3 {
		o.Put(id, data(byte(id+1)))
	}
	want(t, "Evict", o.Evict(), api.OK)
	wantOps(t, p, 12, trace.WriteOp, 0, 1, 1, 0, 3, 1, 0, 1, 1, 0, 4, 1, 0, 1, 2, 1, 5, 0, 0, 1, 1, 0, 3, 1)
	ops := p.Rec.Trace()[12:]
	// Blocks 0 and 1 are at leaf 1, block 2 is at leaf 0: each lies as deep as its leaf lets it.
	blocks := []map[int]byte{{}, {1: 2}, {2: 3}, {}, {1: 2}, {0: 1}, {}, {}, {}, {}, {1: 2}, {2: 3}}
	for i, op := range ops {
		if got := blocksOf(t, p, op.Data); !maps.Equal(got, blocks[i]) {
			t.Errorf("write %d: %v; want %v", i, got, blocks[i])
		}
		if n, e := nonce.Parse(op.Data[:nonce.Len]); e != api.OK || n != (nonce.Nonce{Gen: 1, Count: i}) {
			t.Errorf("write %d: nonce %v", i, n)
		}
	}
	want(t, "next nonce", p.Source.Nonce, nonce.Nonce{Gen: 1, Count: 12})
	wantList(t, "Vers", o.Vers().Bytes(), 0b0011101)
	wantStash(t, o)
	wantFresh(t, p, o)
	wantList(t, "Paths", o.Paths())
	wantList(t, "Tags", o.Tags(), 1000, 1001, 1002, 9)
	wantList(t, "All", o.All(), at(1, 0), at(1, 1), at(0, 2), at(3, 1003))
	want(t, "Changes", len(o.Changes()), 3)
	want(t, "in flight", p.Rec.Flight(), 12)
	want(t, "leaves drawn", p.Leaves.Drawn(), 3)
}

func TestEvictEncodesBlocksByRisingID(t *testing.T) {
	p := partsOf(t, config(0, 3, 4, 4))
	o := made(t, p)
	o.Fetch(o.Slots(3, 0, 2)...)
	for _, id := range []int{2, 3, 0} {
		o.Put(id, data(byte(id+1)))
	}
	want(t, "Evict", o.Evict(), api.OK)
	text, _ := p.Oracle.Open(p.Rec.Trace()[5].Data)
	wantList(t, "text", text, slices.Concat([]byte{1}, data(1), []byte{3}, data(3), []byte{4}, data(4))...)
}

func TestEvictWithoutPaths(t *testing.T) {
	p := partsOf(t, config(1, 4, 4, 2))
	p.Stash.Put(block(0, 1))
	p.Stash.Put(block(3, 2))
	o := made(t, p)
	o.Slots(0, 1)
	want(t, "Evict", o.Evict(), api.OK)
	wantStash(t, o, 0, 1, 3, 2)
	wantFresh(t, p, o)
	want(t, "operations and nonces", p.Rec.Ops()+p.Source.Count, 0)
	wantList(t, "Vers", o.Vers().Bytes(), 0)
	p.Stash.Put(block(2, 3))
	want(t, "Evict", o.Evict(), api.ErrHalted)
	wantStash(t, o, 0, 1, 2, 3, 3, 2)
}

func TestEvictLeavesAsManyAsTheStashMayHave(t *testing.T) {
	for most := range 6 {
		p := partsOf(t, config(1, 1, 8, most), 0, 0, 1, 0, 1, 1, 1)
		o := made(t, p)
		// At leaf 0 are blocks 0, 1 and 3, at leaf 1 2, 4, 5 and 6: one each finds room at its leaf, and one in the root.
		o.Fetch(o.Slots(0, 1, 2, 3, 4, 5, 6)...)
		for id := range 7 {
			o.Put(id, data(byte(id+1)))
		}
		ops := p.Rec.Ops()
		if most >= 4 {
			want(t, "Evict", o.Evict(), api.OK)
			wantStash(t, o, 3, 4, 4, 5, 5, 6, 6, 7)
			want(t, "operations", p.Rec.Ops(), ops+14)
			continue
		}
		all := o.All()
		for range 2 {
			want(t, "Evict", o.Evict(), api.ErrHalted)
			wantStash(t, o, 0, 1, 1, 2, 2, 3, 3, 4, 4, 5, 5, 6, 6, 7)
			wantFresh(t, p, o, 0, 1, 2, 3, 4, 5, 6)
			wantList(t, "Paths", o.Paths(), 0, 1, 0, 1, 0, 1, 0)
			wantList(t, "Vers", o.Vers().Bytes(), 0)
			wantList(t, "All", o.All(), all...)
			want(t, "operations", p.Rec.Ops(), ops)
			want(t, "nonces and pads", p.Source.Count+p.Oracle.Drawn(), 0)
		}
		// The epoch goes on: with fewer at hand it ends.
		for id := range 4 - most {
			p.Stash.Take(6 - id)
		}
		want(t, "Evict", o.Evict(), api.OK)
		want(t, "Len", o.Stash().Len(), most)
	}
}

// evicting is an epoch of two paths, 0 and 3, with blocks 0, 2 and 3 at hand: six writes are to be made.
func evicting(t *testing.T) (oram.Parts, *oram.Oram) {
	t.Helper()
	p := partsOf(t, config(2, 1, 4, 4), 0, 3, 3)
	p.Vers.Flip(3)
	o := made(t, p)
	o.Fetch(o.Slots(0, 3)...)
	o.Slots(2)
	for _, id := range []int{0, 3, 2} {
		o.Put(id, data(byte(id+1)))
	}
	return p, o
}

// wantEvicting asks that the epoch still stands where it stood, but for so many writes.
func wantEvicting(t *testing.T, p oram.Parts, o *oram.Oram, writes int) {
	t.Helper()
	wantStash(t, o, 0, 1, 2, 3, 3, 4)
	wantFresh(t, p, o, 0, 2, 3)
	wantList(t, "Paths", o.Paths(), 0, 3)
	wantList(t, "Vers", o.Vers().Bytes(), 0b1000)
	wantList(t, "All", o.All(), at(0, 0), at(1, 1001), at(3, 2), at(3, 1))
	wantOps(t, p, 6, trace.WriteOp, []int{0, 1, 1, 1, 3, 0, 0, 1, 2, 1, 6, 1}[:2*writes]...)
}

func TestEvictOnAStoreThatIsDown(t *testing.T) {
	for fall := 1; fall <= 6; fall++ {
		p, o := evicting(t)
		p.Rec.Arm(fall)
		want(t, "Evict", o.Evict(), api.ErrDown)
		wantEvicting(t, p, o, fall-1)
		want(t, "nonces", p.Source.Count, fall)
		want(t, "pads", p.Oracle.Drawn(), fall*38)
		want(t, "Evict", o.Evict(), api.ErrDown)
		wantEvicting(t, p, o, fall-1)
		p.Rec.Reboot()
		want(t, "Evict", o.Evict(), api.OK)
		wantStash(t, o)
		wantList(t, "Vers", o.Vers().Bytes(), 0b1000111)
		want(t, "nonces", p.Source.Count, fall+1+6)
	}
}

func TestEvictWithoutNonces(t *testing.T) {
	for most := range 7 {
		p, _ := evicting(t)
		p.Source = nonce.At(3, 5, 5+most)
		o := made(t, p)
		o.Fetch(oram.Slot{}, oram.Slot{Place: at(3, 0)})
		if most == 6 {
			want(t, "Evict", o.Evict(), api.OK)
			continue
		}
		want(t, "Evict", o.Evict(), api.ErrExhausted)
		want(t, "Mark", p.Rec.Mark(), 12+most)
		wantStash(t, o, 0, 1, 2, 3, 3, 4)
		wantList(t, "Paths", o.Paths(), 0, 3)
		wantList(t, "Vers", o.Vers().Bytes(), 0b1000)
	}
}

func TestEvictWithANonceThatWasSealed(t *testing.T) {
	p, o := evicting(t)
	p.Oracle.Pad(nonce.Nonce{Gen: 1, Count: 2})
	want(t, "Evict", o.Evict(), api.ErrState)
	wantEvicting(t, p, o, 2)
	want(t, "nonces", p.Source.Count, 3)
	want(t, "Evict", o.Evict(), api.OK)
	wantStash(t, o)
}

// A caller may Set a block to where this tree has no leaf, or lay one into the stash that the map has not: these are left, and no block is lost.
func TestEvictLosesNoBlockThatIsNowhere(t *testing.T) {
	p := partsOf(t, config(1, 1, 4, 2), 0, 0)
	o := made(t, p)
	o.Fetch(o.Slots(0, 1)...)
	for id := range 2 {
		o.Put(id, data(byte(id+1)))
	}
	o.Set(1, at(2, 7))
	p.Stash.Put(block(60, 9))
	want(t, "Evict", o.Evict(), api.OK)
	wantStash(t, o, 1, 2, 60, 9)
	p.Stash.Put(block(61, 9))
	want(t, "Evict", o.Evict(), api.ErrHalted)
	o.Fetch(oram.Slot{})
	wantStash(t, o, 0, 1, 1, 2, 60, 9, 61, 9)
}

// P14.6

func TestLayCutsAndSeals(t *testing.T) {
	p := partsOf(t, config(1, 2, 2, 2))
	o := made(t, p)
	text := make([]byte, 76*2+5)
	for i := range text {
		text[i] = byte(i + 1)
	}
	for n, cells := range map[int]int{0: 0, 1: 1, 75: 1, 76: 1, 77: 2, 151: 2, 152: 2, 153: 3, 157: 3} {
		mark, count := p.Rec.Mark(), p.Source.Count
		want(t, "Lay", o.Lay(4, text[:n]), api.OK)
		ops := p.Rec.Trace()[mark:]
		want(t, "cells", len(ops), cells)
		for i, op := range ops {
			whole := append(slices.Clone(text[76*i:min(n, 76*i+76)]), make([]byte, 76)...)[:76]
			got, _ := p.Oracle.Open(op.Data)
			if op.Kind != trace.WriteOp || op.Addr != 4+i || !bytes.Equal(got, whole) {
				t.Errorf("piece %d of %d: %d at %d: %v", i, n, op.Kind, op.Addr, got)
			}
			if got, e := nonce.Parse(op.Data[:nonce.Len]); e != api.OK || got != (nonce.Nonce{Gen: 1, Count: count + i}) {
				t.Errorf("piece %d of %d: nonce %v", i, n, got)
			}
		}
		b, e := o.Load(4, cells)
		want(t, "Load", e, api.OK)
		wantList(t, "Load", b, append(slices.Clone(text[:n]), make([]byte, 76*cells-n)...)...)
		want(t, "Paths and Tags", len(o.Paths())+len(o.Tags()), 0)
		wantStash(t, o)
	}
}

func TestLayNeitherEndsAnEpochNorCaresForIt(t *testing.T) {
	p, o := evicting(t)
	mark := p.Rec.Mark()
	want(t, "Lay", o.Lay(0, make([]byte, 39)), api.OK)
	_, e := o.Load(0, 2)
	want(t, "Load", e, api.OK)
	want(t, "Mark", p.Rec.Mark(), mark+4)
	wantFresh(t, p, o, 0, 2, 3)
	wantStash(t, o, 0, 1, 2, 3, 3, 4)
	wantList(t, "Paths", o.Paths(), 0, 3)
	wantList(t, "Tags", o.Tags(), 1000, 1003)
	wantList(t, "Vers", o.Vers().Bytes(), 0b1000)
}

func TestLayBeyondTheCells(t *testing.T) {
	for _, first := range []int{-1, -2, math.MinInt, math.MaxInt, math.MaxInt - 1, 1 << 32} {
		p := partsOf(t, config(1, 1, 2, 2))
		o := made(t, p)
		want(t, "Lay", o.Lay(first, make([]byte, 99)), api.ErrRange)
		want(t, "Mark", p.Rec.Mark(), 0)
		want(t, "nonces", p.Source.Count, 1)
		want(t, "Lay of nothing", o.Lay(first, nil), api.OK)
		want(t, "operations", p.Rec.Ops(), 1)
		b, e := o.Load(first, 3)
		want(t, "Load", e, api.ErrRange)
		want(t, "Load", len(b), 0)
		want(t, "operations", p.Rec.Ops(), 2)
	}
	p := partsOf(t, config(1, 1, 2, 2))
	o := made(t, p)
	last := p.Lay.Total() - 1
	want(t, "Lay", o.Lay(last, make([]byte, 38)), api.OK)
	want(t, "Lay", o.Lay(last, make([]byte, 39)), api.ErrRange)
	want(t, "Lay", o.Lay(last-1, make([]byte, 200)), api.ErrRange)
	want(t, "Mark", p.Rec.Mark(), 4)
	want(t, "nonces", p.Source.Count, 6)
	for _, cells := range []int{3, 1 << 32, math.MaxInt} {
		mark := p.Rec.Mark()
		b, e := o.Load(last-1, cells)
		want(t, "Load", e, api.ErrRange)
		want(t, "Load", len(b), 0)
		want(t, "Mark", p.Rec.Mark(), mark+2)
	}
}

func TestLayOnAStoreThatIsDown(t *testing.T) {
	for fall := 1; fall <= 3; fall++ {
		p := partsOf(t, config(1, 1, 2, 2))
		o := made(t, p)
		p.Rec.Arm(fall)
		want(t, "Lay", o.Lay(3, make([]byte, 38*3)), api.ErrDown)
		want(t, "Mark", p.Rec.Mark(), fall-1)
		want(t, "nonces", p.Source.Count, fall)
		b, e := o.Load(3, 1)
		want(t, "Load", e, api.ErrDown)
		want(t, "Load", len(b), 0)
		p.Rec.Reboot()
		p.Rec.Arm(fall)
		b, e = o.Load(3, 3)
		want(t, "Load", e, api.ErrDown)
		want(t, "Load", len(b), 0)
		want(t, "Mark", p.Rec.Mark(), 2*(fall-1))
	}
}

func TestLayWithoutNonces(t *testing.T) {
	p := partsOf(t, config(1, 1, 2, 2))
	p.Source = nonce.At(1, 7, 9)
	o := made(t, p)
	want(t, "Lay", o.Lay(3, make([]byte, 38*4)), api.ErrExhausted)
	want(t, "Mark", p.Rec.Mark(), 2)
	want(t, "operations", p.Rec.Ops(), 2)
	want(t, "Lay of nothing", o.Lay(3, nil), api.OK)
	want(t, "Lay", o.Lay(-1, make([]byte, 1)), api.ErrExhausted)
}

func TestLayWithANonceThatWasSealed(t *testing.T) {
	p := partsOf(t, config(1, 1, 2, 2))
	o := made(t, p)
	p.Oracle.Pad(nonce.Nonce{Gen: 1, Count: 1})
	want(t, "Lay", o.Lay(3, make([]byte, 38*3)), api.ErrState)
	want(t, "Mark", p.Rec.Mark(), 1)
	want(t, "nonces", p.Source.Count, 2)
	want(t, "Lay", o.Lay(3, make([]byte, 38*3)), api.OK)
}

func TestLoadOfFewCells(t *testing.T) {
	p := partsOf(t, config(1, 1, 2, 2))
	o := made(t, p)
	for _, cells := range []int{0, -1, -2, math.MinInt} {
		b, e := o.Load(0, cells)
		want(t, "Load", e, api.OK)
		want(t, "Load", len(b)+p.Rec.Ops(), 0)
	}
	// Cells that were never written are zeros.
	b, e := o.Load(0, p.Lay.Total())
	want(t, "Load", e, api.OK)
	wantList(t, "Load", b, make([]byte, 38*p.Lay.Total())...)
	for i, op := range p.Rec.Trace() {
		if op.Kind != trace.ReadOp || op.Addr != i {
			t.Errorf("operation %d: %d at %d", i, op.Kind, op.Addr)
		}
	}
}

func TestLoadOfCellsThatCannotBeOpened(t *testing.T) {
	for i, want := range []api.Errno{api.ErrForm, api.ErrNone, api.ErrNone} {
		p := partsOf(t, config(1, 1, 2, 2))
		o := made(t, p)
		p.Rec.Store.Write(4, broken(t, partsOf(t, config(1, 2, 2, 2)))[i][:p.Lay.Cell()])
		if b, e := o.Load(2, 5); len(b) > 0 || e != want || p.Rec.Mark() != 3 {
			t.Errorf("case %d: %v, %d, behind %d operations; want %d", i, b, e, p.Rec.Mark(), want)
		}
	}
	// A text is a text, though it is no bucket's.
	p := partsOf(t, config(1, 1, 2, 2))
	p.Rec.Store.Write(4, sealed(t, p, bytes.Repeat([]byte{255}, 38)))
	b, e := made(t, p).Load(4, 1)
	want(t, "Load", e, api.OK)
	wantList(t, "Load", b, bytes.Repeat([]byte{255}, 38)...)
}

func TestTagsAreOfAllEpochs(t *testing.T) {
	p := partsOf(t, config(2, 1, 4, 4), 3, 2, 1, 0)
	o := made(t, p)
	o.Fetch(o.Slots(1, -1)...)
	o.Fetch(oram.Slot{Place: at(0, -7)})
	wantList(t, "Paths", o.Paths(), 1, 2, 0)
	wantList(t, "Tags", o.Tags(), 1001, 1, -7)
	want(t, "Evict", o.Evict(), api.OK)
	want(t, "Paths", len(o.Paths()), 0)
	o.Fetch(o.Slots(1)...)
	wantList(t, "Paths", o.Paths(), 3)
	wantList(t, "Tags", o.Tags(), 1001, 1, -7, 0)
	want(t, "Evict and Evict", o.Evict()+o.Evict(), api.OK)
	wantList(t, "Tags", o.Tags(), 1001, 1, -7, 0)
}

// P14.7

// scribble writes over a list and the spare room behind it, and appends to it.
func scribble[T any](list []T, junk T) {
	for i := range list[:cap(list)] {
		list[:cap(list)][i] = junk
	}
	list = append(list, junk, junk, junk)
	list[len(list)-1] = junk
}

func TestNothingHandedInIsChangedOrKept(t *testing.T) {
	p := partsOf(t, config(2, 1, 4, 4), 3, 2, 1, 0)
	o := made(t, p)
	// Behind the lengths lies what must not be read.
	ids := []int{1, 0, 2, 3}
	slots := o.Slots(ids[:2]...)
	wantList(t, "ids", ids, 1, 0, 2, 3)
	scribble(ids, 3)
	wantFresh(t, p, o, 0, 1)
	wantList(t, "Slots", slots, oram.Slot{ID: 1, Place: at(1, 1001)}, oram.Slot{ID: 0, Place: at(0, 1000)})
	given := append(slices.Clone(slots), oram.Slot{Place: at(9, 9)})
	want(t, "Fetch", o.Fetch(given[:2]...), api.OK)
	o.Renew(given[:1]...)
	wantList(t, "slots", given[:2], slots...)
	wantList(t, "slots", given[2:], oram.Slot{Place: at(9, 9)})
	scribble(given, oram.Slot{ID: 3, Place: at(3, 3)})
	wantList(t, "Paths", o.Paths(), 1, 0)
	wantList(t, "Tags", o.Tags(), 1001, 1000)
	row := slices.Concat(data(5), []byte{6, 7})
	want(t, "Put", o.Put(1, row[:api.RowLen]), true)
	wantList(t, "row", row, slices.Concat(data(5), []byte{6, 7})...)
	scribble(row, 99)
	wantData(t, o, 1, data(5))
	text := slices.Concat(bytes.Repeat([]byte{8}, 40), []byte{1, 2, 3})
	want(t, "Lay", o.Lay(3, text[:40]), api.OK)
	wantList(t, "text", text, slices.Concat(bytes.Repeat([]byte{8}, 40), []byte{1, 2, 3})...)
	scribble(text, 99)
	b, _ := o.Load(3, 2)
	wantList(t, "Load", b, slices.Concat(bytes.Repeat([]byte{8}, 40), make([]byte, 36))...)
	wantList(t, "Plain", p.Oracle.Plain(), b...)
}

func TestListsHandedOutAreNewMemory(t *testing.T) {
	p := partsOf(t, config(2, 1, 4, 4), 3, 2, 1, 0)
	o := made(t, p)
	slots := o.Slots(1, 2)
	o.Fetch(slots...)
	scribble(slots, oram.Slot{ID: 3, Place: at(3, 3)})
	o.Put(1, data(5))
	o.Lay(3, make([]byte, 40))
	zeros, _ := o.Data(2)
	zeros2, _ := o.Data(2)
	row, _ := o.Data(1)
	row2, _ := o.Data(1)
	text, _ := o.Load(3, 2)
	text2, _ := o.Load(3, 2)
	paths, tags := o.Paths(), o.Tags()
	for _, b := range [][]byte{zeros2, row2, text2} {
		scribble(b, 99)
	}
	scribble(o.Paths(), 9)
	scribble(o.Tags(), 9)
	wantList(t, "Data", zeros, data(0)...)
	wantList(t, "Data", row, data(5)...)
	wantList(t, "Load", text, make([]byte, 76)...)
	wantList(t, "Paths", paths, 1, 2)
	wantList(t, "Tags", tags, 1001, 1002)
	wantData(t, o, 1, data(5))
	wantData(t, o, 2, data(0))
	wantList(t, "Paths", o.Paths(), 1, 2)
	wantList(t, "Tags", o.Tags(), 1001, 1002)
	// A Fetch more shows in no list that was handed out before, in its spare room neither.
	o.Fetch(oram.Slot{Place: at(0, 4)})
	scribble(paths, 9)
	scribble(tags, 9)
	wantList(t, "Paths", o.Paths(), 1, 2, 0)
	wantList(t, "Tags", o.Tags(), 1001, 1002, 4)
	want(t, "Evict", o.Evict(), api.OK)
}

func TestPartsAreNotChangedByNew(t *testing.T) {
	p := partsOf(t, config(2, 1, 4, 4), 3, 1)
	tables := p.Lay.Tables
	o := made(t, p)
	// The Lay is kept as it was.
	tables[0][0] = 99
	p.Lay.Height, p.Lay.Z = 0, 4
	slots := o.Slots(1, 2)
	want(t, "Fetch", o.Fetch(slots...), api.OK)
	want(t, "Mark", p.Rec.Mark(), 6)
	want(t, "Evict", o.Evict(), api.OK)
	want(t, "Mark", p.Rec.Mark(), 12)
}

// Two Orams with parts of their own have nothing in common.
func TestOramsAreApart(t *testing.T) {
	p, q := partsOf(t, config(1, 1, 2, 2), 1), partsOf(t, config(1, 1, 2, 2), 0)
	a, b := made(t, p), made(t, q)
	a.Fetch(a.Slots(0)...)
	a.Put(0, data(4))
	want(t, "Evict", a.Evict(), api.OK)
	a.Fetch(a.Slots(1)...)
	wantFresh(t, q, b)
	want(t, "Paths and Tags", len(b.Paths())+len(b.Tags())+q.Rec.Ops()+q.Leaves.Drawn(), 0)
	wantList(t, "Vers", b.Vers().Bytes(), 0)
	wantNoData(t, b, 0)
}

// Ways

// mover is had of an Oram by promotion, and placed of a Slot.
type mover interface {
	Get(id int) (pos.Place, bool)
	Set(id int, p pos.Place) bool
	Len() int
	Changes() []pos.Change
	Settle()
	Apply(l ...pos.Change) bool
	All() []pos.Place
}

func TestMethodsAndFieldsByPromotion(t *testing.T) {
	p := partsOf(t, config(2, 1, 4, 4), 2)
	o := made(t, p)
	var m mover = o
	l := o.Slots(3)
	want(t, "Leaf", l[0].Leaf, 3)
	want(t, "Tag", l[0].Tag, 1003)
	want(t, "Len", m.Len(), 4)
	wantList(t, "Changes", m.Changes(), pos.Change{ID: 3, Place: at(2, 0)})
	m.Settle()
	want(t, "Changes", len(p.Map.Changes()), 0)
	want(t, "Set", m.Set(0, at(1, 1)), true)
	got, _ := p.Map.Get(0)
	want(t, "Get", got, at(1, 1))
}
