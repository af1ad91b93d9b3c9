package lay_test

import (
	"math"
	"reflect"
	"slices"
	"testing"

	"oubliette/api"
	"oubliette/lay"
)

// smallest is the smallest configuration of the document, greatest one with each number at its limit, usual one between.
func smallest() api.Config {
	return api.Config{Height: 0, Z: 1, Blocks: 1, Rounds: 1, Read: 1, Write: 1, Stash: 0, Period: 1, Queue: 1, Txs: 1, Tables: [][]int{{api.Int}}}
}

func greatest() api.Config {
	return api.Config{Height: 6, Z: 4, Blocks: 64, Rounds: 4, Read: 8, Write: 8, Stash: 64, Period: 8, Queue: 16, Txs: 8, Tables: [][]int{{1, 2, 1, 2}, {2, 2, 2, 2}, {1, 1, 1, 1}, {2, 1, 2, 1}}}
}

func usual() api.Config {
	return api.Config{Height: 3, Z: 2, Blocks: 10, Rounds: 2, Read: 3, Write: 2, Stash: 5, Period: 4, Queue: 6, Txs: 3, Tables: [][]int{{api.Int, api.Text}, {api.Text}}}
}

// field is one number of a configuration, with its limits as plain numbers.
type field struct {
	name        string
	of          func(c *api.Config) *int
	least, most int
}

func fields() []field {
	return []field{
		{"Height", func(c *api.Config) *int { return &c.Height }, 0, 6},
		{"Z", func(c *api.Config) *int { return &c.Z }, 1, 4},
		{"Blocks", func(c *api.Config) *int { return &c.Blocks }, 1, 64},
		{"Rounds", func(c *api.Config) *int { return &c.Rounds }, 1, 4},
		{"Read", func(c *api.Config) *int { return &c.Read }, 1, 8},
		{"Write", func(c *api.Config) *int { return &c.Write }, 1, 8},
		{"Stash", func(c *api.Config) *int { return &c.Stash }, 0, 64},
		{"Period", func(c *api.Config) *int { return &c.Period }, 1, 8},
		{"Queue", func(c *api.Config) *int { return &c.Queue }, 1, 16},
		{"Txs", func(c *api.Config) *int { return &c.Txs }, 1, 8},
	}
}

// configs are those that may be: each number at each of its values, alone and among the greatest, and many mixed ones.
func configs() []api.Config {
	l := []api.Config{smallest(), greatest(), usual()}
	for _, f := range fields() {
		for n := f.least; n <= f.most; n++ {
			for _, c := range []api.Config{smallest(), greatest(), usual()} {
				*f.of(&c) = n
				l = append(l, c)
			}
		}
	}
	dice := uint32(1)
	for range 400 {
		c := usual()
		for _, f := range fields() {
			dice = dice*1664525 + 1013904223
			*f.of(&c) = f.least + int(dice>>8)%(f.most-f.least+1)
		}
		l = append(l, c)
	}
	return l
}

// of makes the Lay of a configuration that may be.
func of(t *testing.T, c api.Config) lay.Lay {
	t.Helper()
	l, e := lay.Of(c)
	if e != api.OK {
		t.Fatalf("Of(%v): %d", c, e)
	}
	return l
}

func wantConfig(t *testing.T, c api.Config) {
	t.Helper()
	if !lay.May(c) {
		t.Errorf("May(%v): false", c)
	}
	l, e := lay.Of(c)
	if e != api.OK || !reflect.DeepEqual(l.Config, c) {
		t.Errorf("Of(%v): %v, %d", c, l, e)
	}
}

// wantNoLay asks for ErrRange, and for nothing beside it.
func wantNoLay(t *testing.T, c api.Config) {
	t.Helper()
	if lay.May(c) {
		t.Errorf("May(%v): true", c)
	}
	if l, e := lay.Of(c); e != api.ErrRange || !reflect.DeepEqual(l, lay.Lay{}) {
		t.Errorf("Of(%v): %v, %d", c, l, e)
	}
}

// want holds a number against what it should be.
func want(t *testing.T, c api.Config, what string, got, want int) {
	t.Helper()
	if got != want {
		t.Errorf("%v: %s: %d; want %d", c, what, got, want)
	}
}

func wantArea(t *testing.T, c api.Config, what string, n int, got, want lay.Area) {
	t.Helper()
	if got != want {
		t.Errorf("%v: %s(%d): %v; want %v", c, what, n, got, want)
	}
}

// plan is where all lies, walked through in the document's words.
type plan struct {
	logs, clogs, deltas, fulls []lay.Area
	bucket, buckets, total     int
}

func buckets(c api.Config) int { return 2<<c.Height - 1 }
func slots(c api.Config) int   { return c.Rounds*c.Read + c.Write }

func deltaLen(c api.Config) int {
	return 12 + slots(c) + 1 + 6*slots(c) + 1 + 12*c.Write + 1 + c.Stash*38
}

func fullLen(c api.Config) int {
	bits := 0
	for bits*8 < buckets(c) {
		bits++
	}
	return 11 + 5*c.Blocks + 1 + 11*c.Blocks + bits + 1 + c.Stash*38
}

func clogLen(c api.Config) int { return 6 + c.Txs*42 }

func planOf(c api.Config) plan {
	next := 2
	take := func(n, length int) []lay.Area {
		cells := 0
		for cells*c.Z*38 < length {
			cells++
		}
		var l []lay.Area
		for range n {
			l = append(l, lay.Area{First: next, Cells: cells})
			next += cells
		}
		return l
	}
	p := plan{buckets: buckets(c)}
	p.logs = take(slots(c), 12)
	p.clogs = take(2, clogLen(c))
	p.deltas = take(2*(c.Period-1), deltaLen(c))
	p.fulls = take(2, fullLen(c))
	p.bucket = next
	p.total = next + 2*p.buckets
	return p
}

// check is where the checkpoint of this number lies: a whole one, or one of differences.
func (p plan) check(c api.Config, seq uint64) lay.Area {
	period := uint64(c.Period)
	even := seq/period%2 == 0
	if step := seq % period; step == 0 {
		return p.full(even)
	} else if even {
		return p.deltas[step-1]
	} else {
		return p.deltas[period-1+step-1]
	}
}

func (p plan) full(even bool) lay.Area {
	if even {
		return p.fulls[0]
	}
	return p.fulls[1]
}

// Numbers below 0, those at the ends of smaller kinds of integers among them.
var below = []int{-1, -2, -3, -4, -7, -8, -9, -16, -256, -1 << 31, -1 << 32, -1<<32 + 1, math.MinInt, math.MinInt + 1, math.MinInt + 8}

// seqs are numbers of some turns of all periods, and far ones.
func seqs() []int {
	l := make([]int, 0, 80)
	for seq := range 40 {
		l = append(l, seq)
	}
	for _, far := range []int{1 << 16, 1 << 31, 1 << 32, 1<<40 - 2, math.MaxInt - 20} {
		for i := range 20 {
			l = append(l, far+i)
		}
	}
	return append(l, math.MaxInt)
}

// P13.1

func TestLimitsAreThoseOfApi(t *testing.T) {
	limits := []int{api.MaxHeight, api.MaxZ, api.MaxBlocks, api.MaxRounds, api.MaxBatch, api.MaxBatch, api.MaxStash, api.MaxPeriod, api.MaxQueue, api.MaxTxs}
	for i, f := range fields() {
		if f.most != limits[i] {
			t.Errorf("%s: %d; want %d", f.name, f.most, limits[i])
		}
	}
}

func TestConfigsThatMayBe(t *testing.T) {
	for _, c := range configs() {
		wantConfig(t, c)
	}
}

func TestANumberOutOfItsBounds(t *testing.T) {
	for _, f := range fields() {
		wrong := append(slices.Clone(below), f.least-1, f.most+1, f.most+2, 255, 256, 256+f.least, 1<<16+f.least, 1<<31, 1<<32+f.least, 1<<32+f.most, math.MaxInt-1, math.MaxInt)
		for _, n := range wrong {
			for _, c := range []api.Config{smallest(), greatest(), usual()} {
				*f.of(&c) = n
				wantNoLay(t, c)
			}
		}
	}
}

func TestTablesThatMayBe(t *testing.T) {
	for tables := 1; tables <= 4; tables++ {
		for cols := 1; cols <= 4; cols++ {
			for _, kind := range []int{1, 2} {
				c := usual()
				c.Tables = nil
				for i := range tables {
					// Not all of one width: the last one is of one column.
					width := cols
					if i > 0 && i == tables-1 {
						width = 1
					}
					c.Tables = append(c.Tables, slices.Repeat([]int{kind}, width))
				}
				wantConfig(t, c)
				c.Tables[tables-1][0] = 3 - kind
				wantConfig(t, c)
			}
		}
	}
}

func TestTablesThatMayNotBe(t *testing.T) {
	for _, tables := range [][][]int{
		nil, {}, {nil}, {{}}, {{1}, {}}, {{}, {1}}, {{1}, nil, {2}}, {{1}, {1}, {1}, {}},
		{{1}, {1}, {1}, {1}, {1}}, {{1}, {1}, {1}, {1}, {1}, {1}}, {{1}, {1}, {1}, {1}, nil},
		{{1, 2, 1, 2, 1}}, {{1}, {1, 2, 1, 2, 1}}, {{1}, {1}, {1}, {1, 1, 1, 1, 1, 1}},
		slices.Repeat([][]int{{1}}, 257), {slices.Repeat([]int{1}, 257)},
	} {
		c := usual()
		c.Tables = tables
		wantNoLay(t, c)
	}
	for _, kind := range append([]int{0, 3, 4, 255, 257, 1<<32 + 1, 1<<32 + 2, math.MaxInt}, below...) {
		for table := range 4 {
			for col := range 4 {
				c := greatest()
				c.Tables[table][col] = kind
				wantNoLay(t, c)
			}
		}
	}
}

func TestALayHasItsConfigsFields(t *testing.T) {
	l := of(t, usual())
	if l.Height != 3 || l.Z != 2 || l.Blocks != 10 || l.Rounds != 2 || l.Read != 3 || l.Write != 2 || l.Stash != 5 || l.Period != 4 || l.Queue != 6 || l.Txs != 3 || len(l.Tables) != 2 {
		t.Errorf("%v", l)
	}
}

// The zero Lay is told beside an error; nothing is promised of its answers, but that they come.
func TestTheZeroLayAnswers(t *testing.T) {
	var l lay.Lay
	for _, n := range append(seqs(), below...) {
		l.Batch(n)
		l.Log(n)
		l.Clog(n)
		l.Delta(n)
		l.Full(n)
		l.Check(n)
		l.Bucket(n, n)
		l.TickOps(n)
		l.RecoverOps(n, n)
	}
	l.Payload()
	l.Total()
	l.MakeOps()
}

// P13.2

func TestConstants(t *testing.T) {
	if lay.Gen != 0 || lay.Commit != 1 || lay.KeyLen != 10 {
		t.Error(lay.Gen, lay.Commit, lay.KeyLen)
	}
}

func TestLengths(t *testing.T) {
	for _, c := range configs() {
		l := of(t, c)
		want(t, c, "Payload", l.Payload(), c.Z*38)
		want(t, c, "Cell", l.Cell(), 12+c.Z*38)
		want(t, c, "Slots", l.Slots(), slots(c))
		want(t, c, "LogLen", l.LogLen(), 12)
		want(t, c, "DeltaLen", l.DeltaLen(), deltaLen(c))
		want(t, c, "FullLen", l.FullLen(), fullLen(c))
		want(t, c, "ClogLen", l.ClogLen(), clogLen(c))
	}
}

func TestBatch(t *testing.T) {
	for _, c := range configs() {
		l := of(t, c)
		sum := 0
		for i := range c.Rounds {
			want(t, c, "Batch of a round", l.Batch(i), c.Read)
			sum += l.Batch(i)
		}
		want(t, c, "Batch behind the rounds", l.Batch(c.Rounds), c.Write)
		want(t, c, "Slots", l.Slots(), sum+l.Batch(c.Rounds))
		for _, i := range append([]int{c.Rounds + 1, c.Rounds + 2, 256, 1 << 32, 1<<32 + c.Rounds, math.MaxInt}, below...) {
			want(t, c, "Batch of none", l.Batch(i), 0)
		}
	}
}

// P13.2, P13.3, P13.4: the smallest and the greatest, written out.

func TestExample(t *testing.T) {
	c := smallest()
	l := of(t, c)
	want(t, c, "Payload", l.Payload(), 38)
	want(t, c, "Cell", l.Cell(), 50)
	want(t, c, "Slots", l.Slots(), 2)
	want(t, c, "LogLen", l.LogLen(), 12)
	want(t, c, "DeltaLen", l.DeltaLen(), 41)
	want(t, c, "FullLen", l.FullLen(), 30)
	want(t, c, "ClogLen", l.ClogLen(), 48)
	wantArea(t, c, "Log", 0, l.Log(0), lay.Area{First: 2, Cells: 1})
	wantArea(t, c, "Log", 1, l.Log(1), lay.Area{First: 3, Cells: 1})
	wantArea(t, c, "Clog", 0, l.Clog(0), lay.Area{First: 4, Cells: 2})
	wantArea(t, c, "Clog", 1, l.Clog(1), lay.Area{First: 6, Cells: 2})
	wantArea(t, c, "Delta", 1, l.Delta(1), lay.Area{})
	wantArea(t, c, "Full", 0, l.Full(0), lay.Area{First: 8, Cells: 1})
	wantArea(t, c, "Check", 1, l.Check(1), lay.Area{First: 9, Cells: 1})
	want(t, c, "Bucket", l.Bucket(0, 0), 10)
	want(t, c, "Bucket", l.Bucket(0, 1), 11)
	want(t, c, "Total", l.Total(), 12)
	want(t, c, "TickOps", l.TickOps(1), 14)
	want(t, c, "RecoverOps", l.RecoverOps(0, 0), 13)
	want(t, c, "RecoverOps", l.RecoverOps(3, 2), 17)
	want(t, c, "MakeOps", l.MakeOps(), 6)
}

func TestTheGreatest(t *testing.T) {
	c := greatest()
	l := of(t, c)
	want(t, c, "Cell", l.Cell(), 164)
	want(t, c, "Slots", l.Slots(), 40)
	want(t, c, "DeltaLen", l.DeltaLen(), 2823)
	want(t, c, "FullLen", l.FullLen(), 3485)
	want(t, c, "ClogLen", l.ClogLen(), 342)
	wantArea(t, c, "Log", 39, l.Log(39), lay.Area{First: 41, Cells: 1})
	wantArea(t, c, "Clog", 3, l.Clog(3), lay.Area{First: 45, Cells: 3})
	wantArea(t, c, "Delta", 1, l.Delta(1), lay.Area{First: 48, Cells: 19})
	wantArea(t, c, "Delta", 15, l.Delta(15), lay.Area{First: 295, Cells: 19})
	wantArea(t, c, "Full", 8, l.Full(8), lay.Area{First: 337, Cells: 23})
	want(t, c, "Bucket", l.Bucket(126, 1), 613)
	want(t, c, "Total", l.Total(), 614)
	want(t, c, "TickOps", l.TickOps(0), 634)
	want(t, c, "TickOps", l.TickOps(7), 630)
	want(t, c, "RecoverOps", l.RecoverOps(0, 0), 92)
	want(t, c, "RecoverOps", l.RecoverOps(7, 40), 789)
	want(t, c, "MakeOps", l.MakeOps(), 28)
}

// P13.3

func TestLogsAndClogs(t *testing.T) {
	for _, c := range configs() {
		l, p := of(t, c), planOf(c)
		for slot, area := range p.logs {
			wantArea(t, c, "Log", slot, l.Log(slot), area)
		}
		for _, slot := range append([]int{len(p.logs), len(p.logs) + 1, 256, 1 << 32, 1<<32 + 1, math.MaxInt}, below...) {
			wantArea(t, c, "Log", slot, l.Log(slot), lay.Area{})
		}
		for _, epoch := range seqs() {
			wantArea(t, c, "Clog", epoch, l.Clog(epoch), p.clogs[epoch&1])
		}
		for _, epoch := range below {
			wantArea(t, c, "Clog", epoch, l.Clog(epoch), lay.Area{})
		}
	}
}

func TestCheckpoints(t *testing.T) {
	for _, c := range configs() {
		l, p := of(t, c), planOf(c)
		for _, seq := range seqs() {
			area := p.check(c, uint64(seq))
			wantArea(t, c, "Check", seq, l.Check(seq), area)
			wantArea(t, c, "Full", seq, l.Full(seq), p.full(seq/c.Period%2 == 0))
			if seq%c.Period == 0 {
				wantArea(t, c, "Delta", seq, l.Delta(seq), lay.Area{})
			} else {
				wantArea(t, c, "Delta", seq, l.Delta(seq), area)
			}
		}
	}
}

func TestCheckpointsOfNumbersBelow0(t *testing.T) {
	for _, c := range configs() {
		l := of(t, c)
		for _, seq := range append([]int{-c.Period, -c.Period - 1, 1 - 2*c.Period, -2 * c.Period, 1 - 3*c.Period, -3 * c.Period}, below...) {
			wantArea(t, c, "Check", seq, l.Check(seq), lay.Area{})
			wantArea(t, c, "Full", seq, l.Full(seq), lay.Area{})
			wantArea(t, c, "Delta", seq, l.Delta(seq), lay.Area{})
		}
	}
}

func TestBucketAndTotal(t *testing.T) {
	for _, c := range configs() {
		l, p := of(t, c), planOf(c)
		for bucket := range p.buckets {
			want(t, c, "Bucket, version 0", l.Bucket(bucket, 0), p.bucket+2*bucket)
			want(t, c, "Bucket, version 1", l.Bucket(bucket, 1), p.bucket+2*bucket+1)
			for _, version := range append([]int{2, 3, 256, 1 << 32, 1<<32 + 1, math.MaxInt}, below...) {
				want(t, c, "Bucket of no version", l.Bucket(bucket, version), -1)
			}
		}
		for _, bucket := range append([]int{p.buckets, p.buckets + 1, 2 * p.buckets, 1 << 16, 1 << 32, 1<<32 + 1, 1 << 62, math.MaxInt}, below...) {
			want(t, c, "Bucket of none", l.Bucket(bucket, 0), -1)
			want(t, c, "Bucket of none", l.Bucket(bucket, 1), -1)
			want(t, c, "Bucket of none, and no version", l.Bucket(bucket, bucket), -1)
		}
		want(t, c, "Total", l.Total(), p.total)
	}
}

// P13.4

func TestTickOps(t *testing.T) {
	for _, c := range configs() {
		l, p := of(t, c), planOf(c)
		s, h := slots(c), c.Height+1
		for _, seq := range seqs() {
			ops := c.Rounds + 1 + s*p.logs[0].Cells + 2*s*h + p.check(c, uint64(seq)).Cells + p.clogs[0].Cells + 3
			want(t, c, "TickOps", l.TickOps(seq), ops)
		}
		for _, seq := range below {
			want(t, c, "TickOps below 0", l.TickOps(seq), 0)
		}
	}
}

func TestRecoverOps(t *testing.T) {
	for _, c := range configs() {
		l, p := of(t, c), planOf(c)
		s, h, delta := slots(c), c.Height+1, 0
		if c.Period > 1 {
			delta = p.deltas[0].Cells
		}
		for _, seq := range seqs() {
			ops := 4 + p.fulls[0].Cells + seq%c.Period*delta + s*p.logs[0].Cells + p.clogs[0].Cells + p.check(c, uint64(seq)+1).Cells + 3
			// The words name no greatest number of slots.
			for _, slots := range []int{0, 1, c.Read, s - 1, s, s + 1, 1000, 1 << 40} {
				want(t, c, "RecoverOps", l.RecoverOps(seq, slots), ops+2*slots*h)
			}
			for _, slots := range below {
				want(t, c, "RecoverOps of slots below 0", l.RecoverOps(seq, slots), 0)
			}
		}
		for _, seq := range below {
			want(t, c, "RecoverOps below 0", l.RecoverOps(seq, 0), 0)
			want(t, c, "RecoverOps below 0", l.RecoverOps(seq, s), 0)
			want(t, c, "RecoverOps, both below 0", l.RecoverOps(seq, seq), 0)
		}
	}
}

func TestMakeOps(t *testing.T) {
	for _, c := range configs() {
		want(t, c, "MakeOps", of(t, c).MakeOps(), 5+planOf(c).fulls[0].Cells)
	}
}

// What the tables are, and how long the queue is, tells nothing on the disk.
func TestQueueAndTablesMoveNothing(t *testing.T) {
	a := usual()
	b := usual()
	b.Queue, b.Tables = 16, greatest().Tables
	l, m := of(t, a), of(t, b)
	want(t, a, "Total", l.Total(), m.Total())
	for seq := range 8 {
		wantArea(t, a, "Check", seq, l.Check(seq), m.Check(seq))
		want(t, a, "TickOps", l.TickOps(seq), m.TickOps(seq))
		want(t, a, "RecoverOps", l.RecoverOps(seq, 2), m.RecoverOps(seq, 2))
	}
}

// P13.5

// scribble writes over a list and the room behind it, and appends to it.
func scribble[T any](l []T, junk T) {
	whole := l[:cap(l)]
	for i := range whole {
		whole[i] = junk
	}
	_ = append(l, junk, junk, junk)
}

// The tables lie in wider memory, and two of them are one list.
func wideTables() ([][]int, [][]int) {
	kinds := []int{2, 1, 1, 77, 78}
	memory := [][]int{kinds[:3], kinds[:1], {1, 2}, kinds[:3], {79}, nil, {80, 81, 82, 83, 84}}
	return memory[:4], memory
}

func TestTablesHandedInAreNeitherChangedNorKept(t *testing.T) {
	c := usual()
	tables, memory := wideTables()
	_, whole := wideTables()
	c.Tables = tables
	wantConfig(t, c)
	l := of(t, c)
	scribble(l.Tables[0], 2)
	scribble(of(t, c).Tables, []int{2, 2})
	for i, kinds := range memory {
		if !slices.Equal(kinds[:cap(kinds)], whole[i][:cap(whole[i])]) {
			t.Errorf("changed: %v", memory)
		}
	}
	l = of(t, c)
	for _, kinds := range memory {
		scribble(kinds, 9)
	}
	scribble(memory, []int{9})
	if !reflect.DeepEqual(l.Tables, [][]int{{2, 1, 1}, {2}, {1, 2}, {2, 1, 1}}) {
		t.Errorf("written over: %v", l.Tables)
	}
}

func TestWhatLiesBehindTheTablesIsNotRead(t *testing.T) {
	c := usual()
	c.Tables = [][]int{{1}, {2}, {9}}[:2]
	wantConfig(t, c)
	c.Tables = [][]int{{1}, []int{1, 2, 9}[:2], nil, {9}, {1}}[:2]
	wantConfig(t, c)
	// A kind lies there, but behind the length.
	c.Tables = [][]int{[]int{1}[:0]}
	wantNoLay(t, c)
	c.Tables = [][]int{{1}}[:0]
	wantNoLay(t, c)
}

func TestTablesHandedOutAreNewMemory(t *testing.T) {
	c := usual()
	tables, _ := wideTables()
	c.Tables = tables
	first, second := of(t, c), of(t, c)
	scribble(second.Tables[1], 9)
	scribble(second.Tables, []int{9})
	right := [][]int{{2, 1, 1}, {2}, {1, 2}, {2, 1, 1}}
	if !reflect.DeepEqual(first.Tables, right) {
		t.Errorf("one shows in another: %v", first.Tables)
	}
	// Those of one answer are apart too, though the ones handed in share their memory.
	for i := range right {
		l := of(t, c)
		scribble(l.Tables[i], 9)
		for j := range right {
			if j != i && !slices.Equal(l.Tables[j], right[j]) {
				t.Errorf("table %d shows in table %d: %v", i, j, l.Tables)
			}
		}
	}
}

// P13.6

func TestAreasAreApart(t *testing.T) {
	for _, c := range configs() {
		l := of(t, c)
		taken := map[int]int{lay.Gen: 1, lay.Commit: 1}
		take := func(a lay.Area) {
			if a.Cells < 1 {
				t.Errorf("%v: %v", c, a)
			}
			for i := range a.Cells {
				taken[a.First+i]++
			}
		}
		for slot := range l.Slots() {
			take(l.Log(slot))
		}
		take(l.Clog(4))
		take(l.Clog(5))
		for seq := range 2 * c.Period {
			take(l.Check(2*c.Period + seq))
		}
		for bucket := range buckets(c) {
			take(lay.Area{First: l.Bucket(bucket, 0), Cells: 1})
			take(lay.Area{First: l.Bucket(bucket, 1), Cells: 1})
		}
		// Apart, below Total, and none is left over.
		for cell := range l.Total() {
			want(t, c, "areas of a cell", taken[cell], 1)
		}
		want(t, c, "cells taken", len(taken), l.Total())
	}
}
