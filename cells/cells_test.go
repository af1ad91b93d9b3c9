package cells_test

import (
	"bytes"
	"math"
	"slices"
	"testing"

	"oubliette/api"
	"oubliette/cells"
)

const (
	maxCells = 1 << 16
	maxSize  = 1 << 12
)

// Addresses and counts that no store has.
var outside = []int{-1, -2, math.MinInt, maxCells, math.MaxInt}

func made(t *testing.T, n, size int) *cells.Store {
	t.Helper()
	s, e := cells.New(n, size)
	if s == nil || e != api.OK {
		t.Fatalf("New(%d, %d): %d", n, size, e)
	}
	return s
}

// state is all that a store tells but its cells.
type state struct {
	up          bool
	flight, ops int
}

func wantState(t *testing.T, what string, s *cells.Store, want state) {
	t.Helper()
	if got := (state{s.Up(), s.Flight(), s.Ops()}); got != want {
		t.Errorf("%s: %+v; want %+v", what, got, want)
	}
}

// wantCells asks for stores of one byte a cell.
func wantCells(t *testing.T, what string, s *cells.Store, want ...byte) {
	t.Helper()
	if got := peekAll(s); !bytes.Equal(got, want) {
		t.Errorf("%s: %v; want %v", what, got, want)
	}
}

func peekAll(s *cells.Store) []byte {
	var all []byte
	for addr := range s.Cells() {
		all = append(all, s.Peek(addr)...)
	}
	return all
}

func wantRead(t *testing.T, s *cells.Store, addr int, e api.Errno, want ...byte) {
	t.Helper()
	b, got := s.Read(addr)
	if got != e || !bytes.Equal(b, want) {
		t.Errorf("Read(%d): %v, %d; want %v, %d", addr, b, got, want, e)
	}
}

func wantWrite(t *testing.T, s *cells.Store, addr int, e api.Errno, b ...byte) {
	t.Helper()
	if got := s.Write(addr, b); got != e {
		t.Errorf("Write(%d, %v): %d; want %d", addr, b, got, e)
	}
}

func wantSync(t *testing.T, s *cells.Store, e api.Errno) {
	t.Helper()
	if got := s.Sync(); got != e {
		t.Errorf("Sync: %d; want %d", got, e)
	}
}

func wantTold(t *testing.T, what string, got, want bool) {
	t.Helper()
	if got != want {
		t.Errorf("%s: %t", what, got)
	}
}

// P2.1

func TestNewOutOfBounds(t *testing.T) {
	sizes := []int{0, -1, math.MinInt, maxSize + 1, maxCells, math.MaxInt}
	counts := []int{0, -1, math.MinInt, maxCells + 1, math.MaxInt}
	for _, n := range counts {
		for _, size := range append(sizes, 1, maxSize) {
			wantNone(t, n, size)
		}
	}
	for _, size := range sizes {
		wantNone(t, 1, size)
		wantNone(t, maxCells, size)
	}
}

func wantNone(t *testing.T, n, size int) {
	t.Helper()
	if s, e := cells.New(n, size); s != nil || e != api.ErrRange {
		t.Errorf("New(%d, %d): %v, %d", n, size, s != nil, e)
	}
}

func TestNewAtItsBounds(t *testing.T) {
	for _, c := range [][2]int{{1, 1}, {1, maxSize}, {maxCells, 1}, {maxCells, maxSize}, {3, 5}} {
		s := made(t, c[0], c[1])
		if s.Cells() != c[0] || s.Size() != c[1] {
			t.Errorf("%v: %d cells of %d", c, s.Cells(), s.Size())
		}
		wantState(t, "a new one", s, state{up: true})
		zeros := make([]byte, c[1])
		wantRead(t, s, 0, api.OK, zeros...)
		wantRead(t, s, c[0]-1, api.OK, zeros...)
		if !bytes.Equal(s.Peek(c[0]-1), zeros) || len(s.Peek(c[0])) > 0 {
			t.Errorf("%v: the last cell", c)
		}
	}
}

func TestStoresAreApart(t *testing.T) {
	a, b := made(t, 2, 1), made(t, 2, 1)
	a.Write(0, []byte{1})
	a.Arm(1)
	wantCells(t, "the other", b, 0, 0)
	wantSync(t, b, api.OK)
	wantSync(t, a, api.ErrDown)
	wantState(t, "the other", b, state{up: true, ops: 1})
}

func TestCountsStayBehindAFall(t *testing.T) {
	s := made(t, 2, 3)
	s.Write(1, []byte{1, 2, 3})
	s.Sync()
	s.Crash()
	wantState(t, "down", s, state{ops: 2})
	s.Reboot()
	wantState(t, "up again", s, state{up: true, ops: 2})
	if s.Cells() != 2 || s.Size() != 3 {
		t.Errorf("%d cells of %d", s.Cells(), s.Size())
	}
}

// P2.2

func TestReadSeesWritesInFlight(t *testing.T) {
	s := made(t, 3, 2)
	wantWrite(t, s, 1, api.OK, 1, 2)
	wantRead(t, s, 1, api.OK, 1, 2)
	wantWrite(t, s, 1, api.OK, 3, 4)
	wantWrite(t, s, 2, api.OK, 5, 6)
	wantRead(t, s, 1, api.OK, 3, 4)
	wantRead(t, s, 2, api.OK, 5, 6)
	wantRead(t, s, 0, api.OK, 0, 0)
	wantState(t, "ahead of the Sync", s, state{up: true, flight: 3, ops: 7})
	wantSync(t, s, api.OK)
	wantState(t, "behind the Sync", s, state{up: true, ops: 8})
	wantRead(t, s, 1, api.OK, 3, 4)
	wantRead(t, s, 2, api.OK, 5, 6)
}

func TestWritesOfTheSameBytesAreInFlightEach(t *testing.T) {
	s := made(t, 1, 1)
	for range 3 {
		wantWrite(t, s, 0, api.OK, 0)
	}
	wantState(t, "three", s, state{up: true, flight: 3, ops: 3})
}

func TestWrongOperationsCountAndChangeNothing(t *testing.T) {
	s := made(t, 3, 2)
	s.Write(1, []byte{1, 2})
	ops := 1
	for _, addr := range append(outside, 3) {
		wantRead(t, s, addr, api.ErrRange)
		wantWrite(t, s, addr, api.ErrRange, 3, 4)
		wantWrite(t, s, addr, api.ErrRange)
		wantWrite(t, s, addr, api.ErrRange, 3, 4, 5)
		ops += 4
		wantState(t, "an address that is none", s, state{up: true, flight: 1, ops: ops})
	}
	for _, b := range [][]byte{nil, {}, {3}, {3, 4, 5}, make([]byte, maxSize)} {
		wantWrite(t, s, 1, api.ErrForm, b...)
		ops++
		wantState(t, "bytes not of the size", s, state{up: true, flight: 1, ops: ops})
	}
	if !bytes.Equal(peekAll(s), []byte{0, 0, 1, 2, 0, 0}) {
		t.Errorf("changed: %v", peekAll(s))
	}
}

func TestNoOperationBeginsWhileDown(t *testing.T) {
	s := made(t, 2, 1)
	s.Write(0, []byte{1})
	s.Sync()
	s.Crash()
	for _, addr := range append(outside, 0, 1) {
		wantRead(t, s, addr, api.ErrDown)
		wantWrite(t, s, addr, api.ErrDown, 9)
		wantWrite(t, s, addr, api.ErrDown)
		wantSync(t, s, api.ErrDown)
	}
	wantState(t, "down", s, state{ops: 2})
	wantCells(t, "down", s, 1, 0)
}

func TestTheArmedOneCrashesWhateverItIs(t *testing.T) {
	for i, act := range []func(s *cells.Store) api.Errno{
		func(s *cells.Store) api.Errno { return s.Sync() },
		func(s *cells.Store) api.Errno { return s.Write(2, []byte{9}) },
		func(s *cells.Store) api.Errno { return s.Write(2, nil) },
		func(s *cells.Store) api.Errno { return s.Write(-1, []byte{9}) },
		readOnly(0), readOnly(-1), readOnly(math.MaxInt),
	} {
		s := made(t, 3, 1)
		s.Write(0, []byte{1})
		s.Write(1, []byte{2})
		s.Arm(1, false, true, true)
		if e := act(s); e != api.ErrDown {
			t.Errorf("case %d: %d", i, e)
		}
		wantState(t, "the one that crashed", s, state{ops: 3})
		wantCells(t, "the one that crashed", s, 0, 2, 0)
	}
}

func readOnly(addr int) func(s *cells.Store) api.Errno {
	return func(s *cells.Store) api.Errno {
		b, e := s.Read(addr)
		if len(b) > 0 {
			return api.OK
		}
		return e
	}
}

// P2.3: Arm

func TestArmOfTooFew(t *testing.T) {
	s := made(t, 1, 1)
	for _, after := range []int{0, -1, math.MinInt} {
		wantTold(t, "Arm", s.Arm(after, true), false)
	}
	s.Write(0, []byte{1})
	s.Arm(2, true)
	for _, after := range []int{0, -1, math.MinInt} {
		wantTold(t, "Arm", s.Arm(after), false)
	}
	wantRead(t, s, 0, api.OK, 1)
	wantSync(t, s, api.ErrDown)
	wantCells(t, "the Arm ahead of those that are none", s, 1)
}

func TestArmCountsOperationsOnly(t *testing.T) {
	s := made(t, 2, 1)
	wantTold(t, "Arm", s.Arm(5), true)
	wantWrite(t, s, 0, api.OK, 1)
	s.Peek(0)
	s.Flight()
	s.Ops()
	s.Cells()
	wantTold(t, "Reboot", s.Reboot(), false)
	wantRead(t, s, 7, api.ErrRange)
	wantWrite(t, s, 0, api.ErrForm)
	wantSync(t, s, api.OK)
	wantState(t, "four", s, state{up: true, ops: 4})
	wantRead(t, s, 0, api.ErrDown)
	wantState(t, "the fifth", s, state{ops: 5})
	wantCells(t, "the fifth", s, 1, 0)
}

func TestTheLastArmCounts(t *testing.T) {
	s := made(t, 2, 1)
	s.Arm(1, false, true)
	s.Arm(3, true)
	wantWrite(t, s, 0, api.OK, 1)
	wantWrite(t, s, 1, api.OK, 2)
	wantSync(t, s, api.ErrDown)
	wantCells(t, "the later one", s, 1, 0)
	s.Reboot()
	s.Arm(9, true)
	s.Arm(1)
	wantSync(t, s, api.ErrDown)
}

func TestArmCountsFromNowOn(t *testing.T) {
	s := made(t, 1, 1)
	s.Sync()
	s.Sync()
	s.Arm(2)
	wantSync(t, s, api.OK)
	s.Arm(2)
	wantSync(t, s, api.OK)
	wantSync(t, s, api.ErrDown)
	wantState(t, "down", s, state{ops: 5})
}

func TestArmOfManyDoesNotCome(t *testing.T) {
	s := made(t, 1, 1)
	s.Arm(math.MaxInt)
	for range 1000 {
		wantSync(t, s, api.OK)
	}
	wantState(t, "up", s, state{up: true, ops: 1000})
}

func TestArmIsGoneBehindItsCrash(t *testing.T) {
	s := made(t, 1, 1)
	s.Arm(1, true)
	wantSync(t, s, api.ErrDown)
	s.Reboot()
	for range 5 {
		wantSync(t, s, api.OK)
	}
	wantWrite(t, s, 0, api.OK, 1)
	s.Crash()
	wantCells(t, "the keep is gone too", s, 0)
}

func TestCrashTakesArmAway(t *testing.T) {
	s := made(t, 1, 1)
	s.Arm(2, true)
	s.Write(0, []byte{1})
	wantTold(t, "Crash", s.Crash(), true)
	wantCells(t, "Arm's keep is not Crash's", s, 0)
	s.Reboot()
	for range 5 {
		wantSync(t, s, api.OK)
	}
}

func TestArmWaitsWhileDown(t *testing.T) {
	s := made(t, 2, 1)
	s.Crash()
	wantTold(t, "Arm", s.Arm(2, true), true)
	for range 5 {
		wantSync(t, s, api.ErrDown)
		wantRead(t, s, 0, api.ErrDown)
	}
	wantTold(t, "a Crash that is none", s.Crash(false), false)
	wantTold(t, "Reboot", s.Reboot(), true)
	wantTold(t, "a Reboot that is none", s.Reboot(), false)
	wantWrite(t, s, 0, api.OK, 5)
	wantWrite(t, s, 1, api.ErrDown, 6)
	wantCells(t, "behind it", s, 5, 0)
}

// P2.3: Crash

func TestExample(t *testing.T) {
	s := made(t, 2, 1)
	s.Write(0, []byte{7})
	s.Crash()
	wantCells(t, "Crash()", s, 0, 0)
	s = made(t, 2, 1)
	s.Write(0, []byte{7})
	s.Crash(true)
	wantCells(t, "Crash(true)", s, 7, 0)
}

// TestCrashKeepsWhatItIsTold goes through every keep of five writes, shorter and longer ones too.
func TestCrashKeepsWhatItIsTold(t *testing.T) {
	writes := []struct {
		addr int
		b    byte
	}{{0, 2}, {1, 3}, {0, 4}, {2, 5}, {0, 6}}
	for length := range len(writes) + 3 {
		for mask := range 1 << length {
			keep := make([]bool, length)
			for i := range keep {
				keep[i] = mask>>i&1 == 1
			}
			s := made(t, 3, 1)
			s.Write(0, []byte{1})
			s.Sync()
			want := []byte{1, 0, 0}
			for i, w := range writes {
				s.Write(w.addr, []byte{w.b})
				if i < length && keep[i] {
					want[w.addr] = w.b
				}
			}
			wantTold(t, "Crash", s.Crash(keep...), true)
			wantState(t, "down", s, state{ops: 7})
			wantCells(t, "down", s, want...)
			s.Reboot()
			wantCells(t, "up", s, want...)
		}
	}
}

func TestWhatIsKeptIsDone(t *testing.T) {
	s := made(t, 2, 1)
	s.Write(0, []byte{1})
	s.Write(1, []byte{2})
	s.Crash(true)
	s.Reboot()
	wantState(t, "up", s, state{up: true, ops: 2})
	s.Write(0, []byte{3})
	s.Crash()
	wantCells(t, "the second fall", s, 1, 0)
}

func TestCrashWhileDownChangesNothing(t *testing.T) {
	s := made(t, 1, 1)
	s.Write(0, []byte{1})
	wantTold(t, "Crash", s.Crash(), true)
	wantTold(t, "Crash while down", s.Crash(true), false)
	wantCells(t, "down", s, 0)
	wantState(t, "down", s, state{ops: 1})
}

// P2.3: Reboot

func TestRebootWhileUpChangesNothing(t *testing.T) {
	s := made(t, 1, 1)
	s.Write(0, []byte{1})
	wantTold(t, "Reboot", s.Reboot(), false)
	wantState(t, "up", s, state{up: true, flight: 1, ops: 1})
	wantCells(t, "up", s, 1)
}

// P2.4

func TestPeekIsNoOperation(t *testing.T) {
	s := made(t, 2, 2)
	s.Write(1, []byte{1, 2})
	s.Arm(1, true)
	for range 5 {
		if !bytes.Equal(s.Peek(1), []byte{1, 2}) || !bytes.Equal(s.Peek(0), []byte{0, 0}) {
			t.Errorf("Peek: %v, %v", s.Peek(0), s.Peek(1))
		}
	}
	wantState(t, "up", s, state{up: true, flight: 1, ops: 1})
	s.Crash()
	if !bytes.Equal(s.Peek(1), []byte{0, 0}) {
		t.Errorf("Peek while down: %v", s.Peek(1))
	}
	for _, addr := range append(outside, 2) {
		if b := s.Peek(addr); len(b) > 0 {
			t.Errorf("Peek(%d): %v", addr, b)
		}
	}
}

// P2.5

func TestWhatIsHandedInIsNeitherChangedNorKept(t *testing.T) {
	memory := []byte{1, 2, 40, 41}
	keep := []bool{true, false, true}
	s := made(t, 1, 2)
	wantWrite(t, s, 0, api.OK, memory[:2]...)
	if e := s.Write(0, memory[:2]); e != api.OK {
		t.Errorf("Write: %d", e)
	}
	s.Arm(1, keep[:2]...)
	wantMemory(t, memory, keep)
	memory[0], keep[0] = 9, false
	wantSync(t, s, api.ErrDown)
	wantCells(t, "the first one is kept", s, 1, 2)
	memory[0], keep[0] = 1, true
	wantMemory(t, memory, keep)
	s.Reboot()
	s.Write(0, []byte{3, 4})
	s.Crash(keep...)
	wantMemory(t, memory, keep)
	wantCells(t, "the list that Crash was handed", s, 3, 4)
}

func wantMemory(t *testing.T, memory []byte, keep []bool) {
	t.Helper()
	if !bytes.Equal(memory, []byte{1, 2, 40, 41}) || !slices.Equal(keep, []bool{true, false, true}) {
		t.Errorf("changed: %v, %v", memory, keep)
	}
}

func TestNothingBehindTheLengthOfKeepIsRead(t *testing.T) {
	keep := []bool{false, true, true}
	s := made(t, 2, 1)
	s.Write(0, []byte{1})
	s.Write(1, []byte{2})
	s.Crash(keep[:1]...)
	wantCells(t, "Crash", s, 0, 0)
	s.Reboot()
	s.Write(0, []byte{1})
	s.Write(1, []byte{2})
	s.Arm(1, keep[:1]...)
	s.Sync()
	wantCells(t, "Arm", s, 0, 0)
}

func TestWhatIsHandedOutIsNewMemory(t *testing.T) {
	s := made(t, 2, 3)
	s.Write(0, []byte{1, 2, 3})
	a, _ := s.Read(0)
	b, _ := s.Read(0)
	c, d := s.Peek(0), s.Peek(1)
	scribble(a)
	scribble(c)
	if !bytes.Equal(b, []byte{1, 2, 3}) || !bytes.Equal(d, []byte{0, 0, 0}) {
		t.Errorf("one answer shows in another: %v, %v", b, d)
	}
	scribble(b)
	scribble(d)
	wantCells(t, "in flight", s, 1, 2, 3, 0, 0, 0)
	s.Sync()
	scribble(s.Peek(0))
	zero, _ := s.Read(1)
	scribble(zero)
	wantCells(t, "acknowledged", s, 1, 2, 3, 0, 0, 0)
	s.Write(0, []byte{4, 5, 6})
	s.Crash()
	scribble(s.Peek(0))
	wantCells(t, "down", s, 1, 2, 3, 0, 0, 0)
}

// scribble writes over a list, its spare room too.
func scribble(list []byte) {
	whole := list[:cap(list)]
	for i := range whole {
		whole[i] = 99
	}
	_ = append(list, 98, 97, 96)
}

// P2.6, and all of P2.2 and P2.3 together, against a plainer store.

type pending struct {
	addr int
	b    byte
}

// plain works each cell out from what is acknowledged and from all that is in flight.
type plain struct {
	sure   []byte
	flight []pending
	up     bool
	ops    int
	armed  int
	keep   []bool
}

func (p *plain) cell(addr int) byte {
	b := p.sure[addr]
	for _, w := range p.flight {
		if w.addr == addr {
			b = w.b
		}
	}
	return b
}

func (p *plain) cells() []byte {
	var all []byte
	for addr := range p.sure {
		all = append(all, p.cell(addr))
	}
	return all
}

func (p *plain) fall(keep []bool) {
	for i, w := range p.flight {
		if i < len(keep) && keep[i] {
			p.sure[w.addr] = w.b
		}
	}
	p.flight, p.up, p.armed = nil, false, 0
}

func (p *plain) begin() bool {
	if !p.up {
		return false
	}
	p.ops++
	p.armed--
	if p.armed == 0 {
		p.fall(p.keep)
	}
	return p.up
}

// steps tells numbers that look like chance, the same ones each time.
type steps uint64

func (r *steps) below(n int) int {
	*r = *r*6364136223846793005 + 1442695040888963407
	return int(uint64(*r)>>33) % n
}

func (r *steps) bools() []bool {
	list := make([]bool, r.below(5))
	for i := range list {
		list[i] = r.below(2) == 1
	}
	return list
}

func expected(began bool, e api.Errno) api.Errno {
	if !began {
		return api.ErrDown
	}
	return e
}

func (p *plain) step(t *testing.T, s *cells.Store, r *steps) {
	t.Helper()
	addr, b := r.below(5)-1, byte(r.below(255)+1)
	inside := addr >= 0 && addr < len(p.sure)
	switch r.below(12) {
	case 0, 1, 2, 3, 4:
		began := p.begin()
		if began && inside {
			p.flight = append(p.flight, pending{addr, b})
		}
		wantWrite(t, s, addr, expected(began, rangeOf(inside)), b)
	case 5, 6:
		e := expected(p.begin(), rangeOf(inside))
		if e == api.OK {
			wantRead(t, s, addr, e, p.cell(addr))
		} else {
			wantRead(t, s, addr, e)
		}
	case 7:
		e := expected(p.begin(), api.OK)
		if e == api.OK {
			p.sure, p.flight = p.cells(), nil
		}
		wantSync(t, s, e)
	case 8:
		after, keep := r.below(9)-1, r.bools()
		if after > 0 {
			p.armed, p.keep = after, keep
		}
		wantTold(t, "Arm", s.Arm(after, keep...), after > 0)
	case 9:
		keep, was := r.bools(), p.up
		if was {
			p.fall(keep)
		}
		wantTold(t, "Crash", s.Crash(keep...), was)
	default:
		wantTold(t, "Reboot", s.Reboot(), !p.up)
		p.up = true
	}
}

func rangeOf(inside bool) api.Errno {
	if inside {
		return api.OK
	}
	return api.ErrRange
}

func TestAgainstAPlainerStore(t *testing.T) {
	for seed := range 50 {
		r := steps(seed)
		s := made(t, 3, 1)
		p := &plain{sure: make([]byte, 3), up: true}
		for range 400 {
			p.step(t, s, &r)
			wantState(t, "state", s, state{p.up, len(p.flight), p.ops})
			wantCells(t, "cells", s, p.cells()...)
			if t.Failed() {
				t.Fatalf("seed %d", seed)
			}
		}
	}
}

// TestManyInFlight would not end in its time if each Read went through all that is in flight.
func TestManyInFlight(t *testing.T) {
	s := made(t, 2, 1)
	const many = 200000
	for i := range many {
		s.Write(i%2, []byte{byte(i)})
		s.Read(i % 2)
	}
	wantState(t, "many", s, state{up: true, flight: many, ops: 2 * many})
	keep := make([]bool, many)
	keep[many-5] = true
	s.Crash(keep...)
	left := byte((many - 5) % 256)
	wantCells(t, "the one of address 1", s, 0, left)
}
