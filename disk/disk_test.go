package disk

import (
	"bytes"
	"math"
	"slices"
	"strings"
	"testing"

	"lamplighter/api"
)

func newDisk(t *testing.T, room int) *Disk {
	t.Helper()
	d, e := New(room)
	if e != api.OK || d == nil {
		t.Fatalf("New(%d): %v %v", room, d, e)
	}
	return d
}

// crash calls f, and tells the crash it panics with; -1, if there is none.
func crash(t *testing.T, f func()) (op int) {
	t.Helper()
	defer func() {
		switch x := recover().(type) {
		case nil:
			op = -1
		case api.Crash:
			op = x.Op
		default:
			t.Fatalf("panic with %v", x)
		}
	}()
	f()
	return -1
}

func wantFile(t *testing.T, d *Disk, name, want string, safe int) {
	t.Helper()
	b, e := d.Read(name)
	if e != api.OK || string(b) != want || d.Synced(name) != safe {
		t.Errorf("file %s: %q, %d safe (%v), not %q, %d safe", name, b, d.Synced(name), e, want, safe)
	}
}

func wantNone(t *testing.T, d *Disk, name string) {
	t.Helper()
	if b, e := d.Read(name); e != api.ErrNone || len(b) != 0 || d.Synced(name) != 0 {
		t.Errorf("file %s: %q %v", name, b, e)
	}
}

// P2.1: rooms.
func TestRoom(t *testing.T) {
	for _, n := range []int{-1, math.MinInt, api.MaxRoom + 1, math.MaxInt} {
		if d, e := New(n); d != nil || e != api.ErrRange {
			t.Errorf("New(%d): %v %v", n, d, e)
		}
	}
	for _, n := range []int{0, 1, api.MaxRoom} {
		d := newDisk(t, n)
		if d.Room() != n || d.Used() != 0 || d.Ops() != 0 || len(d.Names()) != 0 {
			t.Errorf("New(%d): room %d", n, d.Room())
		}
	}
	d := newDisk(t, 7)
	for _, n := range []int{-1, api.MaxRoom + 1, math.MinInt, math.MaxInt} {
		if e := d.SetRoom(n); e != api.ErrRange || d.Room() != 7 {
			t.Errorf("SetRoom(%d): %v, room %d", n, e, d.Room())
		}
	}
	for _, n := range []int{0, 5, api.MaxRoom} {
		if e := d.SetRoom(n); e != api.OK || d.Room() != n {
			t.Errorf("SetRoom(%d): %v, room %d", n, e, d.Room())
		}
	}
}

// P2.1: Append lays what there is room for.
func TestAppend(t *testing.T) {
	d := newDisk(t, 5)
	steps := []struct {
		name, bytes string
		laid        int
		e           api.Errno
		used, ops   int
	}{
		{"a", "", 0, api.OK, 0, 1},
		{"b", "123", 3, api.OK, 3, 2},
		{"a", "456", 2, api.ErrFull, 5, 3},
		{"c", "7", 0, api.ErrFull, 5, 4},
		{"c", "", 0, api.OK, 5, 5},
		{"A", "7", 0, api.ErrName, 5, 5},
		{"", "", 0, api.ErrName, 5, 5},
		{strings.Repeat("a", 33), "", 0, api.ErrName, 5, 5},
		{strings.Repeat("a", 32), "", 0, api.OK, 5, 6},
	}
	for _, s := range steps {
		n, e := d.Append(s.name, []byte(s.bytes)...)
		if n != s.laid || e != s.e || d.Used() != s.used || d.Ops() != s.ops {
			t.Errorf("Append(%q, %q): %d %v, %d used, %d ops", s.name, s.bytes, n, e, d.Used(), d.Ops())
		}
	}
	wantFile(t, d, "a", "45", 0)
	wantFile(t, d, "b", "123", 0)
	wantFile(t, d, "c", "", 0)
	if got := d.Names(); !slices.Equal(got, []string{"a", strings.Repeat("a", 32), "b", "c"}) {
		t.Errorf("names %q", got)
	}
}

// P2.1: a disk that has more bytes than room lays none.
func TestMoreThanRoom(t *testing.T) {
	d := newDisk(t, 5)
	d.Append("a", 1, 2, 3, 4)
	d.SetRoom(2)
	if n, e := d.Append("a", 5); n != 0 || e != api.ErrFull || d.Used() != 4 {
		t.Errorf("%d %v, %d used", n, e, d.Used())
	}
	if n, e := d.Append("b"); n != 0 || e != api.OK {
		t.Errorf("no bytes: %d %v", n, e)
	}
	d.SetRoom(5)
	if n, e := d.Append("b", 5, 6); n != 1 || e != api.ErrFull || d.Used() != 5 {
		t.Errorf("%d %v, %d used", n, e, d.Used())
	}
}

// P2.1: Truncate.
func TestTruncate(t *testing.T) {
	d := newDisk(t, 9)
	d.Append("a", []byte("123")...)
	d.Sync("a")
	d.Append("a", []byte("45")...)
	ops := d.Ops()
	for _, s := range []struct {
		name string
		n    int
		e    api.Errno
	}{{"b", 0, api.ErrNone}, {"", -1, api.ErrNone}, {"a", -1, api.ErrRange}, {"a", 6, api.ErrRange}, {"a", math.MinInt, api.ErrRange}, {"a", math.MaxInt, api.ErrRange}} {
		if e := d.Truncate(s.name, s.n); e != s.e || d.Ops() != ops {
			t.Errorf("Truncate(%q, %d): %v, %d ops", s.name, s.n, e, d.Ops())
		}
	}
	for _, s := range []struct {
		n    int
		left string
		safe int
	}{{5, "12345", 3}, {4, "1234", 3}, {2, "12", 2}, {0, "", 0}} {
		if e := d.Truncate("a", s.n); e != api.OK || d.Used() != s.n {
			t.Errorf("Truncate(a, %d): %v, %d used", s.n, e, d.Used())
		}
		wantFile(t, d, "a", s.left, s.safe)
	}
	if d.Ops() != ops+4 {
		t.Errorf("%d ops", d.Ops())
	}
}

// P2.1: Sync and Remove.
func TestSyncRemove(t *testing.T) {
	d := newDisk(t, 9)
	for _, name := range []string{"a", "", "A"} {
		if e := d.Sync(name); e != api.ErrNone {
			t.Errorf("Sync(%q): %v", name, e)
		}
		if e := d.Remove(name); e != api.ErrNone {
			t.Errorf("Remove(%q): %v", name, e)
		}
	}
	if d.Ops() != 0 {
		t.Errorf("%d ops", d.Ops())
	}
	d.Append("a", 1, 2)
	d.Append("b", 3)
	if e := d.Sync("a"); e != api.OK || d.Synced("a") != 2 || d.Synced("b") != 0 {
		t.Errorf("Sync: %v, %d and %d safe", e, d.Synced("a"), d.Synced("b"))
	}
	if e := d.Remove("a"); e != api.OK || d.Used() != 1 || d.Ops() != 4 {
		t.Errorf("Remove: %v, %d used, %d ops", e, d.Used(), d.Ops())
	}
	wantNone(t, d, "a")
	if e := d.Remove("a"); e != api.ErrNone || d.Ops() != 4 {
		t.Errorf("Remove again: %v", e)
	}
}

// P2.1: Rename.
func TestRename(t *testing.T) {
	d := newDisk(t, 9)
	d.Append("a", 'a', 'a')
	d.Sync("a")
	d.Append("a", 'b')
	d.Append("c", 'c')
	d.Append("e", 'e')
	for _, s := range []struct {
		old, name string
		e         api.Errno
	}{{"b", "c", api.ErrNone}, {"b", "", api.ErrNone}, {"a", "", api.ErrName}, {"a", "A", api.ErrName}, {"a", strings.Repeat("a", 33), api.ErrName}} {
		if e := d.Rename(s.old, s.name); e != s.e || d.Ops() != 5 {
			t.Errorf("Rename(%q, %q): %v", s.old, s.name, e)
		}
	}
	if e := d.Rename("a", "a"); e != api.OK || d.Ops() != 6 || d.Used() != 5 {
		t.Errorf("the same name: %v, %d ops, %d used", e, d.Ops(), d.Used())
	}
	wantFile(t, d, "a", "aab", 2)
	if e := d.Rename("a", "c"); e != api.OK || d.Ops() != 7 || d.Used() != 4 {
		t.Errorf("Rename(a, c): %v, %d ops, %d used", e, d.Ops(), d.Used())
	}
	wantNone(t, d, "a")
	wantFile(t, d, "c", "aab", 2)
	wantFile(t, d, "e", "e", 0)
	if e := d.Rename("c", "d"); e != api.OK {
		t.Errorf("Rename(c, d): %v", e)
	}
	wantNone(t, d, "c")
	wantFile(t, d, "d", "aab", 2)
}

// P2.2, and the line on nil disks.
func TestNil(t *testing.T) {
	var d *Disk
	if n, e := d.Append("A", 1); n != 0 || e != api.ErrNil {
		t.Errorf("Append: %d %v", n, e)
	}
	if b, e := d.Read("a"); len(b) != 0 || e != api.ErrNil {
		t.Errorf("Read: %x %v", b, e)
	}
	l := []api.Errno{d.Truncate("a", -1), d.Sync("a"), d.Rename("a", "A"), d.Remove("a"), d.SetRoom(-1), d.Fail(0), d.Arm(0, 0), d.Power(0)}
	for i, e := range l {
		if e != api.ErrNil {
			t.Errorf("call %d: %v", i, e)
		}
	}
	if d.Synced("a") != 0 || len(d.Names()) != 0 || d.Used() != 0 || d.Room() != 0 || d.Ops() != 0 {
		t.Error("a nil disk has something")
	}
}

// P2.3: the n-th sync fails, and makes nothing safe.
func TestFail(t *testing.T) {
	d := newDisk(t, 99)
	d.Append("a", 1)
	for _, n := range []int{0, -1, math.MinInt} {
		if e := d.Fail(n); e != api.ErrRange {
			t.Errorf("Fail(%d): %v", n, e)
		}
	}
	d.Fail(5)
	if e := d.Fail(2); e != api.OK {
		t.Errorf("Fail(2): %v", e)
	}
	d.Fail(0)
	want := []api.Errno{api.OK, api.ErrIo, api.OK, api.OK, api.OK}
	for i, w := range want {
		safe := d.Synced("a")
		d.Append("a", 2)
		d.Sync("none")
		if w == api.OK {
			safe = i + 2
		}
		if e := d.Sync("a"); e != w || d.Synced("a") != safe {
			t.Errorf("sync %d: %v, %d safe", i, e, d.Synced("a"))
		}
	}
	if d.Ops() != 11 {
		t.Errorf("%d ops: a sync that fails is a change", d.Ops())
	}
	d.Fail(1)
	d.Power(0)
	if e := d.Sync("a"); e != api.OK {
		t.Errorf("what Fail asked wasn't forgotten when the power went: %v", e)
	}
}

// P2.3: at the n-th change the power goes; an Append lays a part ahead.
func TestArmAppend(t *testing.T) {
	for _, s := range []struct {
		keep int
		want string
	}{{-1, "12"}, {math.MinInt, "12"}, {0, "12"}, {1, "123"}, {2, "1234"}, {3, "12345"}, {4, "12345"}, {math.MaxInt, "12345"}} {
		d := newDisk(t, 5)
		d.Append("a", '1', '2')
		d.Arm(1, s.keep)
		if op := crash(t, func() { d.Append("a", []byte("3456")...) }); op != 2 || d.Ops() != 2 {
			t.Errorf("keep %d: op %d, %d ops", s.keep, op, d.Ops())
		}
		wantFile(t, d, "a", s.want, 0)
		if d.Used() != len(s.want) {
			t.Errorf("keep %d: %d used", s.keep, d.Used())
		}
		if op := crash(t, func() { d.Append("b") }); op != -1 {
			t.Errorf("keep %d: it isn't forgotten: %d", s.keep, op)
		}
	}
	d := newDisk(t, 5)
	d.Arm(1, 0)
	if op := crash(t, func() { d.Append("new", 1) }); op != 1 {
		t.Errorf("op %d", op)
	}
	wantFile(t, d, "new", "", 0)
}

// P2.3: any other change is done, if keep is odd, else it isn't.
func TestArmOthers(t *testing.T) {
	for _, keep := range []int{0, 1, 2, 3, -1, -2, math.MinInt, math.MaxInt} {
		odd := keep&1 == 1
		for name, change := range map[string]func(d *Disk){
			"truncate": func(d *Disk) { d.Truncate("a", 1) },
			"sync":     func(d *Disk) { d.Sync("a") },
			"rename":   func(d *Disk) { d.Rename("a", "b") },
			"remove":   func(d *Disk) { d.Remove("a") },
		} {
			once, armed := newDisk(t, 5), newDisk(t, 5)
			for _, d := range []*Disk{once, armed} {
				d.Append("a", 1, 2, 3)
				d.Append("b", 4)
			}
			if odd {
				change(once)
			}
			armed.Arm(1, keep)
			if op := crash(t, func() { change(armed) }); op != 3 {
				t.Errorf("%s, keep %d: op %d", name, keep, op)
			}
			if got, want := tell(armed), tell(once); got != want {
				t.Errorf("%s, keep %d: %s, not %s", name, keep, got, want)
			}
		}
	}
}

// P2.3: only changes are counted; what was asked ahead is forgotten; refused calls ask nothing.
func TestArmCounts(t *testing.T) {
	d := newDisk(t, 9)
	d.Append("a", 1)
	for _, n := range []int{0, -1, math.MinInt} {
		if e := d.Arm(n, 0); e != api.ErrRange {
			t.Errorf("Arm(%d): %v", n, e)
		}
	}
	d.Arm(1, 0)
	d.Arm(3, 1)
	d.Arm(0, 0)
	ignored := func() {
		d.Append("A", 1)
		d.Truncate("a", 99)
		d.Truncate("none", 0)
		d.Sync("none")
		d.Rename("none", "b")
		d.Rename("a", "B")
		d.Remove("none")
		d.SetRoom(9)
		d.Read("a")
	}
	for range 2 {
		if op := crash(t, ignored); op != -1 {
			t.Fatalf("op %d", op)
		}
		if op := crash(t, func() { d.Append("a", 1) }); op != -1 {
			t.Fatalf("op %d", op)
		}
	}
	if op := crash(t, func() { d.Sync("a") }); op != 4 || d.Synced("a") != 3 {
		t.Errorf("op %d, %d safe", op, d.Synced("a"))
	}
	d.Arm(1, 0)
	d.Power(0)
	if op := crash(t, func() { d.Append("a", 1) }); op != -1 {
		t.Errorf("what Arm asked wasn't forgotten when the power went: op %d", op)
	}
}

// P2.3: a sync that Fail has asked to fail isn't done at all when the power goes in it, and was the one that was asked for.
func TestArmAndFail(t *testing.T) {
	d := newDisk(t, 9)
	d.Append("a", 1, 2)
	d.Fail(1)
	d.Arm(1, 1)
	if op := crash(t, func() { d.Sync("a") }); op != 2 || d.Synced("a") != 0 {
		t.Errorf("op %d, %d safe", op, d.Synced("a"))
	}
	if e := d.Sync("a"); e != api.OK || d.Synced("a") != 2 {
		t.Errorf("the sync behind: %v, %d safe", e, d.Synced("a"))
	}
	d.Fail(2)
	d.Arm(1, 0)
	crash(t, func() { d.Sync("a") })
	if e := d.Sync("a"); e != api.ErrIo {
		t.Errorf("the second sync from then on: %v", e)
	}
}

// P2.3: when the power goes, safe bytes are left, and keep more.
func TestPower(t *testing.T) {
	for _, s := range []struct {
		keep       int
		a, b, free string
	}{{-1, "12", "", ""}, {math.MinInt, "12", "", ""}, {0, "12", "", ""}, {1, "123", "6", ""}, {2, "1234", "67", ""}, {3, "12345", "678", ""}, {4, "12345", "6789", ""}, {math.MaxInt, "12345", "6789", ""}} {
		d := newDisk(t, 20)
		d.Append("a", []byte("12")...)
		d.Sync("a")
		d.Append("a", []byte("345")...)
		d.Append("b", []byte("6789")...)
		d.Append("free")
		ops := d.Ops()
		if e := d.Power(s.keep); e != api.OK || d.Ops() != ops {
			t.Errorf("Power(%d): %v, %d ops", s.keep, e, d.Ops())
		}
		wantFile(t, d, "a", s.a, len(s.a))
		wantFile(t, d, "b", s.b, len(s.b))
		wantFile(t, d, "free", s.free, 0)
		if d.Used() != len(s.a)+len(s.b) {
			t.Errorf("Power(%d): %d used", s.keep, d.Used())
		}
	}
}

// The document's second example.
func TestExample(t *testing.T) {
	d := newDisk(t, 5)
	if n, e := d.Append("a", 1, 2, 3); n != 3 || e != api.OK {
		t.Errorf("%d %v", n, e)
	}
	d.Sync("a")
	if n, e := d.Append("a", 4, 5, 6); n != 2 || e != api.ErrFull {
		t.Errorf("%d %v", n, e)
	}
	d.Power(1)
	wantFile(t, d, "a", "\x01\x02\x03\x04", 4)
}

// Rule 4: what was handed in may be changed, and what was answered.
func TestListsStay(t *testing.T) {
	d := newDisk(t, 99)
	memory := []byte("abcdef")
	d.Append("a", memory[:3]...)
	memory[0] = 'x'
	wantFile(t, d, "a", "abc", 0)
	b, _ := d.Read("a")
	b[0] = 'y'
	_ = append(b, "zzzz"...)
	wantFile(t, d, "a", "abc", 0)
	d.Append("a", 'd')
	if string(memory) != "xbcdef" {
		t.Errorf("memory: %s", memory)
	}
	c, _ := d.Read("a")
	d.Truncate("a", 0)
	d.Append("a", []byte("ghij")...)
	if string(c) != "abcd" {
		t.Errorf("an answer was changed: %s", c)
	}
	d.Append("b")
	names := d.Names()
	names[0] = "q"
	if got := d.Names(); !slices.Equal(got, []string{"a", "b"}) {
		t.Errorf("names %q", got)
	}
}

// P2.4: what is laid, and how long files are, by a plain model and many changes by a fixed row of numbers.
func TestManyChanges(t *testing.T) {
	seed := uint32(1)
	next := func(n int) int {
		seed = seed*1664525 + 1013904223
		return int(seed>>8) % n
	}
	names := []string{"a", "b", "c"}
	for range 300 {
		d, m := newDisk(t, 20), model{room: 20, files: map[string]modelFile{}}
		for range 60 {
			name, n, k := names[next(3)], next(12), next(7)-2
			switch kind := next(12); kind {
			case 0, 1, 2, 3:
				b := bytes.Repeat([]byte{byte(next(256))}, n)
				m.append(name, b, crash(t, func() { d.Append(name, b...) }) >= 0)
			case 4, 5:
				lost := crash(t, func() { d.Sync(name) }) >= 0
				m.whole(name, lost, func(f modelFile) { f.safe = len(f.bytes); m.files[name] = f })
			case 6:
				if f, ok := m.files[name]; !ok || n > len(f.bytes) {
					continue
				}
				lost := crash(t, func() { d.Truncate(name, n) }) >= 0
				m.whole(name, lost, func(f modelFile) { m.files[name] = modelFile{f.bytes[:n], min(f.safe, n)} })
			case 7:
				lost := crash(t, func() { d.Remove(name) }) >= 0
				m.whole(name, lost, func(modelFile) { delete(m.files, name) })
			case 8:
				to := names[next(3)]
				lost := crash(t, func() { d.Rename(name, to) }) >= 0
				m.whole(name, lost, func(f modelFile) { delete(m.files, name); m.files[to] = f })
			case 9:
				d.Power(k)
				m.power(k)
			case 10:
				d.SetRoom(10 + n)
				m.room = 10 + n
			case 11:
				d.Arm(n+1, n)
				m.keep = n
			}
			if got, want := tell(d), m.tell(); got != want {
				t.Fatalf("%s, not %s", got, want)
			}
		}
	}
}

// tell is all that a disk has in its files.
func tell(d *Disk) string {
	s := ""
	used := 0
	for _, name := range d.Names() {
		b, _ := d.Read(name)
		used += len(b)
		s += name + "=" + string(b[:d.Synced(name)]) + "/" + string(b[d.Synced(name):]) + " "
	}
	if used != d.Used() {
		return s + "wrong use"
	}
	return s
}

type modelFile struct {
	bytes string
	safe  int
}

// model is a disk as the chapter tells it, without armed changes but by what keep was.
type model struct {
	room, keep int
	files      map[string]modelFile
}

func (m *model) used() int {
	n := 0
	for _, f := range m.files {
		n += len(f.bytes)
	}
	return n
}

func (m *model) append(name string, b []byte, lost bool) {
	for i, c := range b {
		if m.used() >= m.room || lost && i >= m.keep {
			break
		}
		f := m.files[name]
		f.bytes += string([]byte{c})
		m.files[name] = f
	}
	m.files[name] = m.files[name]
}

func (m *model) whole(name string, lost bool, do func(f modelFile)) {
	if f, ok := m.files[name]; ok && (!lost || m.keep%2 == 1) {
		do(f)
	}
}

func (m *model) power(keep int) {
	for name, f := range m.files {
		n := f.safe
		for i := 0; i < keep && n < len(f.bytes); i++ {
			n++
		}
		m.files[name] = modelFile{f.bytes[:n], n}
	}
}

func (m *model) tell() string {
	var names []string
	for name := range m.files {
		names = append(names, name)
	}
	slices.Sort(names)
	s := ""
	for _, name := range names {
		f := m.files[name]
		s += name + "=" + f.bytes[:f.safe] + "/" + f.bytes[f.safe:] + " "
	}
	return s
}

// Promise P2: two disks have nothing to do with one another.
func TestApart(t *testing.T) {
	a, b := newDisk(t, 9), newDisk(t, 9)
	a.Append("a", 1)
	a.Fail(1)
	a.Arm(2, 0)
	b.Append("b", 2)
	if e := b.Sync("b"); e != api.OK || b.Used() != 1 || b.Ops() != 2 {
		t.Errorf("%v, %d used, %d ops", e, b.Used(), b.Ops())
	}
	wantNone(t, b, "a")
	wantNone(t, a, "b")
}
