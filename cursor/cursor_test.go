package cursor

import (
	"bytes"
	"math"
	"slices"
	"strings"
	"testing"

	"lamplighter/api"
	"lamplighter/crc"
	"lamplighter/disk"
	"lamplighter/guard"
)

func newDisk(t *testing.T, room int) *disk.Disk {
	t.Helper()
	d, e := disk.New(room)
	if e != api.OK {
		t.Fatal(e)
	}
	return d
}

func wantLoad(t *testing.T, d *disk.Disk, name string, want int) {
	t.Helper()
	if n, e := Load(d, name); n != want || e != api.OK {
		t.Errorf("Load(%q): %d %v, not %d", name, n, e, want)
	}
}

// P15.1: numbers and their bytes.
func TestBytes(t *testing.T) {
	for n, want := range map[int][]byte{
		0:         {0, 0, 0, 0, 0, 0, 0, 0},
		1:         {0, 0, 0, 0, 0, 0, 0, 1},
		258:       {0, 0, 0, 0, 0, 0, 1, 2},
		1<<40 - 1: {0, 0, 0, 255, 255, 255, 255, 255},
		1 << 40:   {0, 0, 1, 0, 0, 0, 0, 0},
	} {
		b, e := Bytes(n)
		if !bytes.Equal(b, crc.Seal(want)) || e != api.OK {
			t.Errorf("Bytes(%d): %v %v", n, b, e)
		}
		if got, e := Number(b); got != n || e != api.OK {
			t.Errorf("Number(%v): %d %v", b, got, e)
		}
	}
	for _, n := range []int{-1, 1<<40 + 1, math.MinInt, math.MaxInt} {
		if b, e := Bytes(n); len(b) != 0 || e != api.ErrRange {
			t.Errorf("Bytes(%d): %v %v", n, b, e)
		}
	}
}

// P15.1: what is no number.
func TestNumberWrong(t *testing.T) {
	right, _ := Bytes(7)
	turned := bytes.Clone(right)
	turned[3] ^= 1
	for _, c := range []struct {
		b []byte
		e api.Errno
	}{
		{nil, api.ErrShort},
		{right[:11], api.ErrShort},
		{append(bytes.Clone(right), 0), api.ErrShort},
		{crc.Seal(make([]byte, 7)), api.ErrShort},
		{crc.Seal(make([]byte, 9)), api.ErrShort},
		{turned, api.ErrSum},
		{bytes.Repeat([]byte{255}, 12), api.ErrSum},
		{crc.Seal([]byte{0, 0, 1, 0, 0, 0, 0, 1}), api.ErrRange},
		{crc.Seal([]byte{255, 255, 255, 255, 255, 255, 255, 255}), api.ErrRange},
		{crc.Seal([]byte{128, 0, 0, 0, 0, 0, 0, 0}), api.ErrRange},
	} {
		if n, e := Number(c.b); n != 0 || e != c.e {
			t.Errorf("%v: %d %v, not %v", c.b, n, e, c.e)
		}
	}
}

// P15.1: Temp.
func TestTemp(t *testing.T) {
	for name, want := range map[string]string{"": ".tmp", "cursor": "cursor.tmp", "A b": "A b.tmp"} {
		if got := Temp(name); got != want {
			t.Errorf("Temp(%q): %q", name, got)
		}
	}
}

// P15.2: Load of no file, and of files that are no number.
func TestLoad(t *testing.T) {
	d := newDisk(t, 99)
	for _, name := range []string{"cursor", "", "A"} {
		wantLoad(t, d, name, 0)
	}
	d.Append("cursor", 1, 2, 3)
	if n, e := Load(d, "cursor"); n != 0 || e != api.ErrShort {
		t.Errorf("%d %v", n, e)
	}
	d.Append("zeros", make([]byte, 12)...)
	if n, e := Load(d, "zeros"); n != 0 || e != api.ErrSum {
		t.Errorf("%d %v", n, e)
	}
	d.Append("empty")
	if n, e := Load(d, "empty"); n != 0 || e != api.ErrShort {
		t.Errorf("%d %v", n, e)
	}
	if n, e := Load(nil, "cursor"); n != 0 || e != api.ErrNil {
		t.Errorf("nil: %d %v", n, e)
	}
}

// P15.3: Save, and what it changes.
func TestSave(t *testing.T) {
	d := newDisk(t, 99)
	for i, n := range []int{0, 7, 1 << 40, 258} {
		if e := Save(d, "cursor", n); e != api.OK || d.Ops() != 3*(i+1) {
			t.Errorf("Save(%d): %v, %d ops", n, e, d.Ops())
		}
		wantLoad(t, d, "cursor", n)
		if d.Synced("cursor") != 12 || d.Used() != 12 || !slices.Equal(d.Names(), []string{"cursor"}) {
			t.Errorf("Save(%d): %d safe, %d used, files %q", n, d.Synced("cursor"), d.Used(), d.Names())
		}
	}
	d.Append("cursor.tmp", 1, 2, 3)
	ops := d.Ops()
	if e := Save(d, "cursor", 9); e != api.OK || d.Ops() != ops+4 || !slices.Equal(d.Names(), []string{"cursor"}) {
		t.Errorf("%v, %d ops, files %q", e, d.Ops()-ops, d.Names())
	}
	wantLoad(t, d, "cursor", 9)
}

// P15.3: errors, and their order.
func TestSaveWrong(t *testing.T) {
	d := newDisk(t, 99)
	for _, c := range []struct {
		name string
		n    int
		e    api.Errno
	}{
		{"", 1, api.ErrName},
		{"A", -1, api.ErrName},
		{strings.Repeat("a", 29), 1, api.ErrName},
		{strings.Repeat("a", 33), 1, api.ErrName},
		{"a", -1, api.ErrRange},
		{"a", 1<<40 + 1, api.ErrRange},
		{"a", math.MinInt, api.ErrRange},
		{"a", math.MaxInt, api.ErrRange},
		{strings.Repeat("a", 28), 1, api.OK},
	} {
		ops := d.Ops()
		if e := Save(d, c.name, c.n); e != c.e || e != api.OK && d.Ops() != ops {
			t.Errorf("Save(%q, %d): %v, %d ops", c.name, c.n, e, d.Ops()-ops)
		}
	}
	if e := Save(nil, "", -1); e != api.ErrNil {
		t.Errorf("nil: %v", e)
	}
}

// P15.3, P15.4: a disk that is full, and a sync that fails, change nothing that is loaded.
func TestSaveFails(t *testing.T) {
	for room := 12; room < 24; room++ {
		d := newDisk(t, room)
		Save(d, "cursor", 5)
		if e := Save(d, "cursor", 6); e != api.ErrFull || d.Ops() != 5 {
			t.Errorf("room %d: %v, %d ops", room, e, d.Ops())
		}
		wantLoad(t, d, "cursor", 5)
		if d.Used() != 12 || !slices.Equal(d.Names(), []string{"cursor"}) {
			t.Errorf("room %d: %d used, files %q", room, d.Used(), d.Names())
		}
	}
	d := newDisk(t, 24)
	Save(d, "cursor", 5)
	d.Fail(1)
	if e := Save(d, "cursor", 6); e != api.ErrIo || d.Ops() != 6 {
		t.Errorf("%v, %d ops", e, d.Ops())
	}
	wantLoad(t, d, "cursor", 5)
	if !slices.Equal(d.Names(), []string{"cursor"}) {
		t.Errorf("files %q", d.Names())
	}
	if e := Save(d, "cursor", 7); e != api.OK {
		t.Error(e)
	}
	wantLoad(t, d, "cursor", 7)
}

// P15.4: when the power goes at any change of a Save, it is the number ahead, or that one's; and nothing is changed behind that.
func TestPowerGoes(t *testing.T) {
	for _, full := range []bool{false, true} {
		for at := 1; at <= 4; at++ {
			for keep := -1; keep <= 13; keep++ {
				d := newDisk(t, 99)
				Save(d, "cursor", 5)
				d.Append("cursor.tmp", 1, 2, 3)
				if full {
					d.SetRoom(20)
				}
				ops := d.Ops()
				d.Arm(at, keep)
				c, gone := guard.Run(func() { Save(d, "cursor", 600) })
				if !gone && full && at == 4 {
					continue
				}
				if !gone || c.Op != ops+at || d.Ops() != ops+at {
					t.Fatalf("change %d, keep %d: %v %v, %d ops", at, keep, c, gone, d.Ops()-ops)
				}
				d.Power(keep)
				n, e := Load(d, "cursor")
				if done := at == 4 && keep&1 == 1; e != api.OK || n != map[bool]int{true: 600, false: 5}[done] {
					t.Errorf("change %d, keep %d: %d %v", at, keep, n, e)
				}
				d.SetRoom(99)
				if e := Save(d, "cursor", 9); e != api.OK {
					t.Errorf("change %d, keep %d: %v", at, keep, e)
				}
				d.Power(0)
				wantLoad(t, d, "cursor", 9)
			}
		}
	}
}
