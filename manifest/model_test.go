package manifest_test

import (
	"bytes"
	"encoding/binary"
	"errors"
	"hash/crc32"
	"math"
	"slices"
	"testing"

	"hayloft/api"
	"hayloft/disk"
	"hayloft/manifest"
)

// wild are numbers that are far from all bounds, some of which wrap round to small ones.
var wild = []int{math.MinInt, math.MinInt + 1, math.MinInt + 40, -1 << 32, -1<<32 + 40, -1 << 31, -65536, -40, 1 << 32, 1<<32 + 1, 1<<32 + 40, 1 << 33, 1<<40 + 40, 1<<62 + 40, math.MaxInt - 1, math.MaxInt}

// noise is a row of numbers that look like chance, the same ones each time.
func noise(seed uint64) func(below int) int {
	return func(below int) int {
		seed = seed*6364136223846793005 + 1442695040888963407
		return int(seed>>33) % below
	}
}

func made(seq, first, n int) manifest.Manifest {
	return manifest.Manifest{Seq: seq, First: first, Len: n}
}

func found(slot, seq, first, n int) manifest.Found {
	return manifest.Found{Slot: slot, Manifest: made(seq, first, n)}
}

// aNumber is one of a manifest's numbers, what it may be at least and at most, and where it stands.
type aNumber struct {
	name        string
	least, most int
	at          int
	of          func(m *manifest.Manifest) *int
}

func numbers() []aNumber {
	return []aNumber{
		{"Seq", 1, 4294967295, 0, func(m *manifest.Manifest) *int { return &m.Seq }},
		{"First", 1, 65534, 4, func(m *manifest.Manifest) *int { return &m.First }},
		{"Len", 8, 65542, 8, func(m *manifest.Manifest) *int { return &m.Len }},
	}
}

// sealed puts the sum and the last four bytes of a sector right.
func sealed(b []byte) []byte {
	b = slices.Clone(b)
	binary.LittleEndian.PutUint32(b[56:], crc32.Checksum(b[:56], crc32.MakeTable(crc32.Castagnoli)))
	copy(b[60:], b[:4])
	return b
}

// sector is a sector in which these numbers stand where a manifest's do, sealed.
func sector(seq, first, n uint32) []byte {
	b := binary.LittleEndian.AppendUint32(nil, seq)
	b = binary.LittleEndian.AppendUint32(b, first)
	b = binary.LittleEndian.AppendUint32(b, n)
	return sealed(append(b, make([]byte, 52)...))
}

// turned is a sector with a byte at a place turned.
func turned(b []byte, at int, over byte) []byte {
	b = slices.Clone(b)
	b[at] ^= over
	return b
}

// over is a sector over which the first bytes of another one are laid.
func over(below, above []byte, n int) []byte {
	return append(slices.Clone(above[:n]), below[n:]...)
}

func modelRight(m manifest.Manifest) bool {
	return m.Seq >= 1 && m.Seq <= 4294967295 && m.First >= 1 && m.First <= 65534 && m.Len >= 8 && m.Len <= 65542
}

// modelRead reads a manifest in the document's words.
func modelRead(b []byte) (manifest.Manifest, api.Errno) {
	if len(b) < 64 {
		return made(0, 0, 0), api.ErrShort
	}
	if len(b) > 64 {
		return made(0, 0, 0), api.ErrLong
	}
	if b[0] != b[60] || b[1] != b[61] || b[2] != b[62] || b[3] != b[63] {
		return made(0, 0, 0), api.ErrTwice
	}
	if !bytes.Equal(sealed(b), b) {
		return made(0, 0, 0), api.ErrSum
	}
	m := made(int(binary.LittleEndian.Uint32(b)), int(binary.LittleEndian.Uint32(b[4:])), int(binary.LittleEndian.Uint32(b[8:])))
	if !modelRight(m) || len(bytes.Trim(b[12:56], "\x00")) > 0 {
		return made(0, 0, 0), api.ErrForm
	}
	return m, api.OK
}

// modelFind is what Find tells of a disk with power.
func modelFind(d *disk.Disk) []manifest.Found {
	var l []manifest.Found
	for slot, at := range []int{0, d.Len() - 1} {
		b, _ := d.Read(at)
		if m, e := modelRead(b); e == api.OK {
			l = append(l, manifest.Found{Slot: slot, Manifest: m})
		}
	}
	if len(l) == 2 && l[1].Manifest.Seq > l[0].Manifest.Seq {
		l[0], l[1] = l[1], l[0]
	}
	return l
}

// bytesOf is the bytes of a manifest that may be; they are held against the chapter's words.
func bytesOf(t *testing.T, m manifest.Manifest) []byte {
	t.Helper()
	b, e := manifest.Bytes(m)
	if want := sector(uint32(m.Seq), uint32(m.First), uint32(m.Len)); e != api.OK || !bytes.Equal(b, want) {
		t.Fatalf("Bytes of %+v: % x, %v, not % x", m, b, e, want)
	}
	return b
}

// unwritten holds that a manifest has no bytes.
func unwritten(t *testing.T, m manifest.Manifest) {
	t.Helper()
	if b, e := manifest.Bytes(m); e != api.ErrForm || len(b) != 0 {
		t.Errorf("Bytes of %+v: % x, %v", m, b, e)
	}
}

// isRead holds that bytes are this manifest's.
func isRead(t *testing.T, b []byte, want manifest.Manifest) {
	t.Helper()
	if m, e := manifest.Read(b); e != api.OK || m != want {
		t.Errorf("Read of % x: %+v, %v, not %+v", b, m, e, want)
	}
}

// unread holds that bytes are met with an error, and that nothing is read of them.
func unread(t *testing.T, b []byte, want api.Errno) {
	t.Helper()
	if m, e := manifest.Read(b); e != want || m != made(0, 0, 0) {
		t.Errorf("Read of % x: %+v, %v, not %v", b, m, e, want)
	}
}

// reads holds that bytes are read as the model reads them.
func reads(t *testing.T, b []byte) (manifest.Manifest, api.Errno) {
	t.Helper()
	m, e := manifest.Read(b)
	if want, wantErr := modelRead(b); m != want || e != wantErr {
		t.Fatalf("Read of % x: %+v, %v, not %+v, %v", b, m, e, want, wantErr)
	}
	return m, e
}

// fresh is a disk of so many sectors.
func fresh(t *testing.T, sectors int) *disk.Disk {
	t.Helper()
	d, e := disk.New(sectors)
	if e != api.OK {
		t.Fatal(sectors, e)
	}
	return d
}

// write writes a sector.
func write(t *testing.T, d *disk.Disk, s int, b []byte) {
	t.Helper()
	if e := d.Write(s, b); e != api.OK {
		t.Fatal(s, e)
	}
}

// flush makes sure what is pending.
func flush(t *testing.T, d *disk.Disk) {
	t.Helper()
	if e := d.Flush(); e != api.OK {
		t.Fatal(e)
	}
}

// finds holds that these manifests are found, in this order, and that the model finds them.
func finds(t *testing.T, d *disk.Disk, want ...manifest.Found) {
	t.Helper()
	l, e := manifest.Find(d)
	if e != nil || !slices.Equal(l, want) {
		t.Errorf("Find: %+v, %v, not %+v", l, e, want)
	}
	if model := modelFind(d); !slices.Equal(model, want) {
		t.Fatalf("the model finds %+v, not %+v", model, want)
	}
}

// refuses holds that Find tells an error of one number, and a fault just if it is at a sector; below 0: it is at none.
func refuses(t *testing.T, d *disk.Disk, want api.Errno, at int) {
	t.Helper()
	l, e := manifest.Find(d)
	if e == nil || len(l) != 0 || e.Error() == "" || errors.Unwrap(e) == nil {
		t.Fatalf("Find: %+v, %v", l, e)
	}
	for n := api.OK; n <= 20; n++ {
		if errors.Is(e, n) != (n == want) {
			t.Errorf("Find: errors.Is says %v of %d", !(n == want), int(n))
		}
	}
	var number api.Errno
	if !errors.As(e, &number) || number != want {
		t.Errorf("Find: errors.As finds %v, not %v", number, want)
	}
	var f *api.Fault
	if errors.As(e, &f) != (at >= 0) || at >= 0 && (f.Sector != at || !errors.Is(f.Err, want)) {
		t.Errorf("Find: the fault %+v, not at %d", f, at)
	}
}
