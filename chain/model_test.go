package chain_test

import (
	"bytes"
	"encoding/binary"
	"errors"
	"hash/crc32"
	"slices"
	"testing"

	"hayloft/api"
	"hayloft/chain"
	"hayloft/disk"
)

// noise is a row of numbers that look like chance, the same ones each time.
func noise(seed uint64) func(below int) int {
	return func(below int) int {
		seed = seed*6364136223846793005 + 1442695040888963407
		return int(seed>>33) % below
	}
}

// some is n bytes that aren't alike, and none of them a nought; another seed, other bytes.
func some(seed, n int) []byte {
	b := make([]byte, n)
	x := uint32(seed)*2654435761 + 1
	for i := range b {
		x = x*1664525 + 1013904223
		b[i] = byte(x>>24) | 1
	}
	return b
}

// row is n sectors, one behind the other.
func row(first, n int) []int {
	all := make([]int, n)
	for i := range all {
		all[i] = first + i
	}
	return all
}

// shuffled is n of the data sectors of a disk of so many, in no order.
func shuffled(chance func(below int) int, n, sectors int) []int {
	all := row(1, sectors-2)
	for i := range n {
		k := i + chance(len(all)-i)
		all[i], all[k] = all[k], all[i]
	}
	return all[:n:n]
}

// sealed is a sector of a chain: some bytes, noughts behind them, the next sector and the sum.
func sealed(piece []byte, next uint32) []byte {
	b := append(slices.Clone(piece), make([]byte, 56-len(piece))...)
	b = binary.LittleEndian.AppendUint32(b, next)
	return binary.LittleEndian.AppendUint32(b, crc32.Checksum(b, crc32.MakeTable(crc32.Castagnoli)))
}

// answer is what Read tells: bytes and sectors, or an error, which is met at a sector or at none.
type answer struct {
	bytes   []byte
	sectors []int
	err     api.Errno
	at      int
	isAt    bool
}

func refuses(e api.Errno) answer {
	return answer{err: e}
}

func meets(e api.Errno, at int) answer {
	return answer{err: e, at: at, isAt: true}
}

// modelRead reads a chain in the document's words.
func modelRead(d *disk.Disk, first, n int) answer {
	if d == nil {
		return refuses(api.ErrNil)
	}
	if n < 1 || n > 65542 {
		return refuses(api.ErrArg)
	}
	var a answer
	needs := (n + 55) / 56
	for at := first; len(a.sectors) < needs; {
		if at < 1 || at > d.Len()-2 || slices.Contains(a.sectors, at) {
			return meets(api.ErrForm, at)
		}
		b, e := d.Read(at)
		if e != api.OK {
			return meets(e, at)
		}
		next := binary.LittleEndian.Uint32(b[56:])
		if !bytes.Equal(b, sealed(b[:56], next)) {
			return meets(api.ErrSum, at)
		}
		a.sectors = append(a.sectors, at)
		a.bytes = append(a.bytes, b[:56]...)
		if len(a.sectors) == needs && (next != 0 || len(bytes.Trim(a.bytes[n:], "\x00")) > 0) {
			return meets(api.ErrForm, at)
		}
		at = int(next)
	}
	a.bytes = a.bytes[:n]
	return a
}

// modelLay is what Lay writes in the document's words.
func modelLay(b []byte, sectors []int) ([]api.Write, api.Errno) {
	if len(b) > 65542 {
		return nil, api.ErrLong
	}
	if len(sectors) != (len(b)+55)/56 {
		return nil, api.ErrArg
	}
	for i, s := range sectors {
		if s < 1 || s > 65534 || slices.Contains(sectors[:i], s) {
			return nil, api.ErrArg
		}
	}
	var writes []api.Write
	for i, s := range sectors {
		next := 0
		if i < len(sectors)-1 {
			next = sectors[i+1]
		}
		writes = append(writes, api.Write{Sector: s, Bytes: sealed(b[i*56:min(i*56+56, len(b))], uint32(next))})
	}
	return writes, api.OK
}

// isError says what is wrong with an error that is to be of one number, wrapped, and to have a sector just if it was met at one.
func isError(e error, want answer) string {
	if (e == nil) != (want.err == api.OK) {
		return "an error that isn't to be there, or none"
	}
	if e == nil {
		return ""
	}
	for n := api.OK; n <= 20; n++ {
		if errors.Is(e, n) != (n == want.err) {
			return "another number by errors.Is"
		}
	}
	var number api.Errno
	if !errors.As(e, &number) || number != want.err {
		return "another number by errors.As"
	}
	if errors.Unwrap(e) == nil || e.Error() == "" {
		return "an error that wraps none, or tells nothing"
	}
	var f *api.Fault
	if errors.As(e, &f) != want.isAt {
		return "a sector that isn't to be there, or none"
	}
	if want.isAt && (f.Sector != want.at || !errors.Is(f.Err, want.err)) {
		return "another sector"
	}
	return ""
}

// answers holds that Read tells this.
func answers(t *testing.T, d *disk.Disk, first, n int, want answer) {
	t.Helper()
	b, l, e := chain.Read(d, first, n)
	if wrong := isError(e, want); wrong != "" {
		t.Fatalf("Read(%d, %d): %#v: %s (%v at %d, %v)", first, n, e, wrong, want.err, want.at, want.isAt)
	}
	if !bytes.Equal(b, want.bytes) || !slices.Equal(l, want.sectors) {
		t.Fatalf("Read(%d, %d): % x, %v, not % x, %v", first, n, b, l, want.bytes, want.sectors)
	}
}

// reads holds that Read tells what the model tells.
func reads(t *testing.T, d *disk.Disk, first, n int) answer {
	t.Helper()
	want := modelRead(d, first, n)
	answers(t, d, first, n, want)
	return want
}

// lays holds that Lay tells what the model tells.
func lays(t *testing.T, b []byte, sectors []int, want api.Errno) []api.Write {
	t.Helper()
	writes, e := chain.Lay(b, sectors)
	model, modelErr := modelLay(b, sectors)
	if modelErr != want {
		t.Fatalf("Lay of %d bytes into %d sectors: the model tells %v, not %v", len(b), len(sectors), modelErr, want)
	}
	if wrong := isError(e, refuses(want)); wrong != "" {
		t.Fatalf("Lay of %d bytes into %d sectors, %v ..: %#v: %s (%v)", len(b), len(sectors), sectors[:min(5, len(sectors))], e, wrong, want)
	}
	if !slices.EqualFunc(writes, model, sameWrite) {
		t.Fatalf("Lay of %d bytes into %d sectors: %v, not %v", len(b), len(sectors), writes, model)
	}
	return writes
}

func sameWrite(a, b api.Write) bool {
	return a.Sector == b.Sector && bytes.Equal(a.Bytes, b.Bytes)
}

// fresh is a disk of so many sectors.
func fresh(t *testing.T, sectors int) *disk.Disk {
	t.Helper()
	d, e := disk.New(sectors)
	if e != api.OK {
		t.Fatal(sectors, e)
	}
	return d
}

// put writes a sector, and makes it sure.
func put(t *testing.T, d *disk.Disk, s int, b []byte) {
	t.Helper()
	if e := d.Write(s, b); e != api.OK {
		t.Fatal(s, e)
	}
	if e := d.Flush(); e != api.OK {
		t.Fatal(s, e)
	}
}

// links writes sectors, each of which leads to the next of these numbers, and each with other bytes; none is the chain's last one, but where the next one is 0.
func links(t *testing.T, d *disk.Disk, pairs ...[2]int) {
	t.Helper()
	for _, p := range pairs {
		put(t, d, p[0], sealed(some(p[0], 56), uint32(p[1])))
	}
}

// holding is a disk of so many sectors that has bytes as a chain in these ones.
func holding(t *testing.T, disksize int, b []byte, sectors []int) *disk.Disk {
	t.Helper()
	d := fresh(t, disksize)
	for _, w := range lays(t, b, sectors, api.OK) {
		put(t, d, w.Sector, w.Bytes)
	}
	return d
}
