package disk_test

import (
	"bytes"
	"testing"

	"furlong/api"
	"furlong/disk"
)

func made(t *testing.T, blocks int) *disk.Disk {
	t.Helper()
	d, err := disk.New(blocks)
	if d == nil || err != api.OK {
		t.Fatalf("P14.1: New(%d): %d", blocks, err)
	}
	return d
}

func writes(t *testing.T, d *disk.Disk, n int, p ...byte) {
	t.Helper()
	if err := d.Write(n, p); err != api.OK {
		t.Fatalf("P14.1: Write of %d bytes to the block %d: %d", len(p), n, err)
	}
}

// reads asks for a block: these bytes, and noughts behind them.
func reads(t *testing.T, what string, d *disk.Disk, n int, want ...byte) {
	t.Helper()
	want = append(want[:len(want):len(want)], make([]byte, api.BlockSize-len(want))...)
	for range 2 { // P2: the second time as the first time
		if got, err := d.Read(n); !bytes.Equal(got, want) || err != api.OK {
			t.Fatalf("P14.1: Read(%d), %s = %v, %d; want %v", n, what, got, err, want)
		}
	}
}

func loose(t *testing.T, what string, d *disk.Disk, want int) {
	t.Helper()
	if got := d.Loose(); got != want {
		t.Fatalf("P14.1: Loose, %s = %d; want %d", what, got, want)
	}
}

func syncs(t *testing.T, d *disk.Disk) {
	t.Helper()
	if err := d.Sync(); err != api.OK {
		t.Fatalf("P14.2: Sync: %d", err)
	}
	loose(t, "behind a Sync", d, 0)
}

func crashes(t *testing.T, d *disk.Disk, keep int) {
	t.Helper()
	if err := d.Crash(keep); err != api.OK {
		t.Fatalf("P14.2: Crash(%d): %d", keep, err)
	}
	loose(t, "behind a Crash", d, 0)
}

// filled is so many bytes, none of them a nought.
func filled(count int, mark byte) []byte {
	p := make([]byte, count)
	for i := range p {
		p[i] = 1 + (mark+byte(i))%255
	}
	return p
}
