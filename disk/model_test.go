package disk_test

import (
	"math/rand"
	"testing"

	"furlong/api"
	"furlong/disk"
)

// model is the document's: what is safe, and the loose writes, which are made anew each time that one is asked.
type model struct {
	safe  [][]byte
	loose []loosely
}

type loosely struct {
	n int
	p []byte
}

func (m *model) blocks() [][]byte {
	l := append([][]byte(nil), m.safe...)
	for _, w := range m.loose {
		l[w.n] = w.p
	}
	return l
}

func (m *model) crash(keep int) {
	m.loose = m.loose[:min(keep, len(m.loose))]
	m.safe, m.loose = m.blocks(), nil
}

// told: what Write answers.
func (m *model) told(n, count int) api.Errno {
	switch {
	case n < 0 || n >= len(m.safe):
		return api.ErrNone
	case count > 64:
		return api.ErrLong
	}
	return api.OK
}

func (m *model) write(t *testing.T, d *disk.Disk, n int, p []byte) {
	t.Helper()
	want := m.told(n, len(p))
	if err := d.Write(n, p); err != want {
		t.Fatalf("P14.1: Write(%d, %d bytes) of %d blocks: %d; want %d", n, len(p), len(m.safe), err, want)
	}
	if want == api.OK {
		m.loose = append(m.loose, loosely{n, p})
	}
}

func (m *model) holds(t *testing.T, d *disk.Disk) {
	t.Helper()
	loose(t, "by the model", d, len(m.loose))
	if d.Blocks() != len(m.safe) {
		t.Fatalf("P14.1: Blocks = %d; want %d", d.Blocks(), len(m.safe))
	}
	for n, p := range m.blocks() {
		reads(t, "by the model", d, n, p...)
	}
}

func someBytes(r *rand.Rand) []byte {
	count := []int{0, 1, 63, 64, 65, r.Intn(70)}[r.Intn(6)]
	p := make([]byte, count)
	r.Read(p)
	return p
}

func TestScriptsAgainstTheModel(t *testing.T) {
	for seed := range int64(300) {
		r := rand.New(rand.NewSource(seed))
		blocks := 1 + r.Intn(9)
		d, m := made(t, blocks), &model{safe: make([][]byte, blocks)}
		for range 120 {
			switch r.Intn(10) {
			case 0:
				syncs(t, d)
				m.crash(len(m.loose))
			case 1:
				keep := r.Intn(len(m.loose) + 3)
				crashes(t, d, keep)
				m.crash(keep)
			case 2:
				if err := d.Crash(-1 - r.Intn(3)); err != api.ErrArg {
					t.Fatalf("errors: Crash below 0: %d", err)
				}
			default:
				m.write(t, d, r.Intn(blocks+3)-1, someBytes(r))
			}
			m.holds(t, d)
		}
	}
}
