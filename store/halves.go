package store

import (
	"iter"

	"furlong/disk"
)

const signPlace = 0

// signed: the generation that counts; the first one is 0, and has no sign.
func signed(d *disk.Disk) uint64 {
	p, ok := readPage(blockAt(d, signPlace))
	if !ok || p.kind != signPage {
		return 0
	}
	return p.generation
}

func sign(d *disk.Disk, generation uint64) {
	b := page{kind: signPage, generation: generation}.lay()
	d.Write(signPlace, b[:])
}

func blockAt(d *disk.Disk, place int) block {
	var b block
	read, _ := d.Read(place) // a block that isn't there is as one of noughts
	copy(b[:], read)
	return b
}

// half: how many pages a generation may have.
func (s *Store) half() int {
	return (s.disk.Blocks() - 1) / 2
}

func (s *Store) place(number int) int {
	return signPlace + 1 + int(s.generation%2)*s.half() + number
}

// blocks yields those of the generation's half, with their numbers in it.
func (s *Store) blocks() iter.Seq2[int, block] {
	return func(yield func(int, block) bool) {
		for number := range s.half() {
			if !yield(number, blockAt(s.disk, s.place(number))) {
				return
			}
		}
	}
}

// part is what a block bears as that page of the generation.
func (s *Store) part(number int, b block) ([]byte, bool) {
	p, ok := readPage(b)
	if !ok || p.kind != partPage || p.generation != s.generation || p.number != uint64(number) {
		return nil, false
	}
	return p.data, true
}

// stream is what the generation's pages bear, one behind the other. One that isn't full is the last one.
func (s *Store) stream() []byte {
	var all []byte
reading:
	for number, b := range s.blocks() {
		data, ok := s.part(number, b)
		switch {
		case !ok:
			break reading
		case len(data) < pageBytes:
			all = append(all, data...)
			break reading
		}
		all = append(all, data...)
	}
	return all
}

// room: how many bytes of frames the half takes still.
func (s *Store) room() int {
	return (s.half()-s.full)*pageBytes - len(s.tail)
}

// write puts bytes behind the stream; there must be room for them.
func (s *Store) write(p []byte) {
	rest := append(s.tail, p...)
	for len(rest) >= pageBytes {
		s.put(rest[:pageBytes])
		s.full++
		rest = rest[pageBytes:]
	}
	if len(rest) > 0 {
		s.put(rest)
	}
	s.tail = append([]byte(nil), rest...)
}

// put writes the page behind the full ones. What a crash cut off may lie behind it, with its generation and number: that is wiped first, for a page that gets full would go on with it.
func (s *Store) put(data []byte) {
	next := s.full + 1
	if next < s.half() {
		if _, ok := s.part(next, blockAt(s.disk, s.place(next))); ok {
			s.disk.Write(s.place(next), nil)
		}
	}
	b := page{kind: partPage, generation: s.generation, number: uint64(s.full), data: data}.lay()
	s.disk.Write(s.place(s.full), b[:])
}
