package mem

import (
	"lathe/api"
)

// block is a block that is alive.
type block struct {
	size  int
	all   api.Byte // what each byte is behind the cells
	cells []cell   // only as far as something was laid, so that very many great blocks fit
}

// cell is a byte as it was laid.
type cell struct {
	laid api.Byte
	late bool // its address's block was gone when it was laid, so that no Free comes any more that makes it poison
}

// lay lays cells one behind the other; there must be room for them.
func (b *block) lay(at int, cells []cell) {
	for len(b.cells) < at+len(cells) {
		b.cells = append(b.cells, cell{laid: b.all})
	}
	copy(b.cells[at:], cells)
}

// cells are bytes as they are laid now.
func (m *Memory) cells(bytes []api.Byte) []cell {
	list := make([]cell, len(bytes))
	for i, b := range bytes {
		list[i] = cell{laid: b, late: b.Kind == api.ByteAddr && m.isGone(b.Block)}
	}
	return list
}

// seen are n bytes of a block as they are now.
func (m *Memory) seen(b *block, from, n int) []api.Byte {
	bytes := make([]api.Byte, n)
	for i := range bytes {
		if from+i >= len(b.cells) {
			bytes[i] = b.all
		} else if c := b.cells[from+i]; !m.isLost(c) {
			bytes[i] = c.laid
		}
	}
	return bytes
}

// isLost tells whether the cell is a piece of an address whose block was freed behind its laying; then it is poison.
func (m *Memory) isLost(c cell) bool {
	return c.laid.Kind == api.ByteAddr && !c.late && m.isGone(c.laid.Block)
}
