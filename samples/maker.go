// Package samples makes modules, functions and runs for the tests of the layers that change functions.
package samples

// Maker makes samples by a row of numbers that its seed begins; so they are the same ones in every run.
type Maker struct{ state uint64 }

// New: a maker of its own for each seed.
func New(seed uint64) *Maker {
	return &Maker{seed}
}

// Bits is the row's next number: a splitmix64, which needs nothing but its state.
func (r *Maker) Bits() uint64 {
	r.state += 0x9e3779b97f4a7c15
	z := r.state
	z = (z ^ z>>30) * 0xbf58476d1ce4e5b9
	z = (z ^ z>>27) * 0x94d049bb133111eb
	return z ^ z>>31
}

// Below is a number from 0 on and below n, which is 1 or more.
func (r *Maker) Below(n int) int {
	return int(r.Bits() % uint64(n))
}

// In is true in so many of a hundred.
func (r *Maker) In(percent int) bool {
	return r.Below(100) < percent
}

// OneOf is one of those that are told, of which there is one at least.
func OneOf[T any](r *Maker, all ...T) T {
	return all[r.Below(len(all))]
}

// shuffled lists the numbers from least on, so many of them, in any order.
func (r *Maker) shuffled(least, many int) []int {
	list := make([]int, many)
	for i := range list {
		k := r.Below(i + 1)
		list[i] = list[k]
		list[k] = least + i
	}
	return list
}
