package vector_test

import (
	"bytes"
	"math"

	"moot/api"
)

const top = api.MaxNum

// dice throws the same numbers every time.
type dice uint64

func (d *dice) below(n int) int {
	*d = *d*6364136223846793005 + 1442695040888963407
	return int(uint64(*d>>33) % uint64(n))
}

func pick[T any](d *dice, from []T) T { return from[d.below(len(from))] }

// entry leans to small numbers, to the ends, and to where a form gets longer.
func (d *dice) entry() int {
	switch d.below(4) {
	case 0:
		return d.below(4)
	case 1:
		return pick(d, []int{0, 63, 64, 127, 128, 8191, 8192, 16383, 16384, 1<<19 - 1, 1 << 19, top - 1, top})
	}
	return d.below(top + 1)
}

// vector has some entries like the ones before them, as packing asks for.
func (d *dice) vector(n int) []int {
	out := make([]int, n)
	for i := range out {
		if i > 0 && d.below(3) == 0 {
			out[i] = out[i-1]
		} else {
			out[i] = d.entry()
		}
	}
	return out
}

// noEntries are numbers that no vector has.
func noEntries() []int {
	return []int{-1, -2, -top, math.MinInt, math.MinInt + 1, math.MinInt32, top + 1, top + 2, 2 * top, 1 << 32, 1<<32 + 1, math.MaxInt - 1, math.MaxInt}
}

// noWidths are lengths that no vector has.
func noWidths() []int { return []int{0, api.MaxN + 1, api.MaxN + 2, 64, 256, 257, 1000} }

func noVersions() []int {
	return []int{0, 3, -1, -2, 4, 256, 257, 1<<32 + 1, 1<<32 + 2, math.MinInt, math.MaxInt}
}

// noVectors are lists of every wrong length, and of every length with a wrong entry at each place.
func noVectors() [][]int {
	out := [][]int{nil, {}}
	for _, n := range noWidths() {
		out = append(out, make([]int, n))
	}
	for n := 1; n <= api.MaxN; n++ {
		for i := range n {
			for _, x := range noEntries() {
				out = append(out, with(make([]int, n), i, x))
			}
		}
	}
	return out
}

// with is a copy of d with x at the place i.
func with(d []int, i, x int) []int {
	out := append([]int{}, d...)
	out[i] = x
	return out
}

// filled is n times x.
func filled(n, x int) []int {
	out := make([]int, n)
	for i := range out {
		out[i] = x
	}
	return out
}

// wordsVector says in the chapter's words whether d is a vector.
func wordsVector(d []int) bool {
	wrong := 0
	for _, x := range d {
		if x != min(max(x, 0), top) {
			wrong++
		}
	}
	return wrong == 0 && len(d) != 0 && len(d) < 8
}

// smallLists are all lists of up to three of a few telling numbers.
func smallLists() [][]int {
	all, level := [][]int{nil}, [][]int{nil}
	for range 3 {
		var next [][]int
		for _, d := range level {
			for _, x := range []int{-1, 0, 1, 2, top, top + 1} {
				next = append(next, append(append([]int{}, d...), x))
			}
		}
		all, level = append(all, next...), next
	}
	return all
}

func join(parts ...[]byte) []byte { return bytes.Join(parts, nil) }

// run is n times the byte b, then the tail.
func run(b byte, n int, tail ...byte) []byte { return append(bytes.Repeat([]byte{b}, n), tail...) }
