package quorum

import "slices"

// Tally keeps the first answer of each other replica.
type Tally[T any] struct {
	n, self int
	held    map[int]T
}

// nobody is the self of a tally that takes an answer of every replica.
const nobody = -1

// NewTally makes an empty tally of the replica self among n.
func NewTally[T any](n, self int) *Tally[T] {
	if !isSize(n) || !isReplica(n, self) {
		return nil
	}
	return newTally[T](n, self)
}

func newTally[T any](n, self int) *Tally[T] {
	return &Tally[T]{n: n, self: self, held: map[int]T{}}
}

// Add takes an answer; false: it does not count.
func (t *Tally[T]) Add(from int, v T) bool {
	if !isReplica(t.n, from) || from == t.self {
		return false
	}
	if _, ok := t.held[from]; ok {
		return false
	}
	t.held[from] = v
	return true
}

// Count tells how many answers count.
func (t *Tally[T]) Count() int { return len(t.held) }

// From tells whose answers count, in rising order.
func (t *Tally[T]) From() []int {
	out := make([]int, 0, len(t.held))
	for id := range t.held {
		out = append(out, id)
	}
	slices.Sort(out)
	return out
}

// Get tells the answer of a replica.
func (t *Tally[T]) Get(from int) (T, bool) {
	v, ok := t.held[from]
	return v, ok
}

// answers lists the answers that count, by rising ids.
func (t *Tally[T]) answers() []T {
	var out []T
	for _, id := range t.From() {
		out = append(out, t.held[id])
	}
	return out
}

func isSize(n int) bool { return n == 3 || n == 5 || n == 7 }

func isReplica(n, id int) bool { return 0 <= id && id < n }
