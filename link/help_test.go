package link_test

import (
	"bytes"
	"encoding/binary"
	"encoding/hex"
	"fmt"
	"math"
	"reflect"
	"slices"
	"strings"
	"testing"

	"moot/api"
	"moot/link"
)

// topPayload is MaxPayload in the document's number.
const topPayload = 1 << 20

// The phases in the document's numbers.
const (
	greeting = iota
	settled
	closed
)

// dice throws the same numbers every time.
type dice uint64

func (d *dice) below(n int) int {
	*d = *d*6364136223846793005 + 1442695040888963407
	return int(uint64(*d>>33) % uint64(n))
}

func pick[T any](d *dice, from []T) T { return from[d.below(len(from))] }

// cut is b in pieces of 0 to most bytes, nil and empty ones among them.
func (d *dice) cut(b []byte, most int) [][]byte {
	out := [][]byte{nil}
	for len(b) > 0 {
		size := min(len(b), d.below(most+1))
		out = append(out, b[:size])
		if size == 0 {
			out = append(out, nil)
		}
		b = b[size:]
	}
	return append(out, []byte{})
}

func join(parts ...[]byte) []byte { return bytes.Join(parts, nil) }

// raw is what hex stands for.
func raw(s string) []byte {
	b, err := hex.DecodeString(strings.ReplaceAll(s, " ", ""))
	if err != nil {
		panic(err)
	}
	return b
}

// run is n times the byte b, then the tail.
func run(b byte, n int, tail ...byte) []byte { return append(bytes.Repeat([]byte{b}, n), tail...) }

// changed is b with the byte x at a place.
func changed(b []byte, at int, x byte) []byte {
	out := bytes.Clone(b)
	out[at] = x
	return out
}

// numbers are the forms of some numbers, one behind the other.
func numbers(list ...uint64) []byte {
	var b []byte
	for _, x := range list {
		b = binary.AppendUvarint(b, x)
	}
	return b
}

// helloOf is the hello of replica id of n with a mask, by the words of P8.3.
func helloOf(id, n, mask int) []byte {
	return sealOf(0, numbers(uint64(id), uint64(n), uint64(mask)))
}

// The chapter's own examples are of three replicas.
var (
	wanting  = api.Msg{Kind: 9, Inst: api.Inst{Row: 1, Num: 5}}
	accepted = api.Msg{Kind: 4, Inst: api.Inst{Row: 1, Num: 5}, Bal: api.Ballot{Round: 2}}
)

func frameH(id, mask int) []byte { return helloOf(id, 3, mask) }

func frameW() []byte { return sealOf(2, raw("09 29")) }

func frameC() []byte { return sealOf(1, raw("04 01 05 02 00")) }

func text(n int) string {
	b := make([]byte, n)
	for i := range b {
		b[i] = byte(i*i + 'a')
	}
	return string(b)
}

// messages are valid ones of version v among n replicas, at least one of each kind and state.
func messages(v, n int) []api.Msg {
	x, first, second := api.Inst{Row: n - 1, Num: 5}, api.Ballot{Who: n - 1}, api.Ballot{Round: 2}
	put := api.Cmd{Kind: api.Put, Client: 7, Req: 1, Key: "k", Val: text(300)}
	deps, zeros := make([]int, n), make([]int, n)
	for i := range deps {
		deps[i] = 1000*i + 3
	}
	out := []api.Msg{
		{Kind: 1, Inst: x, Bal: first, Cmd: put, Seq: 2, Deps: deps},
		{Kind: 2, Inst: x, Bal: first, Seq: 1 << 30, Deps: deps},
		{Kind: 3, Inst: x, Bal: second, Deps: zeros},
		{Kind: 4, Inst: x, Bal: second},
		{Kind: 5, Inst: x, Cmd: api.Cmd{Kind: api.Add, Key: "k", N: -1}, Seq: 3, Deps: zeros},
		{Kind: 6, Inst: x, Bal: second},
		{Kind: 7, Inst: x, Bal: second},
		{Kind: 7, Inst: x, Bal: second, State: 1, Same: true, VBal: first, Cmd: put, Seq: 2, Deps: deps},
		{Kind: 7, Inst: x, Bal: second, State: 2, VBal: api.Ballot{Round: 1}, Deps: zeros},
		{Kind: 8, Inst: x, Bal: first, VBal: second},
	}
	if v == 2 {
		move := api.Cmd{Kind: api.Move, Key: "k", Key2: "l"}
		out = append(out, api.Msg{Kind: 9, Inst: x}, api.Msg{Kind: 5, Inst: x, Cmd: move, Seq: 1, Deps: deps})
	}
	return out
}

// message is one of these with other numbers.
func (d *dice) message(v, n int) api.Msg {
	m := pick(d, messages(v, n))
	m.Inst.Num = 1 + pick(d, []int{0, 127, 1<<20 - 1, d.below(1 << 20)})
	if m.Cmd.Kind > 0 {
		m.Cmd.Req = d.below(1 << 30)
		for i := range m.Deps {
			m.Deps[i] = d.below(1 << 20)
		}
	}
	return m
}

// eachPair goes over all sizes, ids and peers that there are.
func eachPair(do func(id, n, peer int)) {
	for n := 2; n <= 7; n++ {
		for id := range n {
			for peer := range n {
				if id != peer {
					do(id, n, peer)
				}
			}
		}
	}
}

// same: a nil list and an empty one are the same.
func same(a, b []api.Msg) bool {
	return slices.EqualFunc(a, b, func(x, y api.Msg) bool {
		if len(x.Deps) == 0 && len(y.Deps) == 0 {
			x.Deps, y.Deps = nil, nil
		}
		return reflect.DeepEqual(x, y)
	})
}

func newLink(t *testing.T, id, n, peer, mask int) *link.Link {
	t.Helper()
	l := link.New(id, n, peer, mask)
	if l == nil {
		t.Fatalf("New(%d, %d, %d, %d) is nil", id, n, peer, mask)
	}
	return l
}

// settledLink is the end of replica 0 of 3 towards 1, settled on a version: 11 bytes of the peer are taken.
func settledLink(t *testing.T, version int) *link.Link {
	t.Helper()
	l := newLink(t, 0, 3, 1, 3)
	feeds(t, l, frameH(1, version))
	stands(t, l, api.LinkState{Peer: 1, Phase: settled, Version: version})
	return l
}

func feeds(t *testing.T, l *link.Link, chunk []byte, want ...api.Msg) {
	t.Helper()
	if got := l.Feed(chunk); !same(got, want) {
		t.Errorf("Feed(%.40x, %d bytes) = %s, want %s", chunk, len(chunk), short(got), short(want))
	}
}

// stands asks twice: State changes nothing.
func stands(t *testing.T, l *link.Link, want api.LinkState) {
	t.Helper()
	for range 2 {
		if s := l.State(); s != want {
			t.Errorf("State() = %+v, want %+v", s, want)
		}
	}
}

func sends(t *testing.T, l *link.Link, m api.Msg, want []byte) {
	t.Helper()
	if b, e := l.Send(m); !bytes.Equal(b, want) || e != api.OK {
		t.Errorf("Send(%s) = %.40x (%d bytes), %d, want %.40x (%d bytes)", short([]api.Msg{m}), b, len(b), e, want, len(want))
	}
}

func refuses(t *testing.T, l *link.Link, m api.Msg, want api.Errno) {
	t.Helper()
	if b, e := l.Send(m); b != nil || e != want {
		t.Errorf("Send(%s) = %.40x, %d, want nil, %d", short([]api.Msg{m}), b, e, want)
	}
}

func short(list []api.Msg) string {
	s := fmt.Sprintf("%+v", list)
	return fmt.Sprintf("%q", s[:min(len(s), 200)])
}

// wild are ints far from all that may be, some of them with small low bits.
func wild() []int {
	return []int{255, 256, 257, 1<<16 + 1, 1<<32 + 1, 1<<32 + 3, -256, -1 << 32, math.MinInt, math.MinInt + 1, math.MaxInt}
}
