package record

import (
	"cmp"
	"math"

	"moot/api"
	"moot/command"
	"moot/vector"
	"moot/wire"
)

// field is how a field is written and how it is read.
type field struct {
	write func(w *writer)
	read  func(s *reader) api.Errno
}

// fieldOf tells what a letter of a row is.
func fieldOf(letter rune) field {
	switch letter {
	case letterId:
		return field{write: (*writer).id, read: (*reader).id}
	case letterN:
		return field{write: (*writer).size, read: (*reader).size}
	case letterInst:
		return field{write: (*writer).inst, read: (*reader).inst}
	case letterBal:
		return field{write: (*writer).ballot, read: (*reader).ballot}
	case letterSame:
		return field{write: (*writer).same, read: (*reader).same}
	case letterCmd:
		return field{write: (*writer).cmd, read: (*reader).cmd}
	case letterSeq:
		return field{write: (*writer).seq, read: (*reader).seq}
	}
	return field{write: (*writer).deps, read: (*reader).deps}
}

// writer writes the fields of a record. Check has gone ahead, so the layers below find nothing amiss.
type writer struct {
	from api.Record
	out  []byte
}

func (w *writer) id() { w.number(w.from.Id) }

func (w *writer) size() { w.number(w.from.N) }

func (w *writer) inst() { w.packed(w.from.Inst.Num, w.from.Inst.Row) }

func (w *writer) ballot() { w.packed(w.from.Bal.Round, w.from.Bal.Who) }

func (w *writer) same() {
	if w.from.Same {
		w.put([]byte{1})
	} else {
		w.put([]byte{0})
	}
}

func (w *writer) cmd() {
	b, _ := command.Encode(version, w.from.Cmd)
	w.put(b)
}

// seq writes nothing of a noop, nor does deps: what these are goes without saying.
func (w *writer) seq() {
	if !isNoop(w.from) {
		w.number(w.from.Seq)
	}
}

func (w *writer) deps() {
	if !isNoop(w.from) {
		b, _ := vector.Pack(version, w.from.Deps)
		w.put(b)
	}
}

func (w *writer) number(x int) { w.put(wire.PutUint(uint64(x))) }

// packed writes two numbers as one; a replica's number has three bits.
func (w *writer) packed(count, replica int) { w.number(8*count + replica) }

func (w *writer) put(b []byte) { w.out = append(w.out, b...) }

// reader reads the fields of a record among n replicas; whoever calls stops at the first error.
type reader struct {
	n    int
	rest []byte
	into api.Record
}

// record reads all that there is: the kind, the fields of the kind's row, and nothing behind them.
func (s *reader) record() api.Errno {
	kind, e := s.octet()
	if e != api.OK {
		return e
	}
	if !isKind(kind) {
		return api.ErrRecKind
	}
	s.into.Kind = kind
	for _, letter := range rows[kind] {
		if e := fieldOf(letter).read(s); e != api.OK {
			return e
		}
		if e := faultOf(s.n, s.into, letter); e != api.OK {
			return e
		}
	}
	return unless(len(s.rest) == 0, api.ErrRecRest)
}

func (s *reader) id() (e api.Errno) {
	s.into.Id, e = s.number()
	return e
}

func (s *reader) size() (e api.Errno) {
	s.into.N, e = s.number()
	return e
}

func (s *reader) inst() (e api.Errno) {
	s.into.Inst.Num, s.into.Inst.Row, e = s.packed()
	return e
}

func (s *reader) ballot() (e api.Errno) {
	s.into.Bal.Round, s.into.Bal.Who, e = s.packed()
	return e
}

func (s *reader) same() api.Errno {
	x, e := s.octet()
	s.into.Same = x == 1
	return cmp.Or(e, unless(x <= 1, api.ErrRecSame))
}

func (s *reader) cmd() api.Errno {
	c, size, e := command.Decode(version, s.rest)
	s.into.Cmd = c
	s.pass(size)
	return e
}

func (s *reader) seq() (e api.Errno) {
	if !isNoop(s.into) {
		s.into.Seq, e = s.number()
	}
	return e
}

func (s *reader) deps() api.Errno {
	if isNoop(s.into) {
		s.into.Deps = make([]int, s.n)
		return api.OK
	}
	d, size, e := vector.Unpack(version, s.n, s.rest)
	s.into.Deps = d
	s.pass(size)
	return e
}

func (s *reader) octet() (int, api.Errno) {
	if len(s.rest) == 0 {
		return 0, api.ErrShort
	}
	x := int(s.rest[0])
	s.pass(1)
	return x, api.OK
}

func (s *reader) number() (int, api.Errno) {
	x, e := s.whole()
	return intOf(x), e
}

func (s *reader) packed() (count, replica int, e api.Errno) {
	x, e := s.whole()
	return intOf(x / 8), int(x % 8), e
}

// whole reads a number at its full width.
func (s *reader) whole() (uint64, api.Errno) {
	x, size, e := wire.GetUint(s.rest)
	s.pass(size)
	return x, e
}

// pass goes behind an item of that size; with an error the size is 0.
func (s *reader) pass(size int) { s.rest = s.rest[size:] }

// intOf is x as an int, of whatever size ints are. All bounds lie below 2^31 - 1, so what is above a bound stays above it.
func intOf(x uint64) int { return int(min(x, math.MaxInt32)) }
