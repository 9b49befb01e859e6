package frame

import (
	"slices"

	"moot/api"
	"moot/crc"
	"moot/wire"
)

// part is where in a frame a stream is.
type part int

const (
	inMagic part = iota
	inVersion
	inLength
	inPayload
	inSum
	waiting // behind the frame, till its payload is taken
	broken
)

// Stream puts frames together; it stays broken once it is broken.
type Stream struct {
	version int
	fault   api.Errno
	place   int // of the first byte of the frame in hand, among all bytes taken
	held    int // bytes taken of the frame in hand
	part    part
	left    int // bytes to come of the payload, then of the sum
	head    [headMost]byte
	payload []byte
	sum     uint32 // of all bytes ahead of the sum; of the sum itself what is to come
}

// NewStream makes a stream of frames of a version.
func NewStream(v int) *Stream {
	if !isVersion(v) {
		return nil
	}
	return &Stream{version: v}
}

// Feed takes bytes up to the end of the next whole frame, and tells how many.
func (s *Stream) Feed(chunk []byte) int {
	rest := chunk
reading:
	for len(rest) > 0 {
		size := 1
		switch s.part {
		case inMagic:
			s.takeMagic(rest[0])
		case inVersion:
			s.takeVersion(rest[0])
		case inLength:
			s.takeLength(rest[0])
		case inPayload:
			size = s.takePayload(rest)
		case inSum:
			s.takeSum(rest[0])
		case waiting, broken:
			break reading
		}
		rest = rest[size:]
	}
	return len(chunk) - len(rest)
}

// Take hands out the payload that waits.
func (s *Stream) Take() ([]byte, bool) {
	if s.part != waiting {
		return nil, false
	}
	// The gathered one may have much spare room: that ends with the frame.
	payload := make([]byte, len(s.payload))
	copy(payload, s.payload)
	*s = Stream{version: s.version, place: s.place + s.held}
	return payload, true
}

// Expect sets the version of the frames to come.
func (s *Stream) Expect(v int) api.Errno {
	switch {
	case !isVersion(v):
		return api.ErrVersion
	case s.fault != api.OK:
		return s.fault
	case s.held > 0: // so it is too while a payload waits
		return api.ErrMid
	}
	s.version = v
	return api.OK
}

// State tells the fault, the place of the frame in hand, the bytes held.
func (s *Stream) State() (api.Errno, int, int) { return s.fault, s.place, s.held }

func (s *Stream) takeMagic(x byte) {
	if x != magic[s.held] {
		s.breakWith(api.ErrMagic)
		return
	}
	s.keep(x)
	if s.held == len(magic) {
		s.part = inVersion
	}
}

func (s *Stream) takeVersion(x byte) {
	if int(x) != s.version {
		s.breakWith(api.ErrOther)
		return
	}
	s.keep(x)
	s.part = inLength
}

func (s *Stream) takeLength(x byte) {
	s.keep(x)
	length, _, e := wire.GetUint(s.head[lengthAt:s.held])
	switch {
	case e == api.ErrForm:
		s.breakWith(e)
	case e == api.ErrShort && s.held == headMost, length > api.MaxPayload:
		s.breakWith(api.ErrLarge)
	case e == api.OK:
		s.part, s.left = inPayload, int(length)
		s.sum = crc.Sum(s.head[:s.held])
	}
}

// takePayload takes what there is of the payload and tells how many bytes: none, if it is empty.
func (s *Stream) takePayload(rest []byte) int {
	run := rest[:min(s.left, len(rest))]
	s.gather(run)
	s.sum = crc.Update(s.sum, run)
	s.held += len(run)
	s.left -= len(run)
	if s.left == 0 {
		s.part, s.left = inSum, sumSize
	}
	return len(run)
}

// gather makes room by what has come, not by the length that a head claims.
func (s *Stream) gather(run []byte) {
	have := len(s.payload)
	s.payload = slices.Grow(s.payload, len(run))[:have+len(run)]
	copy(s.payload[have:], run)
}

func (s *Stream) takeSum(x byte) {
	if x != byte(s.sum) {
		s.breakWith(api.ErrSum)
		return
	}
	s.sum >>= 8
	s.held++
	s.left--
	if s.left == 0 {
		s.part = waiting
	}
}

// keep takes a byte of the head.
func (s *Stream) keep(x byte) {
	s.head[s.held] = x
	s.held++
}

func (s *Stream) breakWith(e api.Errno) {
	*s = Stream{part: broken, fault: e, place: s.place}
}
