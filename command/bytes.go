package command

import (
	"moot/api"
	"moot/wire"
)

// Encode writes a command.
func Encode(v int, c api.Cmd) ([]byte, api.Errno) {
	if e := Check(v, c); e != api.OK {
		return nil, e
	}
	out := []byte{byte(c.Kind)}
	if c.Kind == api.Noop {
		return out, api.OK
	}
	out = append(out, wire.PutUint(uint64(c.Client))...)
	out = append(out, wire.PutUint(uint64(c.Req))...)
	out = append(out, wire.PutText(c.Key)...)
	switch c.Kind {
	case api.Move, api.Copy, api.Count:
		shared := sharedStart(c.Key, c.Key2)
		out = append(out, wire.PutUint(uint64(shared))...)
		out = append(out, wire.PutText(c.Key2[shared:])...)
	case api.Cas:
		out = append(out, wire.PutText(c.Old)...)
		fallthrough
	case api.Put:
		out = append(out, wire.PutText(c.Val)...)
	case api.Add:
		out = append(out, wire.PutInt(c.N)...)
	}
	return out, api.OK
}

// mostRead is more than any reading looks at: the kind, a number of ten bytes for
// each number and each length, and the texts at their greatest.
const mostRead = 1 + 8*10 + 2*api.MaxKey + 2*api.MaxVal2

// Decode reads the command at the start of b: the command, its bytes, the error.
func Decode(v int, b []byte) (api.Cmd, int, api.Errno) {
	if !isVersion(v) {
		return api.Cmd{}, 0, api.ErrVersion
	}
	// A reader copies its bytes, and far more of them may stand behind the command.
	s := scan{reader: wire.NewReader(b[:min(len(b), mostRead)])}
	c := s.command(v)
	if s.fault != api.OK {
		return api.Cmd{}, 0, s.fault
	}
	_, size := s.reader.Err()
	return c, size, api.OK
}

// scan reads a command's items. Its fault is the first thing amiss: what is read behind that is of no weight.
type scan struct {
	reader *wire.Reader
	fault  api.Errno
}

func (s *scan) command(v int) api.Cmd {
	c := api.Cmd{Kind: s.kind(v)}
	if s.fault != api.OK || c.Kind == api.Noop {
		return c
	}
	c.Client = s.number(api.MaxClient, api.ErrClient)
	c.Req = s.number(api.MaxReq, api.ErrReq)
	c.Key = s.text(1, api.MaxKey, api.ErrKey)
	switch c.Kind {
	case api.Move, api.Copy, api.Count:
		c.Key2 = s.key2(c.Kind, c.Key)
	case api.Cas:
		c.Old = s.text(0, mostVal(v), api.ErrOld)
		fallthrough
	case api.Put:
		c.Val = s.text(0, mostVal(v), api.ErrVal)
	case api.Add:
		c.N = s.signed()
	}
	return c
}

func (s *scan) kind(v int) int {
	kind := s.reader.Byte(255)
	s.note(api.ErrKind)
	if !isKind(v, kind) {
		s.refuse(api.ErrKind)
	}
	return kind
}

func (s *scan) number(most int, own api.Errno) int {
	x := s.reader.Uint(uint64(most))
	s.note(own)
	return int(x)
}

func (s *scan) signed() int64 {
	x := s.reader.Int()
	s.note(api.ErrBig) // N has no bounds, so it has no error of its own
	return x
}

func (s *scan) text(least, most int, own api.Errno) string {
	t := s.reader.Text(least, most)
	s.note(own)
	return t
}

func (s *scan) key2(kind int, key string) string {
	shared := s.number(len(key), api.ErrKey2)
	key2 := key[:shared] + s.text(1-shared, api.MaxKey-shared, api.ErrKey2)
	if sharedStart(key, key2) > shared {
		s.refuse(api.ErrForm)
	}
	if !isPair(kind, key, key2) {
		s.refuse(api.ErrKey2)
	}
	return key2
}

// note takes up what the reader found amiss; of what is out of bounds the field has an error of its own.
func (s *scan) note(own api.Errno) {
	switch e, _ := s.reader.Err(); e {
	case api.OK:
	case api.ErrBig, api.ErrLength:
		s.refuse(own)
	default:
		s.refuse(e)
	}
}

// refuse is for the first fault alone: a later one doesn't change it.
func (s *scan) refuse(e api.Errno) {
	if s.fault == api.OK {
		s.fault = e
	}
}

// sharedStart is how many bytes a and b share at their beginning.
func sharedStart(a, b string) int {
	n := 0
	for n < len(a) && n < len(b) && a[n] == b[n] {
		n++
	}
	return n
}
