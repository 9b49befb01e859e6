package wal

import (
	"errors"
	"iter"
	"strconv"

	"moot/api"
	"moot/frame"
	"moot/record"
)

// stop is the error that ends the reading of a log too early: at its place begins what is not right.
type stop struct{ place int }

func (s stop) Error() string { return "wal: no right frame at byte " + strconv.Itoa(s.place) }

// because wraps an error with what led to it.
type because struct {
	err error
	why string
}

func (b because) Error() string { return b.err.Error() + ": " + b.why }

func (b because) Unwrap() error { return b.err }

// Scan reads a log's bytes: the records, the bytes that stay (or the place of the fault), the error.
func Scan(data []byte, synced, id, n int) ([]api.Record, int, api.Errno) {
	if e := faultOf(id, n); e != api.OK {
		return nil, 0, e
	}
	if synced < 0 || synced > len(data) {
		return nil, 0, api.ErrArg
	}
	head, records, err := read(data, n)
	end := len(data)
	var early stop
	if errors.As(err, &early) {
		end = early.place
	}
	if end < synced {
		return nil, end, api.ErrRot
	}
	// Where not even a head was read, its N is 0, which no n is.
	if head.Id != id || head.N != n {
		return nil, 0, api.ErrHead
	}
	return records, end, api.OK
}

// read gathers what stands in a log: its head, the records behind it, and the error that ended the reading, if one did.
func read(data []byte, n int) (head api.Record, records []api.Record, err error) {
	for place, r := range frames(data, n, &err) {
		if place == 0 {
			head = r
		} else {
			records = append(records, r)
		}
	}
	return head, records, err
}

// frames goes through the right frames of a log: place and record of each. What ends it ahead of the data's end it tells through err.
func frames(data []byte, n int, err *error) iter.Seq2[int, api.Record] {
	return func(yield func(int, api.Record) bool) {
		for place := 0; place < len(data); {
			r, size, fault := rightFrame(data, place, n)
			if fault != nil {
				*err = fault
				return
			}
			if !yield(place, r) {
				return
			}
			place += size
		}
	}
}

// rightFrame reads the frame that begins at a place: its record and how many bytes it has.
func rightFrame(data []byte, place, n int) (api.Record, int, error) {
	payload, size, e := frame.Open(version, data[place:])
	if e != api.OK {
		return api.Record{}, 0, because{stop{place}, "no frame"}
	}
	r, e := record.Decode(n, payload)
	if e != api.OK {
		return api.Record{}, 0, because{stop{place}, "no record"}
	}
	if (r.Kind == api.RecHead) != (place == 0) {
		return api.Record{}, 0, because{stop{place}, "a head stands at byte 0 and nowhere else"}
	}
	return r, size, nil
}
