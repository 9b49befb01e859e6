package link

import (
	"testing"

	"moot/frame"
)

// A closed end has let go of all that reads, whichever way it closed.
func TestP8_5ClosedEndsKeepNothing(t *testing.T) {
	hello := New(1, 3, 0, 3).Hello()
	empty, _ := frame.Seal(2, nil)
	for _, b := range [][]byte{{0}, hello[:10], New(2, 3, 0, 3).Hello(), append(hello[:11:11], 'M', 'M'), append(hello[:11:11], empty...)} {
		l := New(0, 3, 1, 3)
		l.Feed(b)
		l.Feed([]byte{^hello[10]})
		if l.State().Phase != 2 || l.stream != nil || l.take != nil {
			t.Errorf("%x leaves %+v, a stream: %v, a method: %v", b, l.State(), l.stream != nil, l.take != nil)
		}
	}
}
