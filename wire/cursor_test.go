package wire

import (
	"errors"
	"fmt"
	"testing"

	"moot/api"
)

func TestErrnoOf(t *testing.T) {
	for _, c := range []struct {
		given any
		want  api.Errno
	}{
		{errShort, api.ErrShort},
		{errWide, api.ErrWide},
		{errForm, api.ErrForm},
		{errBig, api.ErrBig},
		{errLength, api.ErrLength},
		{fmt.Errorf("wrapped: %w", errForm), api.ErrForm},
		{errors.New(errShort.Error()), api.ErrArg},
		{"a text", api.ErrArg},
	} {
		if got := errnoOf(c.given); got != c.want {
			t.Errorf("errnoOf(%v) = %d, want %d", c.given, got, c.want)
		}
	}
}
