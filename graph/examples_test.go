package graph_test

import (
	"testing"

	"moot/api"
)

const lastRow = "0.1 s2 [0 2 0], 1.1 s1 [0 0 0], 1.2 s3 [0 0 1]"

func TestP14_8ExamplesOfGroups(t *testing.T) {
	zero := vec(0, 0, 0)
	for _, c := range []struct {
		nodes  string
		low    []int
		groups string
	}{
		{"none", zero, "none"},
		{"0.1 s1 [0 0 0]", zero, "(0.1)"},
		{"0.1 s1 [0 0 0], 1.1 s2 [1 0 0]", zero, "(0.1) (1.1)"},
		{"0.1 s2 [0 1 0], 1.1 s2 [1 0 0]", zero, "(0.1 1.1)"},
		{"0.1 s3 [0 1 0], 1.1 s2 [1 0 0]", zero, "(1.1 0.1)"},
		{"0.1 s3 [0 1 0], 1.1 s2 [1 0 1], 2.1 s9 [0 0 0]", zero, "(2.1) (1.1 0.1)"},
		{"0.1 s1 [0 0 0], 1.1 s9 [0 0 0], 2.1 s5 [0 1 0]", zero, "(0.1) (1.1) (2.1)"},
		{"0.1 s1 [1 0 0]", zero, "(0.1)"},
		{"0.2 s2 [1 0 0]", zero, "none"},
		{"0.2 s2 [1 0 0]", vec(1, 0, 0), "(0.2)"},
		{"0.1 s1 [3 0 0], 0.2 s1 [0 0 0], 0.3 s1 [0 0 0]", zero, "(0.2) (0.3) (0.1)"},
		{"0.1 s1 [2 0 0], 0.2 s1 [1 0 0] Ran", zero, "(0.1)"},
		{lastRow, zero, "(1.1)"},
	} {
		groupsAre(t, 3, c.low, read(t, c.nodes), readGroups(t, c.groups))
	}
}

func TestP14_8ExamplesOfGaps(t *testing.T) {
	zero := vec(0, 0, 0)
	gapsAre(t, 3, zero, read(t, lastRow), in(0, 1), 0, 0, 1)
	gapsAre(t, 3, zero, read(t, lastRow), in(1, 1), 0, 0, 0)
	gapsAre(t, 3, vec(0, 0, 3), read(t, "0.1 s1 [0 9 4], 1.1 s1 [0 0 0], 1.3 s1 [0 0 0]"), in(0, 1), 0, 2, 4)
	gapsAre(t, 3, zero, read(t, "none"), in(2, 7), 0, 0, 7)
	gapsAre(t, 3, vec(0, 0, 7), read(t, "none"), in(2, 7), 0, 0, 0)
}

func TestP14_8ExamplesOfErrors(t *testing.T) {
	one := read(t, "0.1 s1 [0 0 0]")
	groupsRefused(t, 4, vec(0, 0, 0, 0), one, api.ErrSize)
	groupsRefused(t, 4, nil, nil, api.ErrSize)
	groupsRefused(t, 3, vec(0, 0), one, api.ErrArg)
	groupsRefused(t, 3, vec(0, 0, 0), read(t, "0.1 s1 [0 0 0], 0.1 s1 [0 0 0]"), api.ErrGraphTwice)
	groupsRefused(t, 3, vec(1, 0, 0), one, api.ErrGraphNode)
}
