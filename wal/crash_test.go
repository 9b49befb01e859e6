package wal_test

import (
	"testing"

	"moot/api"
	"moot/disk"
)

// written is a log of these records, of which the first so many are synced.
func written(t *testing.T, id, n int, records []api.Record, synced int) *disk.Disk {
	t.Helper()
	d := disk.New()
	l := creates(t, d, id, n)
	for i, r := range records {
		if i == synced {
			l.Sync()
		}
		appends(t, l, r, api.OK)
	}
	if synced == len(records) {
		l.Sync()
	}
	shows(t, d, logOf(id, n, records...), endsOf(n, records...)[synced])
	return d
}

// Some records synced, some not, a crash that keeps each number of bytes: just the synced ones and whole ones behind them are found.
func TestP10_7EveryCrash(t *testing.T) {
	records := sorts(3)
	ends := endsOf(3, records...)
	for synced := range len(records) + 1 {
		mark := ends[synced]
		for keep := range ends[len(ends)-1] - mark + 2 {
			d := written(t, 1, 3, records, synced)
			d.Crash(keep)
			whole := synced
			for whole < len(records) && ends[whole+1] <= mark+keep {
				whole++
			}
			l := recovers(t, d, 1, 3, records[:whole], ends[whole])
			// And it goes on from there, as if what was lost had never been.
			appends(t, l, recB, api.OK)
			l.Sync()
			d.Crash(0)
			after := append(records[:whole:whole], recB)
			recovers(t, d, 1, 3, after, len(logOf(1, 3, after...)))
		}
	}
}

func TestP10_7EveryReplica(t *testing.T) {
	eachLog(func(id, n int) {
		records := append(sorts(n), sorts(n)[3])
		ends := endsOf(n, records...)
		for synced := range len(records) + 1 {
			for _, lost := range []int{0, 1, 4, 5} {
				d := written(t, id, n, records, synced)
				d.Crash(max(0, ends[len(ends)-1]-ends[synced]-lost))
				whole := len(records)
				if lost > 0 && synced < len(records) {
					whole--
				}
				recovers(t, d, id, n, records[:whole], ends[whole])
			}
		}
	})
}

// The greatest record, with a short one behind it.
func TestP10_7LongRecords(t *testing.T) {
	records := []api.Record{recA, greatest(3), recB}
	ends := endsOf(3, records...)
	for synced := range 4 {
		for _, size := range []int{ends[1] + 1, ends[2] - 1, ends[2], ends[2] + 1, ends[3] - 1, ends[3]} {
			d := written(t, 1, 3, records, synced)
			d.Crash(max(0, size-ends[synced]))
			whole := synced
			for whole < 3 && ends[whole+1] <= size {
				whole++
			}
			recovers(t, d, 1, 3, records[:whole], ends[whole])
		}
	}
}

// A crash ahead of the first Sync: the Head is there all the same.
func TestP10_7BehindCreate(t *testing.T) {
	eachLog(func(id, n int) {
		d := disk.New()
		creates(t, d, id, n)
		d.Crash(0)
		recovers(t, d, id, n, nil, 11)
	})
}

// A byte that went bad among the synced ones is told, and nothing is cut; among the others it takes the tail from its frame on.
func TestP10_7Rot(t *testing.T) {
	records := sorts(3)
	all, ends := logOf(1, 3, records...), endsOf(3, records...)
	for synced := range len(records) + 1 {
		for at := range all {
			d := written(t, 1, 3, records, synced)
			d.Rot(at, 1+at%255)
			d.Crash(len(all))
			from := 0
			for ends[from] <= at {
				from++
			}
			if at < ends[synced] {
				recoverFails(t, d, 1, 3, append([]int{0}, ends...)[from], api.ErrRot)
			} else {
				recovers(t, d, 1, 3, records[:from-1], ends[from-1])
				shows(t, d, all[:ends[from-1]], ends[from-1])
			}
		}
	}
}
