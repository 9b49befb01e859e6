package disk_test

import (
	"fmt"
	"strings"
	"testing"

	"moot/api"
	"moot/disk"
)

// The model is the chapter once more, on texts, which nobody can change.
type model struct {
	bytes string
	mark  int
}

func (m *model) add(b string) api.Errno {
	if len(m.bytes)+len(b) > topDisk {
		return api.ErrFull
	}
	m.bytes += b
	return api.OK
}

func (m *model) crash(keep int) api.Errno {
	if keep < 0 {
		return api.ErrArg
	}
	synced, tail := m.bytes[:m.mark], m.bytes[m.mark:]
	if len(tail) > keep {
		tail = tail[:keep]
	}
	m.bytes = synced + tail
	return api.OK
}

func (m *model) cut(size int) api.Errno {
	if size < m.mark || size > len(m.bytes) {
		return api.ErrPlace
	}
	m.bytes = m.bytes[:size]
	return api.OK
}

func (m *model) rot(at, x int) api.Errno {
	if at < 0 || !(at < len(m.bytes)) {
		return api.ErrPlace
	}
	if x <= 0 || x >= 256 {
		return api.ErrSame
	}
	was := int(m.bytes[at])
	is := 0
	for bit := 1; bit < 256; bit *= 2 {
		if (was/bit+x/bit)%2 == 1 {
			is += bit
		}
	}
	m.bytes = m.bytes[:at] + string([]byte{byte(is)}) + m.bytes[at+1:]
	return api.OK
}

// step is a call with its arguments.
type step struct {
	call string
	b    string
	x, y int
}

// answer is what a step answers; of all but a Look the error alone.
type answer struct {
	e     api.Errno
	bytes string
	mark  int
}

func (s step) on(d *disk.Disk) answer {
	switch s.call {
	case "Append":
		return answer{e: d.Append([]byte(s.b))}
	case "Sync":
		d.Sync()
	case "Crash":
		return answer{e: d.Crash(s.x)}
	case "Cut":
		return answer{e: d.Cut(s.x)}
	case "Rot":
		return answer{e: d.Rot(s.x, s.y)}
	case "Look":
		b, mark := d.Look()
		return answer{bytes: string(b), mark: mark}
	}
	return answer{}
}

func (s step) onModel(m *model) answer {
	switch s.call {
	case "Append":
		return answer{e: m.add(s.b)}
	case "Sync":
		m.mark = len(m.bytes)
	case "Crash":
		return answer{e: m.crash(s.x)}
	case "Cut":
		return answer{e: m.cut(s.x)}
	case "Rot":
		return answer{e: m.rot(s.x, s.y)}
	case "Look":
		return answer{bytes: m.bytes, mark: m.mark}
	}
	return answer{}
}

// step throws one for a disk that stands somewhere near m.
func (d *dice) step(m model) step {
	near := func(places ...int) int {
		if d.below(20) == 0 {
			return pick(d, wild())
		}
		return pick(d, places) + d.below(5) - 2
	}
	switch call := pick(d, []string{"Append", "Append", "Append", "Sync", "Crash", "Cut", "Rot", "Rot", "Look"}); call {
	case "Append":
		return step{call: call, b: d.text(pick(d, []int{0, 1, 2, 3, 7, 40}))}
	case "Crash":
		return step{call: call, x: near(0, 1, 5, len(m.bytes)-m.mark)}
	case "Cut":
		return step{call: call, x: near(0, m.mark, len(m.bytes), m.mark+d.below(len(m.bytes)-m.mark+1))}
	case "Rot":
		return step{call: call, x: near(0, m.mark, len(m.bytes)-1, d.below(len(m.bytes)+1)), y: near(0, 1, 128, 255, d.below(256))}
	default:
		return step{call: call}
	}
}

// walk makes some calls, each answer and what stands behind it held against the model's.
func walk(t *testing.T, d *dice, on *disk.Disk, m *model, calls int) {
	t.Helper()
	var done []string
	for range calls {
		s := d.step(*m)
		done = append(done, fmt.Sprintf("%s(%q, %d, %d)", s.call, s.b, s.x, s.y))
		got, want := s.on(on), s.onModel(m)
		if b, mark := on.Look(); got != want || string(b) != m.bytes || mark != m.mark {
			t.Fatalf("%s: error %d, want %d; %d bytes, mark %d, want %d bytes, mark %d", strings.Join(done, ", "), got.e, want.e, len(b), mark, len(m.bytes), m.mark)
		}
	}
}

func TestWalks(t *testing.T) {
	d := dice(9)
	for range 3000 {
		m := model{bytes: d.text(d.below(30))}
		m.mark = d.below(len(m.bytes) + 1)
		walk(t, &d, image(t, m.bytes, m.mark), &m, 40)
	}
	for range 1000 {
		walk(t, &d, disk.New(), &model{}, 40)
	}
}

// Walks at the upper end: now a call fills the disk, now it would be one byte too much.
func TestWalksOnFullDisks(t *testing.T) {
	d := dice(99)
	for range 12 {
		m := model{bytes: long(topDisk - d.below(20))}
		m.mark = len(m.bytes) - d.below(30)
		walk(t, &d, image(t, m.bytes, m.mark), &m, 25)
	}
}

// What is synced stays, byte by byte, but for rot; behind a crash there is a beginning of the tail.
func TestWhatIsSyncedStays(t *testing.T) {
	d := dice(95)
	for range 1000 {
		on, m := disk.New(), model{}
		for range 40 {
			was, mark := on.Look()
			s := d.step(m)
			if s.call == "Rot" {
				continue
			}
			s.on(on)
			s.onModel(&m)
			is, now := on.Look()
			if now < mark || string(is[:mark]) != string(was[:mark]) {
				t.Fatalf("%s(%q, %d) made %q, %d of %q, %d", s.call, s.b, s.x, is, now, was, mark)
			}
			if s.call == "Crash" && !strings.HasPrefix(string(was), string(is)) {
				t.Fatalf("Crash(%d) made %q of %q", s.x, is, was)
			}
		}
	}
}
