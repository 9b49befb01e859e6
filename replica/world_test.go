package replica_test

import (
	"maps"
	"reflect"
	"slices"
	"testing"

	"moot/api"
	"moot/command"
	"moot/msg"
	"moot/replica"
	"moot/vector"
)

// flight is a message on its way.
type flight struct {
	from, to int
	m        api.Msg
}

// held is messages that may go out once so many records are safe.
type held struct {
	need int
	outs []api.Out
}

// life is a replica with its log; it is down where r is nil.
type life struct {
	r    *replica.Replica
	log  []api.Record // what it began with, and what it gave out since
	safe int
	held []held
}

// bid is what an instance was proposed with, and what was committed and safe then.
type bid struct {
	cmd    api.Cmd
	before []api.Inst
}

// world is n replicas and the messages between them. A message goes out when all records given out with it or ahead of it are safe.
type world struct {
	t       *testing.T
	d       *dice
	n       int
	lives   []*life
	air     []flight
	bids    map[api.Inst]bid
	commits map[api.Inst]api.Record // of which a record is safe, anywhere
	ways    map[string]int          // how often what came to pass
}

func newWorld(t *testing.T, d *dice, n int) *world {
	w := &world{t: t, d: d, n: n, bids: map[api.Inst]bid{}, commits: map[api.Inst]api.Record{}, ways: map[string]int{}}
	for id := range n {
		w.lives = append(w.lives, &life{r: replica.New(id, n)})
	}
	return w
}

func (w *world) propose(id int, c api.Cmd) {
	w.t.Helper()
	x, e := w.lives[id].r.Propose(c)
	if e != api.OK || x.Row != id {
		w.t.Fatalf("Propose(%+v) at %d = %v, %d", c, id, x, e)
	}
	// Of what was proposed here before in an earlier life nothing has gone out.
	w.bids[x] = bid{c, slices.Collect(maps.Keys(w.commits))}
}

// take gathers what a replica gives out: each record and message must be valid, and make what the replica shows.
func (w *world) take(id int) {
	w.t.Helper()
	l := w.lives[id]
	records, outs := l.r.Take()
	l.log = append(l.log, records...)
	l.held = append(l.held, held{len(l.log), outs})
	for _, o := range outs {
		if e := msg.Check(2, w.n, o.Msg); e != api.OK || o.To == id || o.To < 0 || o.To >= w.n {
			w.t.Fatalf("replica %d sends %+v: %d", id, o, e)
		}
	}
	if w.d.below(8) == 0 {
		again := fresh(w.t, id, w.n, l.log...)
		if got, want := again.Slots(), l.r.Slots(); !reflect.DeepEqual(bareSlots(got), bareSlots(want)) {
			w.t.Fatalf("the records of %d make\n%snot\n%s", id, lines(got), lines(want))
		}
	}
}

// sync makes records safe, and lets go what waited for them.
func (w *world) sync(id, upTo int) {
	w.t.Helper()
	l := w.lives[id]
	for _, r := range l.log[l.safe:upTo] {
		if r.Kind == api.RecCommitted {
			w.isCommitted(r)
		}
	}
	l.safe = upTo
	for len(l.held) > 0 && l.held[0].need <= l.safe {
		for _, o := range l.held[0].outs {
			w.air = append(w.air, flight{id, o.To, o.Msg})
		}
		l.held = l.held[1:]
	}
}

func (w *world) deliver(i int) {
	w.t.Helper()
	f := w.air[i]
	if r := w.lives[f.to].r; r != nil {
		before, _, _ := r.Lead(f.m.Inst)
		if e := r.Receive(f.from, f.m); e != api.OK {
			w.t.Fatalf("Receive(%d, %+v) at %d = %d", f.from, f.m, f.to, e)
		}
		after, b, _ := r.Lead(f.m.Inst)
		if before != after {
			w.ways[[]string{"none", "pre-accept", "accept", "prepare"}[before]+" to "+[]string{"none", "pre-accept", "accept", "prepare"}[after]]++
		}
		if before == api.LeadPrepare && after == api.LeadAccept && b.Round > 0 {
			w.ways["accepted from votes"]++
		}
	}
}

func (w *world) lose(i int) { w.air = slices.Delete(w.air, i, i+1) }

// crash leaves all that is safe of a log, and some of the rest.
func (w *world) crash(id int) {
	l := w.lives[id]
	l.r, l.held = nil, nil
	l.log = l.log[:l.safe+w.d.below(len(l.log)-l.safe+1)]
}

// start begins a life with what is left; that it read it makes it safe.
func (w *world) start(id int) {
	w.t.Helper()
	l := w.lives[id]
	l.r = fresh(w.t, id, w.n, l.log...)
	w.sync(id, len(l.log))
}

// isCommitted holds a commit against all that is promised of commits.
func (w *world) isCommitted(r api.Record) {
	w.t.Helper()
	if was, ok := w.commits[r.Inst]; ok {
		if !reflect.DeepEqual(was, r) {
			w.t.Fatalf("P13.16 (a): %+v is committed, and %+v", was, r)
		}
		return
	}
	w.commits[r.Inst] = r
	if r.Cmd.Kind == api.Noop {
		w.ways["noop"]++
		return
	}
	if b, ok := w.bids[r.Inst]; !ok || b.cmd != r.Cmd {
		w.t.Fatalf("P13.16 (c): %+v is committed, %+v was proposed", r, b)
	}
	for _, other := range w.commits {
		if other.Inst == r.Inst || !command.Conflict(other.Cmd, r.Cmd) {
			continue
		}
		if !vector.Holds(other.Deps, r.Inst) && !vector.Holds(r.Deps, other.Inst) {
			w.t.Fatalf("P13.16 (b): neither of %+v and %+v waits for the other", other, r)
		}
		w.isInTime(other, r)
		w.isInTime(r, other)
	}
}

// isInTime: what was proposed behind a commit comes behind it.
func (w *world) isInTime(x, y api.Record) {
	w.t.Helper()
	if !slices.Contains(w.bids[y.Inst].before, x.Inst) {
		return
	}
	w.ways["proposed behind a commit"]++
	if !vector.Holds(y.Deps, x.Inst) || vector.Holds(x.Deps, y.Inst) || y.Seq <= x.Seq {
		w.t.Fatalf("P13.16 (d): %+v was committed when %+v was proposed", x, y)
	}
}

// insts are all that anybody has a slot of, in order.
func (w *world) insts() []api.Inst {
	var out []api.Inst
	for _, l := range w.lives {
		if l.r != nil {
			for _, s := range l.r.Slots() {
				out = append(out, s.Inst)
			}
		}
	}
	slices.SortFunc(out, func(x, y api.Inst) int { return 8*(x.Num-y.Num) + x.Row - y.Row })
	return slices.Compact(out)
}

// mood is how often what happens, of all that does.
type mood struct {
	propose, recover, timeout, want, lose, double, crash, lazy, most int
}

// step does one thing.
func (w *world) step(m mood) {
	w.t.Helper()
	id := w.d.below(w.n)
	l := w.lives[id]
	if l.r == nil {
		if w.d.below(4) == 0 {
			w.start(id)
		}
		return
	}
	what := w.d.below(100)
	chosen := func(share int) bool {
		what -= share
		return what < 0
	}
	switch {
	case chosen(m.propose):
		if len(w.bids) < m.most {
			w.propose(id, w.d.command())
		}
	case chosen(m.recover):
		w.wish(l.r.Recover)
	case chosen(m.timeout):
		w.wish(l.r.Timeout)
	case chosen(m.want):
		w.wish(l.r.Want)
	case chosen(m.crash):
		w.crash(id)
		return
	default:
		w.fly(m)
	}
	for id, l := range w.lives {
		if l.r != nil && w.d.below(100) >= m.lazy {
			w.take(id)
			w.sync(id, l.safe+w.d.below(len(l.log)-l.safe+1))
			if w.d.below(3) > 0 {
				w.sync(id, len(l.log))
			}
		}
	}
}

func (w *world) wish(do func(api.Inst) api.Errno) {
	if all := w.insts(); len(all) > 0 {
		do(pick(w.d, all))
	}
}

// fly delivers some message, at times leaves it in the air, at times loses it.
func (w *world) fly(m mood) {
	w.t.Helper()
	if len(w.air) == 0 {
		return
	}
	i := w.d.below(len(w.air))
	if w.d.below(100) < m.lose {
		w.lose(i)
		return
	}
	w.deliver(i)
	if w.d.below(100) >= m.double {
		w.lose(i)
	}
}

// calm brings everything to its end: nobody falls any more, and nothing is lost.
func (w *world) calm() {
	w.t.Helper()
	for id, l := range w.lives {
		if l.r == nil {
			w.start(id)
		}
	}
	w.quiet()
	for _, x := range w.insts() {
		w.finish(x)
	}
	for _, l := range w.lives[1:] {
		if got, want := l.r.Slots(), w.lives[0].r.Slots(); !reflect.DeepEqual(bareSlots(got), bareSlots(want)) {
			w.t.Fatalf("in calm there are\n%sand\n%s", lines(got), lines(want))
		}
	}
}

// finish recovers an instance till it is committed, and tells all of it.
func (w *world) finish(x api.Inst) {
	w.t.Helper()
	for tries := range 2 * w.n {
		id := tries % w.n
		r := w.lives[id].r
		if r.Recover(x) == api.ErrDone {
			r.Timeout(x)
			w.quiet()
			return
		}
		w.quiet()
	}
	w.t.Fatalf("%v is not committed behind so many recoveries in calm", x)
}

// quiet delivers all there is.
func (w *world) quiet() {
	w.t.Helper()
	for {
		for id, l := range w.lives {
			w.take(id)
			w.sync(id, len(l.log))
		}
		if len(w.air) == 0 {
			return
		}
		for len(w.air) > 0 {
			w.deliver(0)
			w.lose(0)
		}
	}
}

// ended holds all commits against one another once more.
func (w *world) ended() {
	w.t.Helper()
	for _, r := range slices.Collect(maps.Values(w.commits)) {
		delete(w.commits, r.Inst)
		w.isCommitted(r)
	}
}

func moods() []mood {
	return []mood{
		{propose: 10, recover: 2, timeout: 6, want: 1, lose: 5, double: 5, crash: 1, lazy: 20, most: 6},
		{propose: 8, recover: 8, timeout: 8, want: 2, lose: 20, double: 30, crash: 3, lazy: 40, most: 4},
		{propose: 5, recover: 15, timeout: 10, want: 1, lose: 10, double: 60, crash: 2, lazy: 10, most: 3},
		{propose: 10, recover: 5, timeout: 20, want: 3, lose: 40, double: 10, crash: 8, lazy: 50, most: 4},
		{propose: 20, recover: 3, timeout: 3, want: 0, lose: 0, double: 0, crash: 0, lazy: 0, most: 12},
	}
}

// What is promised of commits holds in all worlds, whatever happens in them.
func TestP13_16Worlds(t *testing.T) {
	worlds(t, 1316, 1200, 160)
}

func worlds(t *testing.T, seed dice, count, steps int) {
	d, ways := seed, map[string]int{}
	for i := range count {
		w := newWorld(t, &d, pick(&d, []int{3, 3, 3, 5, 5, 7}))
		m := moods()[i%len(moods())]
		for range steps {
			w.step(m)
		}
		w.calm()
		w.ended()
		ways["commit"] += len(w.commits)
		for way, times := range w.ways {
			ways[way] += times
		}
	}
	t.Log(ways)
	for _, way := range []string{"commit", "noop", "proposed behind a commit", "accepted from votes", "pre-accept to none", "pre-accept to accept", "accept to none", "prepare to none", "prepare to pre-accept", "prepare to accept"} {
		if ways[way] < count/40 {
			t.Errorf("of %q there is only %d", way, ways[way])
		}
	}
}
