package stats

import (
	"fmt"
	"math"
	"math/big"
	"math/rand/v2"
	"slices"
	"strings"
	"testing"

	"shuttle/api"
	"shuttle/link"
	"shuttle/run"
)

// P30.1, Line

func TestExample(t *testing.T) {
	if got := Line(link.Counts{Sent: 3, Read: 1}); got != "sent 3, read 1" {
		t.Errorf("%q", got)
	}
}

func TestLine(t *testing.T) {
	for _, c := range []struct {
		counts link.Counts
		want   string
	}{
		{link.Counts{}, "nothing"},
		{link.Counts{Sent: 1}, "sent 1"},
		{link.Counts{Refused: 22}, "refused 22"},
		{link.Counts{Bad: 333}, "bad 333"},
		{link.Counts{Old: 4444}, "old 4444"},
		{link.Counts{Far: 10}, "far 10"},
		{link.Counts{Noise: 100}, "noise 100"},
		{link.Counts{Read: 1000}, "read 1000"},
		{link.Counts{Acks: -1}, "acks -1"},
		{link.Counts{Sent: 1, Refused: 2, Bad: 3, Old: 4, Far: 5, Noise: 6, Read: 7, Acks: 8}, "sent 1, refused 2, bad 3, old 4, far 5, noise 6, read 7, acks 8"},
		{link.Counts{Sent: -5, Old: -12, Acks: 3}, "sent -5, old -12, acks 3"},
		{link.Counts{Sent: math.MaxInt, Bad: math.MinInt}, "sent 9223372036854775807, bad -9223372036854775808"},
	} {
		if got := Line(c.counts); got != c.want {
			t.Errorf("Line(%+v) = %q, want %q", c.counts, got, c.want)
		}
	}
}

// line is Line in other words: of the whole list, whatever is 0 is taken out.
func line(c link.Counts) string {
	all := fmt.Sprintf("sent %d, refused %d, bad %d, old %d, far %d, noise %d, read %d, acks %d", c.Sent, c.Refused, c.Bad, c.Old, c.Far, c.Noise, c.Read, c.Acks)
	there := slices.DeleteFunc(strings.Split(all, ", "), func(x string) bool { return strings.HasSuffix(x, " 0") })
	if len(there) == 0 {
		return "nothing"
	}
	return strings.Join(there, ", ")
}

func TestLineOfAllThatMayBeNought(t *testing.T) {
	chance := rand.New(rand.NewPCG(30, 1))
	for set := range 256 {
		for range 4 {
			var n [8]int
			for i := range n {
				if set>>i&1 == 1 {
					n[i] = chance.IntN(1<<(1+chance.IntN(40))) - 20
				}
			}
			c := link.Counts{Sent: n[0], Refused: n[1], Bad: n[2], Old: n[3], Far: n[4], Noise: n[5], Read: n[6], Acks: n[7]}
			if got := Line(c); got != line(c) {
				t.Fatalf("Line(%+v) = %q, want %q", c, got, line(c))
			}
		}
	}
}

// P30.1, Yield

func TestYield(t *testing.T) {
	for _, c := range []struct {
		sent, read, want int
		ok               bool
	}{
		{1, 0, 0, true},
		{1, 1, 1000, true},
		{3, 2, 666, true},
		{3, 1, 333, true},
		{2, 1, 500, true},
		{1001, 1, 0, true},
		{1000, 1, 1, true},
		{1999, 2, 1, true},
		{2000, 2, 1, true},
		{1, 7, 7000, true},
		{1, 1 << 40, 1000 << 40, true},
		{1 << 40, 1 << 40, 1000, true},
		{math.MaxInt, 1 << 40, 0, true},
		{math.MaxInt, 0, 0, true},
		{1<<40 + 1, 1 << 40, 999, true},
		{1, 1<<40 + 1, 0, false},
		{1 << 50, 1<<40 + 1, 0, false},
		{1, math.MaxInt, 0, false},
		{0, 0, 0, false},
		{0, 1, 0, false},
		{-1, 1, 0, false},
		{-1, -1, 0, false},
		{1, -1, 0, false},
		{5, -1, 0, false},
		{math.MinInt, 1, 0, false},
		{math.MinInt, math.MinInt, 0, false},
		{1, math.MinInt, 0, false},
	} {
		if got, ok := Yield(c.sent, c.read); got != c.want || ok != c.ok {
			t.Errorf("Yield(%d, %d) = %d, %v, want %d, %v", c.sent, c.read, got, ok, c.want, c.ok)
		}
	}
}

func TestYieldIsRoundedDown(t *testing.T) {
	chance := rand.New(rand.NewPCG(30, 2))
	for range 20000 {
		sent, read := 1+chance.IntN(1<<(1+chance.IntN(62))), chance.IntN(1<<(1+chance.IntN(40)))
		want := new(big.Int).Mul(big.NewInt(1000), big.NewInt(int64(read)))
		want.Div(want, big.NewInt(int64(sent)))
		if got, ok := Yield(sent, read); !ok || int64(got) != want.Int64() {
			t.Fatalf("Yield(%d, %d) = %d, %v, want %v", sent, read, got, ok, want)
		}
	}
}

// P30.1, Table

func system(t *testing.T, size, queue, pool int) *run.System {
	t.Helper()
	s, e := run.New(run.Config{Window: api.Window{Size: size, Queue: queue, Pool: pool}, First: 65530, Age: 9})
	if e != api.OK {
		t.Fatal(e)
	}
	return s
}

// is fails unless a table has these lines.
func is(t *testing.T, s *run.System, lines ...string) {
	t.Helper()
	if got, want := Table(s), strings.Join(lines, "\n")+"\n"; got != want {
		t.Fatalf("%q, want %q", got, want)
	}
}

func TestTableOfNoSystem(t *testing.T) {
	if got := Table(nil); got != "" {
		t.Errorf("%q", got)
	}
	nought := []string{"accepted 0, delivered 0", "from: nothing", "to: nothing", "kept 0, under way 0, level 0", "waiting 0, buffers 0", "no yield"}
	is(t, system(t, 1, 1, 1), nought...)
	// One that New didn't make has no ends.
	is(t, &run.System{}, nought...)
}

func TestTable(t *testing.T) {
	s := system(t, 2, 4, 2)
	do := func(kind int, at ...int) {
		t.Helper()
		if _, e := s.Do(run.Step{Kind: kind, Bytes: []byte("hi"), At: at}); e != api.OK && e != api.ErrFull {
			t.Fatalf("step %d: %d", kind, e)
		}
	}
	for range 6 {
		do(run.Send)
	}
	is(t, s, "accepted 4, delivered 0", "from: refused 2", "to: nothing", "kept 4, under way 2, level 0", "waiting 0, buffers 0", "no yield")
	do(run.Tick)
	is(t, s, "accepted 4, delivered 0", "from: sent 2, refused 2", "to: nothing", "kept 4, under way 2, level 0", "waiting 0, buffers 0", "yield 0")
	// The first one is turned so much that it isn't read.
	do(run.TurnThere, 48, 51, 54, 57, 60, 63, 66, 69)
	do(run.There)
	is(t, s, "accepted 4, delivered 0", "from: sent 2, refused 2", "to: noise 1", "kept 4, under way 2, level 0", "waiting 0, buffers 1", "yield 0")
	do(run.There)
	is(t, s, "accepted 4, delivered 0", "from: sent 2, refused 2", "to: noise 1, read 1", "kept 4, under way 2, level 0", "waiting 0, buffers 1", "yield 500")
	do(run.Tick)
	do(run.Tick)
	do(run.There)
	is(t, s, "accepted 4, delivered 0", "from: sent 4, refused 2", "to: noise 1, read 2", "kept 4, under way 2, level 0", "waiting 2, buffers 0", "yield 500")
	do(run.Poll)
	do(run.There)
	do(run.Back)
	is(t, s, "accepted 4, delivered 1", "from: sent 4, refused 2, acks 1", "to: old 1, noise 1, read 2", "kept 4, under way 2, level 0", "waiting 1, buffers 0", "yield 500")
	do(run.ForgeThere)
	do(run.There)
	do(run.Back)
	do(run.Back)
	is(t, s, "accepted 4, delivered 1", "from: sent 4, refused 2, acks 3", "to: bad 1, old 1, noise 1, read 2", "kept 2, under way 2, level 0", "waiting 1, buffers 0", "yield 500")
	for range 7 {
		do(run.Tick)
	}
	do(run.There)
	do(run.Back)
	do(run.Back)
	is(t, s, "accepted 4, delivered 1", "from: sent 10, refused 2, acks 5", "to: bad 1, old 1, noise 1, read 3", "kept 1, under way 1, level 1", "waiting 2, buffers 0", "yield 300")
}

// table is Table in other words.
func table(s *run.System) string {
	from, to := s.Ends()
	yield := "no yield"
	if n := from.Counts().Sent; n > 0 {
		yield = fmt.Sprintf("yield %d", 1000*to.Counts().Read/n)
	}
	return fmt.Sprintf("accepted %d, delivered %d\nfrom: %s\nto: %s\nkept %d, under way %d, level %d\nwaiting %d, buffers %d\n%s\n",
		len(s.Accepted()), len(s.Delivered()), line(from.Counts()), line(to.Counts()),
		from.Sender().Kept(), len(from.Sender().Under()), from.Sender().Policy().Level,
		to.Receiver().Waiting(), to.Receiver().Buffers(), yield)
}

// Of two systems one is asked for its table: it goes on as the other one does.
func TestTableAgainstAModelAndChangesNothing(t *testing.T) {
	chance := rand.New(rand.NewPCG(30, 3))
	for _, w := range [][3]int{{1, 1, 1}, {4, 8, 2}, {32, 64, 16}} {
		a, b := system(t, w[0], w[1], w[2]), system(t, w[0], w[1], w[2])
		level := 0
		for range 1500 {
			x := run.Step{Kind: []int{1, 1, 2, 3, 3, 3, 4, 4, 5, 7, 9, 9, 11, 13, 13}[chance.IntN(15)], Bytes: make([]byte, chance.IntN(70))}
			for range chance.IntN(8) {
				x.At = append(x.At, 48+chance.IntN(100))
			}
			got, e := a.Do(x)
			want, no := b.Do(x)
			if !slices.Equal(got, want) || e != no {
				t.Fatalf("Do(%v): %v, %d, want %v, %d", x, got, e, want, no)
			}
			told := table(b)
			for range 2 {
				if text := Table(a); text != told {
					t.Fatalf("%q, want %q", text, told)
				}
			}
			from, _ := a.Ends()
			level = max(level, from.Sender().Policy().Level)
		}
		if _, to := a.Ends(); level == 0 || to.Counts().Read < 20 || to.Counts().Noise < 4 {
			t.Errorf("of %v, the highest level was %d, %+v", w, level, to.Counts())
		}
	}
}
