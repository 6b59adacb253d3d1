package shell

import (
	"fmt"
	"math/rand/v2"
	"regexp"
	"slices"
	"strconv"
	"strings"
	"testing"

	"shuttle/api"
	"shuttle/run"
	"shuttle/stats"
)

// model is a system, and the patterns that its lines have.
type model struct {
	s        *run.System
	patterns []*regexp.Regexp
}

// kinds are the kinds of the steps, by the patterns of their lines: of each the words behind the first one are K and N.
func kinds() map[string]int {
	return map[string]int{
		"send": run.Send, "tick": run.Tick, "there": run.There, "back": run.Back, "lose": run.LoseThere, "lost": run.LoseBack,
		"twice": run.TwiceThere, "again": run.TwiceBack, "turn": run.TurnThere, "flip": run.TurnBack, "poll": run.Poll,
	}
}

func newModel() *model {
	s, _ := run.New(run.Config{Window: api.Window{Size: 4, Queue: 8, Pool: 2}, First: 65534, Age: 10})
	m := &model{s: s}
	for _, p := range []string{`(tick|poll)`, `(send) ([^ ]*)`, `(there|back|lose|lost|twice|again) (0|[1-9][0-9]?[0-9]?)`, `(turn|flip) (0|[1-9][0-9]?[0-9]?) (0|[1-9][0-9]?[0-9]?)`} {
		m.patterns = append(m.patterns, regexp.MustCompile(`\A`+p+`\z`))
	}
	return m
}

// line is what comes of one.
func (m *model) line(line string) string {
	if len(line) == 0 || strings.HasPrefix(line, "#") {
		return ""
	}
	if line == "table" {
		return stats.Table(m.s)
	}
	for _, p := range m.patterns {
		if words := p.FindStringSubmatch(line); words != nil {
			return m.step(words[1:]) + "\n"
		}
	}
	return "what?\n"
}

func (m *model) step(words []string) string {
	x := run.Step{Kind: kinds()[words[0]]}
	if words[0] == "send" {
		x.Bytes = []byte(words[1])
	} else if len(words) > 1 {
		x.K, _ = strconv.Atoi(words[1])
	}
	if len(words) > 2 {
		n, _ := strconv.Atoi(words[2])
		x.At = []int{n}
	}
	b, e := m.s.Do(x)
	if e != api.OK {
		return fmt.Sprintf("error %d", e)
	}
	if words[0] == "poll" {
		return "ok " + string(b)
	}
	there, back := m.s.Flights()
	return fmt.Sprintf("ok %d there, %d back", there, back)
}

// modelled is what comes of a text.
func modelled(text string) string {
	m := newModel()
	all := ""
	for i, line := range strings.Split(text, "\n") {
		if i < 200 {
			all += m.line(line)
		}
	}
	return all
}

// someLine is a line that often names a step that can be done.
func someLine(chance *rand.Rand, i int) string {
	k, n := chance.IntN(3), 48+chance.IntN(60)
	switch chance.IntN(24) {
	case 0, 1, 2:
		return fmt.Sprintf("send m%d", i)
	case 3, 4, 5:
		return "tick"
	case 6, 7, 8, 9:
		return fmt.Sprintf("there %d", k)
	case 10, 11, 12:
		return fmt.Sprintf("back %d", k)
	case 13, 14:
		return "poll"
	case 15:
		return fmt.Sprintf("%s %d", []string{"lose", "lost"}[chance.IntN(2)], k)
	case 16:
		return fmt.Sprintf("%s %d", []string{"twice", "again"}[chance.IntN(2)], k)
	case 17, 18, 19:
		return fmt.Sprintf("turn %d %d", k, n)
	case 20:
		return fmt.Sprintf("flip %d %d", k, n-48)
	case 21:
		return []string{"table", "", "# remark", "what?", "send", "there", "there 0 0", "turn 0"}[chance.IntN(8)]
	}
	return oddLine(chance)
}

// oddLine is words and blanks put together by chance.
func oddLine(chance *rand.Rand) string {
	parts := append(strings.Fields("send tick there back lose lost twice again turn flip poll table # 0 1 00 07 999 1000 -1 \x00 \xff \r \u00e9"), " ", " ", " ", " ", "", "")
	line := ""
	for range 1 + chance.IntN(5) {
		line += parts[chance.IntN(len(parts))]
		if chance.IntN(3) > 0 {
			line += " "
		}
	}
	return line[:chance.IntN(len(line)+1)]
}

// P31.1

func TestAgainstAModel(t *testing.T) {
	chance := rand.New(rand.NewPCG(31, 1))
	seen := map[string]int{}
	for range 400 {
		var text []string
		for i := range 150 + chance.IntN(100) {
			text = append(text, someLine(chance, i))
		}
		all := strings.Join(text, "\n")
		got := Run(all)
		if want := modelled(all); got != want {
			t.Fatalf("of %q came %q, want %q", all, got, want)
		}
		for _, line := range strings.Split(got, "\n") {
			seen[strings.TrimRight(line, "0123456789")]++
		}
	}
	if seen["ok m"] < 1000 || seen["error "] < 1000 || seen["what?"] < 1000 || seen["yield "] < 50 {
		t.Errorf("%v", seen)
	}
}

// P1: it ends, and answers by lines, whatever bytes it is given.
func TestAnyBytes(t *testing.T) {
	chance := rand.New(rand.NewPCG(31, 2))
	for range 2000 {
		b := make([]byte, chance.IntN(400))
		for i := range b {
			b[i] = byte(chance.Uint32())
			if chance.IntN(4) == 0 {
				b[i] = "\n #0atickpolsendwuhrx"[chance.IntN(21)]
			}
		}
		if got, want := Run(string(b)), modelled(string(b)); got != want {
			t.Fatalf("of %q came %q, want %q", b, got, want)
		}
	}
}

// What comes of a line hangs on the lines ahead of it alone, and stands behind what came of them.
func TestWhatIsBehindChangesNothingAhead(t *testing.T) {
	chance := rand.New(rand.NewPCG(31, 3))
	for range 30 {
		text, came := "", ""
		for i := range 60 {
			text += someLine(chance, i) + "\n"
			all := Run(text)
			if !strings.HasPrefix(all, came) {
				t.Fatalf("of %q came %q, want %q ahead", text, all, came)
			}
			came = all
		}
	}
}

// P31.2

func TestADoubledFlight(t *testing.T) {
	is(t, lines("send a", "tick", "twice 0", "there 0", "there 0", "poll", "poll", "back 0", "back 0", "table"),
		"ok 0 there, 0 back", "ok 1 there, 0 back", "ok 2 there, 0 back", "ok 1 there, 1 back", "ok 0 there, 2 back", "ok a", "error 9", "ok 0 there, 1 back", "ok 0 there, 0 back",
		"accepted 1, delivered 1", "from: sent 1, acks 2", "to: old 1, read 1", "kept 0, under way 0, level 0", "waiting 0, buffers 0", "yield 1000")
	is(t, lines("send a", "send b", "tick", "there 0", "there 0", "again 0", "again 1", "back 1", "back 1", "back 1", "back 0", "poll", "poll", "poll", "table"),
		"ok 0 there, 0 back", "ok 0 there, 0 back", "ok 2 there, 0 back", "ok 1 there, 1 back", "ok 0 there, 2 back", "ok 0 there, 3 back", "ok 0 there, 4 back",
		"ok 0 there, 3 back", "ok 0 there, 2 back", "ok 0 there, 1 back", "ok 0 there, 0 back", "ok a", "ok b", "error 9",
		"accepted 2, delivered 2", "from: sent 2, acks 4", "to: read 2", "kept 0, under way 0, level 0", "waiting 0, buffers 0", "yield 1000")
}

// pad is lines that are written one by one, and what came of them by the model.
type pad struct {
	m           *model
	text        []string
	came        string
	there, back int
	sent, got   []string
}

func newPad() *pad { return &pad{m: newModel()} }

// write is a line more.
func (p *pad) write(format string, l ...any) {
	line := fmt.Sprintf(format, l...)
	came := p.m.line(line)
	p.text = append(p.text, line)
	p.came += came
	switch {
	case strings.HasPrefix(line, "send ") && strings.HasPrefix(came, "ok"):
		p.sent = append(p.sent, line[5:])
	case line == "poll" && strings.HasPrefix(came, "ok"):
		p.got = append(p.got, strings.TrimSuffix(came[3:], "\n"))
	}
	p.there, p.back = p.m.s.Flights()
}

// told fails unless that comes of all lines.
func (p *pad) told(t *testing.T) {
	t.Helper()
	if len(p.text) > 200 {
		t.Fatalf("%d lines are too many", len(p.text))
	}
	is(t, strings.Join(p.text, "\n"), strings.Split(strings.TrimSuffix(p.came, "\n"), "\n")...)
}

// pass has all flights come, of each way by chance; if it is a rough one, often they are doubled first, and some are
// turned.
func (p *pad) pass(chance *rand.Rand, rough bool) {
	for p.there > 0 {
		k := chance.IntN(p.there)
		if rough && chance.IntN(3) == 0 {
			p.write("twice %d", k)
		}
		if rough && chance.IntN(4) == 0 {
			p.write("turn %d %d", k, chance.IntN(90))
		}
		p.write("there %d", k)
	}
	for p.back > 0 {
		k := chance.IntN(p.back)
		if rough && chance.IntN(3) == 0 {
			p.write("again %d", k)
		}
		p.write("back %d", k)
	}
}

func TestDoubledFlightsChangeNoMessage(t *testing.T) {
	chance := rand.New(rand.NewPCG(31, 4))
	for range 200 {
		p := newPad()
		for len(p.text) < 110 {
			for range chance.IntN(3) {
				p.write("send m%d", len(p.text))
			}
			p.write("tick")
			p.pass(chance, true)
			for range chance.IntN(4) {
				p.write("poll")
			}
		}
		// So long a try is waited for at most.
		for range 16 {
			p.write("tick")
			p.pass(chance, false)
		}
		for len(p.got) < len(p.sent) && len(p.text) < 199 {
			p.write("poll")
		}
		p.write("poll")
		if !slices.Equal(p.got, p.sent) || !strings.HasSuffix(p.came, "\nerror 9\n") {
			t.Fatalf("of %q: %q were sent, %q polled", p.text, p.sent, p.got)
		}
		p.told(t)
	}
}

// Of two links one has each flight doubled, and both come: behind each tick the same messages are polled.
func TestDoubledFlightsAndPlainOnes(t *testing.T) {
	chance := rand.New(rand.NewPCG(31, 5))
	polled := 0
	for range 200 {
		plain, doubled := newPad(), newPad()
		both := func(format string, l ...any) {
			plain.write(format, l...)
			doubled.write(format, l...)
		}
		for len(doubled.text) < 90 {
			for range chance.IntN(3) {
				both("send m%d", len(doubled.text))
			}
			both("tick")
			for n := plain.there; n > 0; n-- {
				if chance.IntN(4) == 0 {
					both("lose 0")
					continue
				}
				plain.write("there 0")
				// The second one stands behind the others.
				doubled.write("twice 0")
				doubled.write("there 0")
				doubled.write("there %d", doubled.there-1)
			}
			for plain.back > 0 {
				plain.write("back 0")
				doubled.write("again 0")
				doubled.write("back 0")
				doubled.write("back %d", doubled.back-1)
			}
			for doubled.back > 0 {
				doubled.write("back 0")
			}
			for range 2 {
				both("poll")
			}
			if plain.there != doubled.there || !slices.Equal(plain.got, doubled.got) {
				t.Fatalf("%q, and with doubled flights %q", plain.got, doubled.got)
			}
		}
		plain.told(t)
		doubled.told(t)
		polled += len(doubled.got)
	}
	if polled < 500 {
		t.Errorf("%d messages alone", polled)
	}
}
