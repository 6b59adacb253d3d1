package shell

import (
	"fmt"
	"slices"
	"strings"
	"testing"

	"shuttle/frame"
	"shuttle/harq"
	"shuttle/seq"
)

// lines is a text of lines, each with its line end.
func lines(l ...string) string {
	if len(l) == 0 {
		return ""
	}
	return strings.Join(l, "\n") + "\n"
}

// is fails unless of a text just these lines come.
func is(t *testing.T, text string, want ...string) {
	t.Helper()
	if got := Run(text); got != lines(want...) {
		t.Fatalf("of %q came %q, want %q", text, got, lines(want...))
	}
}

// times is a line so many times.
func times(n int, line string) []string { return slices.Repeat([]string{line}, n) }

// nought is the table of a link on which nothing happened.
func nought() []string {
	return []string{"accepted 0, delivered 0", "from: nothing", "to: nothing", "kept 0, under way 0, level 0", "waiting 0, buffers 0", "no yield"}
}

// P31.1

func TestExample(t *testing.T) {
	is(t, lines("send a", "tick", "there 0", "back 0", "poll"), "ok 0 there, 0 back", "ok 1 there, 0 back", "ok 0 there, 1 back", "ok 0 there, 0 back", "ok a")
}

func TestTextsWithoutSteps(t *testing.T) {
	for _, text := range []string{"", "\n", "\n\n\n", "#", "#\n", "# tick\n\n#poll", "#tick\n##\n# "} {
		is(t, text)
	}
}

func TestTheLastLineEndMayBeLeftOut(t *testing.T) {
	is(t, "tick", "ok 0 there, 0 back")
	is(t, "tick\n", "ok 0 there, 0 back")
	is(t, "\n\ntick\n\n#\nfoo\n\n", "ok 0 there, 0 back", "what?")
	is(t, "foo", "what?")
	is(t, "table", nought()...)
	is(t, "table\ntable\n", append(nought(), nought()...)...)
}

func TestWhatIsNoLine(t *testing.T) {
	for _, line := range []string{
		" ", "  ", "\t", "\r", "\x00", " #", " # tick", "\xef\xbb\xbf#", "\xff",
		"foo", "Tick", "TICK", "ticks", "tic", "tick ", " tick", "tick 1", "tick\r", "\ttick", "tick\x00", "tick  ", "tick #",
		"poll ", " poll", "poll 0", "Poll", "table ", " table", "table 0", "Table", "table\r", "ok", "error", "what?",
		"send", "Send a", " send a", "send a b", "send a ", "send  a", "send  ", "send a b c d e", "send\ta",
		"tick,", "tick, poll", "there K", "turn K N", "send, a", "ok 0 there, 0 back", "poll\vx", "poll\u00a0",
	} {
		is(t, line, "what?")
		is(t, lines("send x", line, "tick"), "ok 0 there, 0 back", "what?", "ok 1 there, 0 back")
	}
}

// withFlight are the words of the steps of a flight that have no place, withPlace those of the ones that have.
func withFlight() []string { return strings.Fields("there back lose lost twice again") }
func withPlace() []string  { return strings.Fields("turn flip") }

func TestNumbers(t *testing.T) {
	right := []string{"0", "1", "9", "10", "42", "99", "100", "909", "999"}
	wrong := []string{
		"", "00", "01", "09", "000", "007", "010", "099", "0000", "1000", "9999", "0100", "12345678901234567890", "18446744073709551616", "4294967296",
		"-1", "-0", "+1", "+0", "1.", "1.0", ".1", "1e1", "0x1", "0b1", "0o1", "1_0", "1,", "a", "1a", "a1", "1\r", "\t1", "1\x00", "/", ":", "1/", "1:",
		"\u0663", "\uff11", "\u00b2", "\xb1", "K", "#", "1#",
	}
	for _, word := range withFlight() {
		for _, n := range right {
			is(t, word+" "+n, "error 9")
		}
		for _, n := range wrong {
			is(t, word+" "+n, "what?")
		}
		for _, line := range []string{word, word + " 0 0", word + " 0 ", word + "  0", " " + word + " 0", strings.ToUpper(word) + " 0", word + " 0 0 0", word + "0", word + "\t0"} {
			is(t, line, "what?")
		}
	}
	for _, word := range withPlace() {
		for _, k := range right {
			for _, n := range right {
				is(t, word+" "+k+" "+n, "error 9")
			}
			for _, n := range wrong {
				is(t, word+" "+k+" "+n, "what?")
				is(t, word+" "+n+" "+k, "what?")
				is(t, word+" "+n+" "+n, "what?")
			}
		}
		for _, line := range []string{word, word + " 0", word + " 0 0 0", word + " 0 0 ", word + " 0  0", word + "  0 0", " " + word + " 0 0", word + " ", word + "  "} {
			is(t, line, "what?")
		}
	}
}

// A number tells which flight: of some hundred of them, the last one is there, and none behind it.
func TestNumbersOfThreeDigits(t *testing.T) {
	text := append([]string{"send a", "tick"}, times(130, "twice 0")...)
	got := strings.Split(Run(lines(append(text, "lose 131", "lose 130", "lose 130", "lose 129", "twice 100", "turn 129 700", "twice 130", "lose 99")...)), "\n")
	want := []string{"error 9", "ok 130 there, 0 back", "error 9", "ok 129 there, 0 back", "ok 130 there, 0 back", "ok 130 there, 0 back", "error 9", "ok 129 there, 0 back", ""}
	if got = got[132:]; !slices.Equal(got, want) {
		t.Errorf("%q, want %q", got, want)
	}
}

// Of 200 lines all is done, whatever they are, and of none behind them.
func TestNoMoreThan200Lines(t *testing.T) {
	for _, line := range []string{"", "#", "# send x"} {
		is(t, lines(append(times(199, line), "tick")...), "ok 0 there, 0 back")
		is(t, lines(append(times(200, line), "tick")...))
		is(t, lines(append(times(199, line), "tick", "foo", "poll")...), "ok 0 there, 0 back")
		is(t, strings.Join(append(times(199, line), "tick"), "\n"), "ok 0 there, 0 back")
	}
	is(t, lines(times(200, "foo")...), times(200, "what?")...)
	is(t, lines(times(201, "foo")...), times(200, "what?")...)
	is(t, lines(append(times(199, "poll"), "send a", "tick", "poll")...), append(times(199, "error 9"), "ok 0 there, 0 back")...)
	is(t, strings.Join(times(100000, "poll"), "\n"), times(200, "error 9")...)
	// A table is one line.
	is(t, lines(append(times(199, "#"), "table", "table")...), nought()...)
}

func TestSend(t *testing.T) {
	for _, word := range []string{"a", "", "#", "\x00", "\xff\xfe", "a\r", "\t", "tick", "\u00e9\u4e16", "0", strings.Repeat("x", 64), "\u00a0"} {
		is(t, lines("send "+word, "tick", "there 0", "poll", "poll"), "ok 0 there, 0 back", "ok 1 there, 0 back", "ok 0 there, 1 back", "ok "+word, "error 9")
	}
	is(t, lines("send "+strings.Repeat("x", 65), "send "+strings.Repeat("x", 100000), "tick"), "error 7", "error 7", "ok 0 there, 0 back")
	is(t, "send "+strings.Repeat(" ", 100000), "what?")
}

func TestPollOfNone(t *testing.T) {
	is(t, lines("poll", "send a", "poll", "tick", "poll", "there 0", "poll", "poll"), "error 9", "ok 0 there, 0 back", "error 9", "ok 1 there, 0 back", "error 9", "ok 0 there, 1 back", "ok a", "error 9")
}

// The window is {4, 8, 2}.
func TestTheWindow(t *testing.T) {
	text := append(times(9, "send a"), "tick", "table")
	want := append(times(8, "ok 0 there, 0 back"), "error 8", "ok 4 there, 0 back",
		"accepted 8, delivered 0", "from: sent 4, refused 1", "to: nothing", "kept 8, under way 4, level 0", "waiting 0, buffers 0", "yield 0")
	is(t, lines(text...), want...)
	// Of each of the four frames so much is turned that it can't be read: there is room for two of them.
	text = append(times(4, "send a"), "tick")
	for k := range 4 {
		for n := 48; n < 88; n += 3 {
			text = append(text, fmt.Sprintf("turn %d %d", k, n))
		}
	}
	got := Run(lines(append(append(text, times(4, "there 0")...), "table")...))
	if tail := lines("accepted 4, delivered 0", "from: sent 4", "to: bad 2, noise 2", "kept 4, under way 4, level 0", "waiting 0, buffers 2", "yield 0"); !strings.HasSuffix(got, tail) {
		t.Errorf("%q, want the end %q", got, tail)
	}
}

// What was put ten ticks ago is gone.
func TestTheAge(t *testing.T) {
	text := append([]string{"send a", "tick", "there 0"}, times(10, "tick")...)
	got := strings.Split(Run(lines(text...)), "\n")[3:13]
	for i, line := range got {
		if back := strings.HasSuffix(line, ", 1 back"); back != (i < 9) || !back && !strings.HasSuffix(line, ", 0 back") {
			t.Errorf("behind %d ticks: %q", i+1, line)
		}
	}
	// Likewise there: its tries are at the ticks 1, 3, 7 and 15.
	got = strings.Split(Run(lines(append([]string{"send a"}, times(16, "tick")...)...)), "\n")[1:17]
	for i, n := range []int{1, 1, 2, 2, 2, 2, 3, 3, 3, 3, 2, 2, 1, 1, 2, 2} {
		if want := fmt.Sprintf("ok %d there, 0 back", n); got[i] != want {
			t.Errorf("tick %d: %q, want %q", i+1, got[i], want)
		}
	}
}

// head is the head of the frame that brings the message "a" of a number.
func head(t *testing.T, a seq.Num) []byte {
	t.Helper()
	parts, _ := harq.Versions([]byte("a"))
	b, e := frame.Write(frame.Frame{Kind: frame.Data, Seq: a, Len: 1, Body: parts[0]})
	if e != 0 {
		t.Fatal(e)
	}
	return b[:frame.Head(frame.Data)]
}

// turned are the lines that turn flight 0, the first message's frame, into the one of another number.
func turned(t *testing.T, a seq.Num) []string {
	t.Helper()
	was, is := head(t, 65534), head(t, a)
	var l []string
	for i := range 8 * len(was) {
		if (was[i/8]^is[i/8])>>(7-i%8)&1 == 1 {
			l = append(l, fmt.Sprintf("turn 0 %d", i))
		}
	}
	return l
}

// The first number is 65534: turned into another one, it is one that is as far ahead, or behind, as that one is.
func TestTheFirstNumber(t *testing.T) {
	for _, x := range []struct {
		a    seq.Num
		line string
	}{
		{65534, "to: read 1"}, {65535, "to: read 1"}, {0, "to: read 1"}, {1, "to: read 1"}, {2, "to: far 1"}, {3, "to: far 1"}, {65533, "to: old 1"}, {65532, "to: old 1"},
	} {
		text := slices.Concat([]string{"send a", "tick"}, turned(t, x.a), []string{"there 0", "table"})
		got := strings.Split(Run(lines(text...)), "\n")
		if line := got[len(got)-5]; line != x.line {
			t.Errorf("turned into %d: %q, want %q", x.a, line, x.line)
		}
	}
}

// Each line has its own channel, and its own flight there.
func TestEachChannel(t *testing.T) {
	// Three are there, and two back.
	put := []string{"send a", "send b", "send c", "tick", "twice 0", "twice 1", "there 4", "there 3"}
	for _, x := range []struct{ line, want string }{
		{"there", "ok 2 there, 3 back"}, {"back", "ok 3 there, 1 back"}, {"lose", "ok 2 there, 2 back"}, {"lost", "ok 3 there, 1 back"},
		{"twice", "ok 4 there, 2 back"}, {"again", "ok 3 there, 3 back"}, {"turn", "ok 3 there, 2 back"}, {"flip", "ok 3 there, 2 back"},
	} {
		place, count := "", 3
		if x.line == "turn" || x.line == "flip" {
			place = " 20"
		}
		if slices.Contains(strings.Fields("back lost again flip"), x.line) {
			count = 2
		}
		for k := range 5 {
			want := x.want
			if k >= count {
				want = "error 9"
			}
			got := strings.Split(Run(lines(append(put, fmt.Sprintf("%s %d%s", x.line, k, place))...)), "\n")
			if got[7] != "ok 3 there, 2 back" || got[8] != want || len(got) != 10 {
				t.Errorf("%s %d: %q, want %q", x.line, k, got[8], want)
			}
		}
	}
}

// The k-th flight is the one that comes, is lost, doubled or turned.
func TestEachFlight(t *testing.T) {
	put := []string{"send a", "send b", "send c", "tick"}
	for _, x := range []struct {
		text  []string
		polls []string
	}{
		{[]string{"lose 0", "there 0", "there 0"}, nil},
		{[]string{"lose 1", "there 0", "there 0"}, []string{"ok a"}},
		{[]string{"lose 2", "there 0", "there 0"}, []string{"ok a", "ok b"}},
		{[]string{"there 2", "there 0"}, []string{"ok a"}},
		{[]string{"there 2", "there 1"}, nil},
		{[]string{"there 2", "there 1", "there 0"}, []string{"ok a", "ok b", "ok c"}},
		{[]string{"twice 0", "lose 0", "there 2"}, []string{"ok a"}},
		{[]string{"twice 1", "lose 1", "there 2", "there 0"}, []string{"ok a", "ok b"}},
		{[]string{"turn 0 20", "there 0", "there 0", "there 0"}, nil},
		{[]string{"turn 1 20", "there 0", "there 0", "there 0"}, []string{"ok a"}},
		{[]string{"turn 2 47", "there 0", "there 0", "there 0"}, []string{"ok a", "ok b"}},
		{[]string{"turn 0 20", "turn 0 20", "there 0", "there 0", "there 0"}, []string{"ok a", "ok b", "ok c"}},
		{[]string{"turn 0 20", "turn 0 21", "there 0", "there 0", "there 0"}, nil},
		{[]string{"turn 0 999", "turn 1 500", "turn 2 200", "there 0", "there 0", "there 0"}, []string{"ok a", "ok b", "ok c"}},
	} {
		got := strings.Split(Run(lines(slices.Concat(put, x.text, times(4, "poll"))...)), "\n")
		got = got[len(put)+len(x.text) : len(got)-1]
		if want := append(slices.Clone(x.polls), times(4-len(x.polls), "error 9")...); !slices.Equal(got, want) {
			t.Errorf("%q: %q, want %q", x.text, got, want)
		}
	}
	// Likewise back: an ack that comes leaves less to be kept.
	put = append(put, "there 0", "there 0", "there 0")
	for _, x := range []struct {
		text []string
		kept int
	}{
		{nil, 3}, {[]string{"back 0"}, 2}, {[]string{"back 1"}, 1}, {[]string{"back 2"}, 0}, {[]string{"lost 0", "back 0"}, 1}, {[]string{"lost 2", "back 1"}, 1},
		{[]string{"again 1", "lost 1", "back 2"}, 1}, {[]string{"flip 1 20", "back 1"}, 3}, {[]string{"flip 1 20", "back 0"}, 2}, {[]string{"flip 1 71", "flip 1 71", "back 1"}, 1}, {[]string{"flip 2 72", "back 2"}, 0},
	} {
		got := Run(lines(slices.Concat(put, x.text, []string{"table"})...))
		if want := fmt.Sprintf("kept %d, under way %d, ", x.kept, x.kept); !strings.Contains(got, want) {
			t.Errorf("%q: %q, want %q", x.text, got, want)
		}
	}
}

// Each call has a link of its own.
func TestNothingIsKept(t *testing.T) {
	for range 2 {
		is(t, lines("send a", "tick"), "ok 0 there, 0 back", "ok 1 there, 0 back")
		is(t, lines("there 0", "poll", "table"), append([]string{"error 9", "error 9"}, nought()...)...)
	}
}
