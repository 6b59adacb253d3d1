package pieces

import (
	"bytes"
	"slices"
	"testing"

	"shuttle/api"
)

// text is n bytes, other ones at each place.
func text(n int) []byte {
	l := make([]byte, n)
	for i := range l {
		l[i] = byte(i*7 + i>>8*31 + n)
	}
	return l
}

// messages are those of a text that has some.
func messages(t *testing.T, text []byte) [][]byte {
	t.Helper()
	l, e := Split(text)
	if e != api.OK || len(l) == 0 {
		t.Fatalf("Split of %d bytes: %d messages, %d", len(text), len(l), e)
	}
	return l
}

// message is one of that first byte and so many behind it.
func message(head byte, n int) []byte { return append([]byte{head}, text(n)...) }

// is fails unless so many bytes came of a text under way, and so many messages were bad.
func is(t *testing.T, j *Joiner, half, bad int) {
	t.Helper()
	if j.Half() != half || j.Bad() != bad {
		t.Fatalf("%d bytes came, %d were bad, want %d, %d", j.Half(), j.Bad(), half, bad)
	}
}

// goes has messages taken that end no text.
func goes(t *testing.T, j *Joiner, l ...[]byte) {
	t.Helper()
	for i, m := range l {
		if x, ok, e := j.Take(m); len(x) != 0 || ok || e != api.OK {
			t.Fatalf("Take of the message %d (%d bytes): %d bytes, %v, %d", i, len(m), len(x), ok, e)
		}
	}
}

// ends fails unless a message ends that text.
func ends(t *testing.T, j *Joiner, m, want []byte) {
	t.Helper()
	if x, ok, e := j.Take(m); !bytes.Equal(x, want) || !ok || e != api.OK {
		t.Fatalf("Take of %d bytes: %d bytes, %v, %d, want %d", len(m), len(x), ok, e, len(want))
	}
}

// refuses fails unless a message is refused with that error, and no text is under way then.
func refuses(t *testing.T, j *Joiner, m []byte, want api.Errno) {
	t.Helper()
	bad := j.Bad()
	if x, ok, e := j.Take(m); len(x) != 0 || ok || e != want {
		t.Fatalf("Take of %d bytes: %d bytes, %v, %d, want %d", len(m), len(x), ok, e, want)
	}
	is(t, j, 0, bad+1)
}

// joins has a whole text taken.
func joins(t *testing.T, j *Joiner, text []byte) {
	t.Helper()
	l := messages(t, text)
	goes(t, j, l[:len(l)-1]...)
	ends(t, j, l[len(l)-1], text)
}

// P34.1, Split

func TestExample(t *testing.T) {
	if l := messages(t, []byte("a")); len(l) != 1 || !bytes.Equal(l[0], []byte{0xc0, 0x61}) {
		t.Errorf("%v", l)
	}
}

func TestSplitOfNothing(t *testing.T) {
	for _, x := range [][]byte{nil, {}} {
		if l := messages(t, x); len(l) != 1 || !bytes.Equal(l[0], []byte{0xc0}) {
			t.Errorf("%v", l)
		}
	}
}

// lengths are short ones, and the longest, and those near whole messages.
func lengths() []int {
	var l []int
	for n := range 400 {
		l = append(l, n)
	}
	for _, k := range []int{62, 63, 64, 65, 127, 128, 129, 1039, 1040} {
		l = append(l, 63*k-1, 63*k, 63*k+1)
	}
	return append(l, 65534, 65535, 65536)
}

func TestSplitOfEachLength(t *testing.T) {
	for _, n := range lengths() {
		x := text(n)
		want := (n + 62) / 63
		if n == 0 {
			want = 1
		}
		l := messages(t, x)
		if len(l) != want {
			t.Fatalf("Split of %d bytes: %d messages, want %d", n, len(l), want)
		}
		for i, m := range l {
			head := i % 64
			if i == 0 {
				head += 128
			}
			end := 63 * (i + 1)
			if i == want-1 {
				head += 64
				end = n
			}
			if int(m[0]) != head || !bytes.Equal(m[1:], x[63*i:end]) {
				t.Fatalf("Split of %d bytes: the message %d is %v", n, i, m)
			}
		}
	}
}

func TestSplitOfTooMuch(t *testing.T) {
	for _, n := range []int{65537, 65538, 65583, 1 << 17, 1 << 24} {
		if l, e := Split(make([]byte, n)); len(l) != 0 || e != api.ErrLong {
			t.Errorf("Split of %d bytes: %d messages, %d, want nothing and ErrLong", n, len(l), e)
		}
	}
}

// P34.1, Take

func TestNew(t *testing.T) {
	is(t, New(), 0, 0)
	if New() == New() {
		t.Error("it isn't a new one")
	}
}

func TestTake(t *testing.T) {
	j := New()
	x := text(150)
	l := messages(t, x)
	goes(t, j, l[0])
	is(t, j, 63, 0)
	goes(t, j, l[1])
	is(t, j, 126, 0)
	ends(t, j, l[2], x)
	is(t, j, 0, 0)
	ends(t, j, []byte{0xc0}, nil)
	is(t, j, 0, 0)
	ends(t, j, []byte{0xc0, 5}, []byte{5})
	is(t, j, 0, 0)
	joins(t, j, text(126))
	joins(t, j, text(127))
	is(t, j, 0, 0)
}

// What can't be a message at all is refused, whether a text is under way or not.
func TestTakeOfNoMessage(t *testing.T) {
	bad := [][]byte{
		nil, {},
		message(0xc0, 64), message(0x80, 64), message(0x40, 64), message(0x01, 64), message(0x41, 100), make([]byte, 1<<20),
		{0x80}, {0x81}, {0x00}, {0x01}, {0x3f},
		message(0x80, 1), message(0x80, 62), message(0x01, 1), message(0x01, 62), message(0xbf, 62),
		{0x40}, {0x41}, {0x7f},
	}
	for _, m := range bad {
		j := New()
		refuses(t, j, m, api.ErrForm)
		goes(t, j, message(0x80, 63))
		refuses(t, j, m, api.ErrForm)
		// The text under way isn't any more.
		refuses(t, j, message(0x41, 1), api.ErrMiss)
		refuses(t, j, m, api.ErrForm)
		is(t, j, 0, 4)
		joins(t, j, text(70))
	}
}

// Of all first bytes and lengths what can be a message, and may be the first one, is taken.
func TestTakeOfEachFirstByteAndLength(t *testing.T) {
	for head := range 256 {
		for n := range 66 {
			first, last, number := head >= 128, head/64%2 == 1, head%64
			form := n <= 63 && (last || n == 63) && (!last || first || n > 0)
			m := message(byte(head), n)
			for came := range 3 {
				j := New()
				goes(t, j, messages(t, text(200))[:came]...)
				switch {
				case !form:
					refuses(t, j, m, api.ErrForm)
				case first && number == 0:
					bad := min(came, 1)
					if last {
						ends(t, j, m, text(n))
						is(t, j, 0, bad)
					} else {
						goes(t, j, m)
						is(t, j, 63, bad)
					}
				case first || came == 0 || number != came:
					refuses(t, j, m, api.ErrMiss)
				case last:
					ends(t, j, m, append(text(200)[:63*came], text(n)...))
					is(t, j, 0, 0)
				default:
					goes(t, j, m)
					is(t, j, 63*came+63, 0)
				}
			}
		}
	}
}

func TestNumbersComeRound(t *testing.T) {
	x := text(63*200 + 5)
	l := messages(t, x)
	for i := range l {
		j := New()
		goes(t, j, l[:i]...)
		is(t, j, 63*i, 0)
		// Of all messages that go on with a text just one is the next one.
		for number := range 64 {
			m := message(byte(number), 63)
			k := &Joiner{text: slices.Clone(j.text)}
			if i > 0 && number == i%64 {
				goes(t, k, m)
				is(t, k, 63*i+63, 0)
			} else {
				refuses(t, k, m, api.ErrMiss)
			}
		}
		if i == len(l)-1 {
			ends(t, j, l[i], x)
		}
	}
}

// The first one again begins a new text, and the one that was under way is bad.
func TestAFirstOneBeginsANewText(t *testing.T) {
	for _, came := range []int{1, 2, 63, 64, 65, 128} {
		j := New()
		old, x := messages(t, text(63*200)), text(100)
		l := messages(t, x)
		goes(t, j, old[:came]...)
		goes(t, j, l[0])
		is(t, j, 63, 1)
		ends(t, j, l[1], x)
		is(t, j, 0, 1)
		// One that is the last one, too, is told at once.
		goes(t, j, old[:came]...)
		ends(t, j, []byte{0xc0, 1, 2}, []byte{1, 2})
		is(t, j, 0, 2)
		goes(t, j, old[:came]...)
		ends(t, j, []byte{0xc0}, nil)
		is(t, j, 0, 3)
		// A first one of another number doesn't.
		for _, head := range []byte{0x81, 0xbf, 0xc1, 0xff, 0x80 + byte(came%63) + 1} {
			goes(t, j, old[:came]...)
			refuses(t, j, message(head, 63), api.ErrMiss)
		}
		is(t, j, 0, 8)
		refuses(t, j, old[came], api.ErrMiss)
	}
}

func TestTheLongestText(t *testing.T) {
	l := messages(t, text(65536))
	whole, last := l[:1040], l[1040]
	j := New()
	goes(t, j, whole...)
	is(t, j, 65520, 0)
	ends(t, j, last, text(65536))
	is(t, j, 0, 0)
	for _, m := range [][]byte{
		append(slices.Clone(last), 1), message(last[0], 63), message(last[0]&^0x40, 63),
	} {
		goes(t, j, whole...)
		refuses(t, j, m, api.ErrLong)
	}
	// What can't be one, and what isn't the next one, is told ahead of that.
	goes(t, j, whole...)
	refuses(t, j, message(last[0], 64), api.ErrForm)
	goes(t, j, whole...)
	refuses(t, j, message(last[0]+1, 63), api.ErrMiss)
	goes(t, j, whole...)
	refuses(t, j, message(last[0]|0x80, 63), api.ErrMiss)
	goes(t, j, whole...)
	goes(t, j, whole[0])
	is(t, j, 63, 7)
	goes(t, j, whole[1:]...)
	ends(t, j, message(last[0], 15), append(text(65536)[:65520], text(15)...))
	is(t, j, 0, 7)
}

func TestANilJoiner(t *testing.T) {
	var j *Joiner
	for _, m := range [][]byte{nil, {0xc0}, message(0x80, 63), make([]byte, 100)} {
		if x, ok, e := j.Take(m); len(x) != 0 || ok || e != api.ErrArg {
			t.Errorf("%v, %v, %d", x, ok, e)
		}
	}
	is(t, j, 0, 0)
}

// P34.3

// over writes over a list, to the end of its room.
func over(b []byte) {
	for all, i := b[:cap(b)], 0; i < len(all); i++ {
		all[i] = 0x5a
	}
}

func TestNothingIsKeptOrShared(t *testing.T) {
	for _, n := range []int{0, 1, 63, 64, 200, 5000} {
		all := append(text(n), 7, 7, 7, 7)
		want := slices.Clone(all)
		l := messages(t, all[:n])
		heads := messages(t, all[:n])
		if !bytes.Equal(all, want) {
			t.Fatalf("what was handed in was changed: %v", all)
		}
		over(all)
		j := New()
		for i, m := range l {
			if !bytes.Equal(m, heads[i]) {
				t.Fatalf("the message %d was changed: %v, want %v", i, m, heads[i])
			}
			given := append(slices.Clone(m), 9, 9, 9)
			was := slices.Clone(given)
			x, ok, e := j.Take(given[:len(m)])
			if ok != (i == len(l)-1) || e != api.OK || !bytes.Equal(given, was) {
				t.Fatalf("Take of the message %d: %v, %d, %v", i, ok, e, given)
			}
			over(given)
			// Each message is written over alone.
			over(m)
			if !ok {
				continue
			}
			if !bytes.Equal(x, want[:n]) {
				t.Fatalf("%v, want %v", x, want[:n])
			}
			kept := slices.Clone(x)
			joins(t, j, text(300))
			goes(t, j, messages(t, text(300))[0])
			if !bytes.Equal(x, kept) {
				t.Fatal("a text that was told is changed")
			}
			over(x)
			ends(t, j, messages(t, text(100))[1], append(text(300)[:63], text(100)[63:]...))
		}
	}
}
