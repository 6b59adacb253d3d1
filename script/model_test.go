package script

import (
	"math/rand/v2"
	"slices"
	"testing"

	"shuttle/api"
	"shuttle/run"
	"shuttle/seq"
)

// two is a number in two bytes.
func two(n int) []byte { return []byte{byte(n / 256), byte(n % 256)} }

// written is Write in bytes: all numbers are of eight or sixteen bits, so that each begins with a byte.
func written(c run.Config, l []run.Step) []byte {
	b := []byte{byte(c.Window.Size), byte(c.Window.Queue), byte(c.Window.Pool)}
	b = slices.Concat(b, two(int(c.First)), two(c.Age), two(len(l)))
	for _, x := range l {
		b = slices.Concat(b, []byte{byte(x.Kind)}, two(x.K), []byte{byte(len(x.Bytes))}, x.Bytes, []byte{byte(len(x.At))})
		for _, n := range x.At {
			b = append(b, two(n)...)
		}
	}
	return b
}

// judged is what Read must answer, by the bytes alone: where each number stands.
func judged(b []byte) api.Errno {
	if len(b) < 9 {
		return api.ErrShort
	}
	n := int(b[7])*256 + int(b[8])
	if n > 2000 {
		return api.ErrField
	}
	at := 9
	for range n {
		for _, width := range []int{1, 2} {
			// Behind the kind and K stand the Bytes, and behind these the At.
			if width == 1 {
				at += 3
			}
			if at >= len(b) {
				return api.ErrShort
			}
			at += 1 + width*int(b[at])
		}
	}
	switch {
	case at > len(b):
		return api.ErrShort
	case at < len(b):
		return api.ErrTail
	}
	return api.OK
}

// played is Play in other words: what a system tells, when all steps are done.
func played(c run.Config, l []run.Step) []byte {
	s, _ := run.New(c)
	var b []byte
	for _, x := range l {
		n := len(s.Delivered())
		_, e := s.Do(x)
		b = append(b, byte(e))
		for _, m := range s.Delivered()[n:] {
			b = slices.Concat(b, []byte{byte(len(m))}, m)
		}
	}
	from, to := s.Ends()
	b = slices.Concat(b, make([]byte, 2), two(from.Counts().Sent), make([]byte, 2), two(from.Counts().Acks))
	other := to.Counts()
	for _, n := range []int{other.Read, other.Old, other.Noise, other.Bad} {
		b = slices.Concat(b, make([]byte, 2), two(n))
	}
	return b
}

func someNumber(chance *rand.Rand, most int) int {
	switch chance.IntN(4) {
	case 0:
		return chance.IntN(most + 1)
	case 1:
		return []int{0, 1, most - 1, most}[chance.IntN(4)]
	}
	return chance.IntN(min(most, 6))
}

func someConfig(chance *rand.Rand) run.Config {
	w := api.Window{Size: someNumber(chance, 255), Queue: someNumber(chance, 255), Pool: someNumber(chance, 255)}
	return run.Config{Window: w, First: seq.Num(someNumber(chance, 65535)), Age: someNumber(chance, 65535)}
}

func someSteps(chance *rand.Rand, n int) []run.Step {
	l := make([]run.Step, n)
	for i := range l {
		x := run.Step{Kind: someNumber(chance, 255), K: someNumber(chance, 65535)}
		x.Bytes = make([]byte, someNumber(chance, 255))
		for k := range x.Bytes {
			x.Bytes[k] = byte(chance.Uint32())
		}
		x.At = make([]int, someNumber(chance, 255))
		for k := range x.At {
			x.At[k] = someNumber(chance, 65535)
		}
		l[i] = x
	}
	return l
}

// playable are steps that are worth playing.
func playable(chance *rand.Rand, n int) []run.Step {
	l := make([]run.Step, n)
	for i := range l {
		x := run.Step{Kind: 1 + chance.IntN(14), K: chance.IntN(3)}
		if chance.IntN(3) > 0 {
			x.Kind = []int{run.Send, run.Tick, run.There, run.Back, run.Poll}[chance.IntN(5)]
			x.K = 0
		}
		x.Bytes = make([]byte, chance.IntN(10))
		for k := range x.Bytes {
			x.Bytes[k] = byte(chance.Uint32())
		}
		for range chance.IntN(3) {
			x.At = append(x.At, chance.IntN(150))
		}
		l[i] = x
	}
	return l
}

// P29.1, P29.2

func TestScriptsComeBack(t *testing.T) {
	chance := rand.New(rand.NewPCG(29, 1))
	for i := range 3000 {
		n := i % 20
		if i%1000 == 0 {
			n = 2000
		}
		c, l := someConfig(chance), someSteps(chance, n)
		b := writes(t, c, l)
		if !slices.Equal(b, written(c, l)) {
			t.Fatalf("Write(%v, %v) = %v, want %v", c, l, b, written(c, l))
		}
		reads(t, b, c, l)
	}
}

// Whatever bytes are read, they are those that are written: no others are a script's.
func answers(t *testing.T, b []byte) {
	t.Helper()
	c, l, e := Read(b)
	if want := judged(b); e != want {
		t.Fatalf("Read(%v): %d, want %d", b, e, want)
	}
	if e != api.OK {
		refused(t, b, e)
		return
	}
	if again := writes(t, c, l); !slices.Equal(again, b) {
		t.Fatalf("Read(%v) is written as %v", b, again)
	}
}

func TestReadOfAllBytes(t *testing.T) {
	chance := rand.New(rand.NewPCG(29, 2))
	read := 0
	for range 4000 {
		b := writes(t, someConfig(chance), someSteps(chance, chance.IntN(4)))
		switch chance.IntN(4) {
		case 0:
			b = b[:chance.IntN(len(b)+1)]
		case 1:
			b = append(b, make([]byte, chance.IntN(12))...)
		case 2:
			for range 1 + chance.IntN(4) {
				b[chance.IntN(len(b))] = byte(chance.Uint32() >> chance.IntN(33))
			}
		case 3:
			b = make([]byte, chance.IntN(60))
			for i := range b {
				b[i] = byte(chance.Uint32() >> (24 + chance.IntN(9)))
			}
		}
		answers(t, b)
		if _, _, e := Read(b); e == api.OK {
			read++
		}
	}
	if read < 100 {
		t.Errorf("%d were scripts alone", read)
	}
}

func FuzzRead(f *testing.F) {
	f.Add([]byte{})
	f.Add(written(run.Config{}, nil))
	f.Add(written(run.Config{Age: 3}, []run.Step{{Kind: 1, Bytes: []byte("hi")}, {Kind: 9, K: 300, At: []int{5, 65535}}}))
	f.Add([]byte{1, 1, 1, 0, 0, 0, 1, 0x07, 0xd1})
	f.Fuzz(answers)
}

// P29.1, P29.3

func TestPlayAgainstAModel(t *testing.T) {
	chance := rand.New(rand.NewPCG(29, 3))
	told := 0
	for _, c := range []run.Config{
		{Window: api.Window{Size: 1, Queue: 1, Pool: 1}, First: 65530, Age: 3},
		{Window: api.Window{Size: 2, Queue: 5, Pool: 1}, First: 0, Age: 1},
		{Window: api.Window{Size: 8, Queue: 64, Pool: 16}, First: 65535, Age: 10},
		{Window: api.Window{Size: 32, Queue: 64, Pool: 3}, First: 32760, Age: 1000},
	} {
		for range 12 {
			l := playable(chance, 400)
			want := played(c, l)
			for range 2 {
				plays(t, c, l, want...)
			}
			// What comes back from its bytes is played as what was written.
			d, m, e := Read(writes(t, c, l))
			if e != api.OK {
				t.Fatalf("Read: %d", e)
			}
			plays(t, d, m, want...)
			told += len(want) - len(l) - 24
		}
	}
	if told < 500 {
		t.Errorf("messages of %d bytes were polled alone", told)
	}
}
