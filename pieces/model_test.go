package pieces

import (
	"math/rand/v2"
	"slices"
	"strings"
	"testing"

	"shuttle/api"
	"shuttle/run"
)

// model is a joiner that keeps all messages of a text under way.
type model struct {
	under []string
	bad   int
}

// take is Take in the chapter's words.
func (m *model) take(b string) (string, bool, api.Errno) {
	e := m.judge(b)
	if e == api.ErrMiss && b[0] == 128 || e == api.ErrMiss && b[0] == 192 {
		m.bad++
		m.under = nil
		e = api.OK
	}
	if e != api.OK {
		m.bad++
		m.under = nil
		return "", false, e
	}
	m.under = append(m.under, b)
	if b[0]&64 == 0 {
		return "", false, api.OK
	}
	x := m.text()
	m.under = nil
	return x, true, api.OK
}

func (m *model) judge(b string) api.Errno {
	if len(b) == 0 || len(b) > 64 {
		return api.ErrForm
	}
	isFirst, isLast, number := b[0]>>7 == 1, b[0]>>6&1 == 1, int(b[0]&63)
	if !isLast && len(b) < 64 || isLast && !isFirst && len(b) == 1 {
		return api.ErrForm
	}
	if isFirst != (len(m.under) == 0) || number != len(m.under)%64 {
		return api.ErrMiss
	}
	if len(m.text())+len(b) > 65537 {
		return api.ErrLong
	}
	return api.OK
}

func (m *model) text() string {
	var x strings.Builder
	for _, b := range m.under {
		x.WriteString(b[1:])
	}
	return x.String()
}

// takes has a joiner and a model take a message, and fails unless they answer alike.
func takes(t *testing.T, j *Joiner, m *model, b []byte) (bool, api.Errno) {
	t.Helper()
	got, ok, e := j.Take(b)
	want, whole, no := m.take(string(b))
	if string(got) != want || ok != whole || e != no {
		t.Fatalf("Take(%x) = %x, %v, %d, want %x, %v, %d", b, got, ok, e, want, whole, no)
	}
	is(t, j, len(m.text()), m.bad)
	return ok, e
}

func someText(chance *rand.Rand) []byte {
	l := make([]byte, chance.IntN(1+[]int{3, 100, 500, 9000}[chance.IntN(4)]))
	for i := range l {
		l[i] = byte(chance.Uint32())
	}
	return l
}

// spoilt are messages of which one is lost, doubled, cut, made longer, or of another first byte.
func spoilt(chance *rand.Rand, l [][]byte) [][]byte {
	k := chance.IntN(len(l))
	switch chance.IntN(6) {
	case 0:
		return slices.Delete(l, k, k+1)
	case 1:
		return slices.Insert(l, k, slices.Clone(l[k]))
	case 2:
		l[k] = l[k][:chance.IntN(len(l[k])+1)]
	case 3:
		l[k] = append(l[k], make([]byte, chance.IntN(5))...)
	case 4:
		if len(l[k]) > 0 {
			l[k][0] ^= 1 << chance.IntN(8)
		}
	case 5:
		i := chance.IntN(len(l))
		l[i], l[k] = l[k], l[i]
	}
	return l
}

// P34.1

func TestAgainstAModel(t *testing.T) {
	chance := rand.New(rand.NewPCG(34, 1))
	whole := 0
	seen := map[api.Errno]int{}
	for range 200 {
		j, m := New(), &model{}
		for range 6 {
			l := messages(t, someText(chance))
			for range chance.IntN(4) {
				if len(l) > 0 {
					l = spoilt(chance, l)
				}
			}
			for _, b := range l {
				ok, e := takes(t, j, m, b)
				seen[e]++
				if ok {
					whole++
				}
			}
		}
	}
	if whole < 200 || seen[api.ErrForm] < 100 || seen[api.ErrMiss] < 100 {
		t.Errorf("%d texts alone, %v", whole, seen)
	}
}

func FuzzTake(f *testing.F) {
	f.Add([]byte("\xc0a"), []byte("\x41"))
	f.Add(message(0x80, 63), message(0x41, 3))
	f.Add(message(0x80, 63), message(0x80, 63))
	f.Fuzz(func(t *testing.T, a, b []byte) {
		j, m := New(), &model{}
		for _, x := range [][]byte{a, b, message(0x80, 63), a, b, b, a} {
			takes(t, j, m, x)
		}
	})
}

// P34.2

func TestTextsComeBack(t *testing.T) {
	j := New()
	for _, n := range lengths() {
		joins(t, j, text(n))
		is(t, j, 0, 0)
	}
}

// Whatever came ahead, a whole text comes back, and what isn't whole is bad at most once for each message.
func TestTextsComeBackBehindOthersThatAreNotWhole(t *testing.T) {
	chance := rand.New(rand.NewPCG(34, 2))
	for range 400 {
		j := New()
		for range 5 {
			given := 0
			bad := j.Bad()
			for range chance.IntN(4) {
				l := messages(t, someText(chance))
				l = l[:chance.IntN(len(l))]
				if len(l) > 0 && chance.IntN(2) == 0 {
					l = spoilt(chance, l)
				}
				for _, b := range l {
					j.Take(b)
				}
				given += len(l)
			}
			under := j.Half() > 0
			behind := j.Bad()
			joins(t, j, someText(chance))
			if under {
				behind++
			}
			if j.Bad() != behind || j.Bad() > bad+given+1 {
				t.Fatalf("%d were bad, want %d", j.Bad(), behind)
			}
		}
	}
}

// Messages of a link: what goes over it comes back, however it was lost, doubled and put out of order.
func TestTextsOverALink(t *testing.T) {
	s, e := run.New(run.Config{Window: api.Window{Size: 8, Queue: 64, Pool: 8}, First: 65530, Age: 20})
	if e != api.OK {
		t.Fatal(e)
	}
	chance := rand.New(rand.NewPCG(34, 3))
	var want [][]byte
	var left [][]byte
	for _, n := range []int{0, 1, 63, 64, 3000, 65, 7000} {
		want = append(want, text(n))
		left = append(left, messages(t, text(n))...)
	}
	j := New()
	for ticks := 0; len(want) > 0; ticks++ {
		if ticks > 3000 {
			t.Fatalf("%d texts haven't come", len(want))
		}
		for len(left) > 0 {
			if _, e := s.Do(run.Step{Kind: run.Send, Bytes: left[0]}); e != api.OK {
				break
			}
			left = left[1:]
		}
		s.Do(run.Step{Kind: run.Tick})
		for range 40 {
			there, back := s.Flights()
			kind := []int{run.There, run.Back, run.LoseThere, run.TwiceThere, run.There, run.Back}[chance.IntN(6)]
			s.Do(run.Step{Kind: kind, K: chance.IntN(max(there, back) + 1)})
		}
		for {
			m, e := s.Do(run.Step{Kind: run.Poll})
			if e != api.OK {
				break
			}
			x, ok, no := j.Take(m)
			if no != api.OK || ok && !slices.Equal(x, want[0]) {
				t.Fatalf("%d bytes, %d, want %d", len(x), no, len(want[0]))
			}
			if ok {
				want = want[1:]
			}
		}
	}
	is(t, j, 0, 0)
}
