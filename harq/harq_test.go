package harq

import (
	sums "hash/crc32"
	"math"
	"math/rand/v2"
	"slices"
	"testing"

	"shuttle/api"
	"shuttle/conv"
	"shuttle/distance"
	"shuttle/frame"
	"shuttle/version"
	"shuttle/viterbi"
)

// some is a message of n bytes, another one for each n and each seed.
func some(n int, seed uint64) []byte {
	chance := rand.New(rand.NewPCG(uint64(n), seed))
	b := make([]byte, n)
	for i := range b {
		b[i] = byte(chance.Uint32())
	}
	return b
}

// junk is n bits of chance.
func junk(chance *rand.Rand, n int) []byte {
	l := make([]byte, n)
	for i := range l {
		l[i] = byte(chance.Uint32() & 1)
	}
	return l
}

// coded is the list that is coded of a message, in other words: its bits, then those of its sum.
func coded(message []byte) []byte {
	sum := sums.ChecksumIEEE(message)
	var list []byte
	for _, x := range append(slices.Clone(message), byte(sum), byte(sum>>8), byte(sum>>16), byte(sum>>24)) {
		for bit := byte(128); bit > 0; bit /= 2 {
			list = append(list, min(1, x&bit))
		}
	}
	return list
}

// told is the message of a list, in other words: if it is coded like that.
func told(list []byte) ([]byte, bool) {
	message := make([]byte, len(list)/8-4)
	for i := range message {
		for _, bit := range list[8*i : 8*i+8] {
			message[i] = 2*message[i] + bit
		}
	}
	return message, slices.Equal(coded(message), list)
}

// versions are those of any list, with a right sum or not: of the code's step t version v has the bit of stream (v + t) mod 4.
func versions(list []byte) [4][]byte {
	code, _ := conv.Code(list)
	var parts [4][]byte
	for i := range len(code) / 4 {
		for v := range parts {
			parts[v] = append(parts[v], code[4*i+(v+i)%4])
		}
	}
	return parts
}

// wrong are the versions of bits of n bytes and a sum that isn't theirs: nothing of them is turned, and they tell no message.
func wrong(n int, seed uint64) [4][]byte {
	list := coded(some(n, seed))
	for i := 8 * n; i < len(list); i++ {
		list[i] ^= 1
	}
	return versions(list)
}

// process is a new one of n bytes.
func process(t *testing.T, n int) *Process {
	t.Helper()
	p, e := New(n)
	if p == nil || e != api.OK {
		t.Fatalf("New(%d) = %v, %d", n, p, e)
	}
	return p
}

// is fails unless a process tells all that.
func is(t *testing.T, p *Process, done bool, came, n int) {
	t.Helper()
	if p.Done() != done || p.Came() != came || p.Len() != n {
		t.Fatalf("%v, %d came, of %d; want %v, %d, %d", p.Done(), p.Came(), p.Len(), done, came, n)
	}
}

// reads fails unless an offer tells the message.
func reads(t *testing.T, p *Process, v int, body, message []byte) {
	t.Helper()
	if got, e := p.Offer(len(message), v, body); !slices.Equal(got, message) || e != api.OK || !p.Done() {
		t.Fatalf("version %d of %d: %v, %d, want %v", v, len(message), got, e, message)
	}
}

// refuses fails unless an offer answers that error, and nothing beside it.
func refuses(t *testing.T, p *Process, n, v int, body []byte, want api.Errno) {
	t.Helper()
	if got, e := p.Offer(n, v, body); len(got) != 0 || e != want {
		t.Fatalf("version %d of %d, %d bits: %v, %d, want %d", v, n, len(body), got, e, want)
	}
}

// turned is a body with every so manyth bit turned.
func turned(body []byte, every int) []byte {
	l := slices.Clone(body)
	for i := 0; i < len(l); i += every {
		l[i] ^= 1
	}
	return l
}

// bruised are versions 2 and 0 of a message, with three bits of them turned: none tells it alone, both together do.
func bruised(message []byte) ([]byte, []byte) {
	parts := versions(coded(message))
	parts[2][20] ^= 1
	parts[2][28] ^= 1
	parts[0][33] ^= 1
	return parts[2], parts[0]
}

func noLens() []int {
	return []int{-1, -2, -4, -64, 65, 66, 68, 128, 256, 4096, 1 << 32, 1<<32 + 5, -1 << 32, math.MaxInt, math.MinInt}
}

func noVersions() []int {
	return []int{-1, -2, -4, 4, 5, 8, 1 << 32, -1 << 32, math.MaxInt, math.MinInt}
}

// P17.1

func TestVersions(t *testing.T) {
	for n := range 65 {
		for _, message := range [][]byte{some(n, 1), make([]byte, n), slices.Repeat([]byte{255}, n)} {
			parts, e := Versions(message)
			if e != api.OK {
				t.Fatalf("of %d bytes: %d", n, e)
			}
			for v, want := range versions(coded(message)) {
				if !slices.Equal(parts[v], want) || len(want) != frame.Bits(n) {
					t.Fatalf("version %d of %d bytes: %v, want %v", v, n, parts[v], want)
				}
			}
		}
	}
	none, e := Versions(nil)
	if empty, _ := Versions([]byte{}); e != api.OK || !slices.Equal(none[3], empty[3]) || len(none[3]) != 38 {
		t.Errorf("of nothing: %v, %d", none, e)
	}
	for _, n := range []int{65, 66, 68, 128, 1000, api.MaxBits + 1} {
		parts, e := Versions(make([]byte, n))
		for _, part := range parts {
			if e != api.ErrLong || len(part) != 0 {
				t.Errorf("of %d bytes: %v, %d, want nothing and ErrLong", n, parts, e)
			}
		}
	}
}

func TestNew(t *testing.T) {
	for n := range 65 {
		is(t, process(t, n), false, 0, n)
	}
	for _, n := range noLens() {
		if p, e := New(n); p != nil || e != api.ErrLong {
			t.Errorf("New(%d) = %v, %d, want nothing and ErrLong", n, p, e)
		}
	}
}

func TestEachVersionAlone(t *testing.T) {
	hi, _ := Versions([]byte("hi"))
	p := process(t, 2)
	reads(t, p, 2, hi[2], []byte("hi"))
	for n := range 65 {
		message := some(n, 2)
		parts, _ := Versions(message)
		for v, body := range parts {
			p := process(t, n)
			reads(t, p, v, body, message)
			is(t, p, true, 1, n)
		}
	}
}

func TestBehindAMessageAllIsOld(t *testing.T) {
	parts, _ := Versions([]byte("hello"))
	p := process(t, 5)
	refuses(t, p, 5, 0, turned(parts[0], 3), api.ErrNoise)
	reads(t, p, 1, parts[1], []byte("hello"))
	other, _ := Versions([]byte("other one"))
	for _, n := range append(noLens(), 0, 5, 9, 64) {
		for _, v := range append(noVersions(), 0, 1, 2, 3) {
			for _, body := range [][]byte{nil, parts[1], other[1], {2}, {0}, turned(parts[1], 2)} {
				refuses(t, p, n, v, body, api.ErrOld)
				is(t, p, true, 2, 5)
			}
		}
	}
}

func TestOfferRefusesInOrder(t *testing.T) {
	right := make([]byte, frame.Bits(7))
	noBits := slices.Clone(right)
	noBits[3] = 2
	last := slices.Clone(right)
	last[len(last)-1] = 255
	p := process(t, 7)
	bodies := [][]byte{nil, {}, right, right[1:], noBits, noBits[1:], last, {0}, {2}}
	for _, n := range noLens() {
		for _, v := range append(noVersions(), 0, 1, 2, 3) {
			for _, body := range bodies {
				refuses(t, p, n, v, body, api.ErrLong)
			}
		}
	}
	for _, n := range []int{0, 6, 7, 8, 64} {
		for _, v := range noVersions() {
			for _, body := range bodies {
				refuses(t, p, n, v, body, api.ErrArg)
			}
		}
		for v := range 4 {
			for _, body := range [][]byte{noBits, noBits[1:], last, {2}, {0, 255}} {
				refuses(t, p, n, v, body, api.ErrField)
			}
			for _, count := range []int{0, 1, 8 * n, 8 * (n + 4), frame.Bits(n) - 1, frame.Bits(n) + 1, frame.Bits(n) + 8, 4 * frame.Bits(n)} {
				refuses(t, p, n, v, make([]byte, count), api.ErrForm)
			}
		}
	}
	is(t, p, false, 0, 7)
}

// What is refused ahead of being added leaves no trace, not even where its n would have it begin anew.
func TestARefusalChangesNothing(t *testing.T) {
	message := some(20, 3)
	parts, _ := Versions(message)
	mends, _ := distance.Mends([4]int{1, 1, 0, 0})
	p := process(t, 20)
	refuses(t, p, 20, 0, turned(parts[0], 4), api.ErrNoise)
	twin := process(t, 20)
	refuses(t, twin, 20, 0, turned(parts[0], 4), api.ErrNoise)
	for _, n := range []int{-1, 0, 20, 21, 65} {
		for _, v := range []int{-1, 2, 4} {
			bad := make([]byte, frame.Bits(n)+1)
			refuses(t, p, n, v, bad, refusal(n, v, bad))
			bad = slices.Repeat([]byte{9}, frame.Bits(20))
			refuses(t, p, n, v, bad, refusal(n, v, bad))
			is(t, p, false, 1, 20)
		}
	}
	for i := range 12 {
		body := turned(parts[i%4], mends+i)
		got, e := p.Offer(20, i%4, body)
		want, f := twin.Offer(20, i%4, body)
		if !slices.Equal(got, want) || e != f || p.Came() != twin.Came() {
			t.Fatalf("%v, %d, of %d; want %v, %d, of %d", got, e, p.Came(), want, f, twin.Came())
		}
	}
	if !p.Done() {
		t.Error("not read")
	}
}

// refusal is what is to be answered for what can't be a version, in other words.
func refusal(n, v int, body []byte) api.Errno {
	if n < 0 || n > 64 {
		return api.ErrLong
	}
	if v != 0 && v != 1 && v != 2 && v != 3 {
		return api.ErrArg
	}
	if len(body) > 0 && slices.Max(body) > 1 {
		return api.ErrField
	}
	if len(body) != 8*n+38 {
		return api.ErrForm
	}
	return api.OK
}

func TestWhatIsNoMessageIsNoise(t *testing.T) {
	for _, n := range []int{0, 1, 5, 64} {
		p := process(t, n)
		for i := range 16 {
			// A list that is coded rightly, but its sum isn't.
			refuses(t, p, n, i%4, wrong(n, 4)[i%4], api.ErrNoise)
			is(t, p, false, i+1, n)
		}
		chance := rand.New(rand.NewPCG(17, uint64(n)))
		p = process(t, n)
		for i := range 16 {
			refuses(t, p, n, chance.IntN(4), junk(chance, frame.Bits(n)), api.ErrNoise)
			is(t, p, false, i+1, n)
		}
	}
}

func TestAnotherLengthBeginsAnew(t *testing.T) {
	p := process(t, 5)
	few := wrong(5, 5)
	for i := range 10 {
		refuses(t, p, 5, i%4, few[i%4], api.ErrNoise)
	}
	is(t, p, false, 10, 5)
	many := wrong(6, 5)
	refuses(t, p, 6, 0, many[0], api.ErrNoise)
	is(t, p, false, 1, 6)
	refuses(t, p, 6, 1, many[1], api.ErrNoise)
	is(t, p, false, 2, 6)
	// Nothing is left of what came of five bytes ahead: what is turned here is mended.
	message := some(5, 6)
	first, second := bruised(message)
	refuses(t, p, 5, 2, first, api.ErrNoise)
	is(t, p, false, 1, 5)
	reads(t, p, 0, second, message)
	is(t, p, true, 2, 5)
}

func TestAnotherLengthThanNewsIsTaken(t *testing.T) {
	for _, n := range []int{0, 1, 30, 64} {
		for _, other := range []int{0, 1, 31, 64} {
			message := some(other, 7)
			parts, _ := Versions(message)
			p := process(t, n)
			reads(t, p, 3, parts[3], message)
			is(t, p, true, 1, other)
		}
	}
}

func TestSixteenVersionsAndThenAnew(t *testing.T) {
	message := some(9, 8)
	noise := wrong(9, 9)
	first, second := bruised(message)
	for ahead := range 34 {
		p := process(t, 9)
		for i := range ahead {
			refuses(t, p, 9, i%4, noise[i%4], api.ErrNoise)
			is(t, p, false, i%16+1, 9)
		}
		refuses(t, p, 9, 2, first, api.ErrNoise)
		is(t, p, false, ahead%16+1, 9)
		if ahead%16 == 0 {
			// It began anew: what is turned is mended, as if nothing had come.
			reads(t, p, 0, second, message)
			is(t, p, true, 2, 9)
		} else if ahead%16 > 3 {
			refuses(t, p, 9, 0, second, api.ErrNoise)
			is(t, p, false, (ahead+1)%16+1, 9)
		}
	}
}

// Sixteen refused ones aren't sixteen versions.
func TestOnlyVersionsCount(t *testing.T) {
	p := process(t, 3)
	noise := wrong(3, 10)
	for i := range 15 {
		refuses(t, p, 3, 0, noise[0], api.ErrNoise)
		refuses(t, p, 3, 4, noise[0], api.ErrArg)
		refuses(t, p, 3, 0, noise[0][1:], api.ErrForm)
		is(t, p, false, i+1, 3)
	}
	refuses(t, p, 3, 0, noise[0], api.ErrNoise)
	is(t, p, false, 16, 3)
}

// model is a process in other words: it keeps what came, and puts it together afresh each time.
type model struct {
	n    int
	done bool
	v    []int
	body [][]byte
}

func (m *model) offer(n, v int, body []byte) ([]byte, api.Errno) {
	if m.done {
		return nil, api.ErrOld
	}
	if e := refusal(n, v, body); e != api.OK {
		return nil, e
	}
	if n != m.n || len(m.v) == 16 {
		*m = model{n: n}
	}
	m.v = append(m.v, v)
	m.body = append(m.body, slices.Clone(body))
	numbers := make([]int, 4*len(body))
	for i, v := range m.v {
		for step, bit := range m.body[i] {
			numbers[4*step+(v+step)%4] += 1 - 2*int(bit)
		}
	}
	list, _, _ := viterbi.Decode(numbers)
	message, ok := told(list)
	if list, e := version.Alone(body, v); !ok && e == api.OK {
		message, ok = told(list)
	}
	if !ok {
		return nil, api.ErrNoise
	}
	m.done = true
	return message, api.OK
}

func TestAgainstAModel(t *testing.T) {
	chance := rand.New(rand.NewPCG(17, 1))
	seen := map[api.Errno]int{}
	for round := range 300 {
		n := chance.IntN(20)
		message := some(n, uint64(round))
		parts, _ := Versions(message)
		p, m := process(t, n), &model{n: n}
		for range 40 {
			size, v := n, chance.IntN(4)
			body := slices.Clone(parts[v])
			// Between few turned bits, and half of them.
			share := 4 + 28*chance.IntN(2)
			for i := range body {
				if chance.IntN(64) < share {
					body[i] ^= 1
				}
			}
			switch chance.IntN(24) {
			case 0:
				size = chance.IntN(20)
				body = junk(chance, frame.Bits(size))
			case 1:
				v = noVersions()[chance.IntN(10)]
			case 2:
				body = body[1:]
			case 3:
				body[chance.IntN(len(body))] = 7
			case 4:
				size = 65
			}
			got, e := p.Offer(size, v, body)
			want, f := m.offer(size, v, body)
			if !slices.Equal(got, want) || e != f {
				t.Fatalf("%v, %d; want %v, %d", got, e, want, f)
			}
			is(t, p, m.done, len(m.v), m.n)
			seen[e]++
			if e == api.OK && !slices.Equal(got, message) {
				t.Fatalf("%v was read for %v", got, message)
			}
		}
	}
	for _, e := range []api.Errno{api.OK, api.ErrOld, api.ErrLong, api.ErrArg, api.ErrField, api.ErrForm, api.ErrNoise} {
		if seen[e] < 30 {
			t.Errorf("%d was answered %d times alone", e, seen[e])
		}
	}
}

func TestANilProcess(t *testing.T) {
	var p *Process
	parts, _ := Versions([]byte("hi"))
	for _, n := range append(noLens(), 0, 2, 64) {
		for _, v := range append(noVersions(), 0, 1, 2, 3) {
			for _, body := range [][]byte{nil, parts[0], {2}} {
				refuses(t, p, n, v, body, api.ErrArg)
			}
		}
	}
	is(t, p, true, 0, 0)
}

// A process that New didn't make is as one of no bytes.
func TestAnEmptyProcess(t *testing.T) {
	is(t, &Process{}, false, 0, 0)
	for _, message := range [][]byte{nil, []byte("hi")} {
		parts, _ := Versions(message)
		p := &Process{}
		refuses(t, p, 0, 0, wrong(0, 11)[0], api.ErrNoise)
		is(t, p, false, 1, 0)
		reads(t, p, 2, parts[2], message)
	}
}

// P17.2

func TestAWholeVersionIsReadAtOnce(t *testing.T) {
	chance := rand.New(rand.NewPCG(17, 2))
	for _, ahead := range []int{0, 1, 2, 3, 7, 14, 15, 16, 17, 31, 32, 40} {
		for _, n := range []int{0, 1, 12, 64} {
			message := some(n, 12)
			parts, _ := Versions(message)
			for v, body := range parts {
				noise := wrong(n, 13)
				p := process(t, n)
				for range ahead {
					w := chance.IntN(4)
					other := noise[w]
					if chance.IntN(2) == 0 {
						other = junk(chance, frame.Bits(n))
					}
					refuses(t, p, n, w, other, api.ErrNoise)
				}
				reads(t, p, v, body, message)
				is(t, p, true, ahead%16+1, n)
			}
		}
	}
}

// All that came ahead is turned in each bit: together nothing is left of the message.
func TestAWholeVersionAgainstItsOwnTurned(t *testing.T) {
	message := some(16, 14)
	parts, _ := Versions(message)
	for v, body := range parts {
		p := process(t, 16)
		for i := range 15 {
			refuses(t, p, 16, i%4, turned(parts[i%4], 1), api.ErrNoise)
		}
		reads(t, p, v, body, message)
		is(t, p, true, 16, 16)
	}
}

// What came, put together, goes ahead of what the last version tells alone.
func TestTogetherGoesAheadOfAlone(t *testing.T) {
	chance := rand.New(rand.NewPCG(17, 3))
	message := some(64, 15)
	other := slices.Clone(message)
	other[63] ^= 1
	parts, _ := Versions(message)
	others, _ := Versions(other)
	found := 0
	for range 100 {
		p := process(t, 64)
		read := false
		// The first bytes, which both have, are much turned; only the last ones are unlike.
		for _, v := range []int{0, 1, 3} {
			body := slices.Clone(parts[v])
			for i := range 60 {
				if chance.IntN(4) == 0 {
					body[i] ^= 1
				}
			}
			_, e := p.Offer(64, v, body)
			read = read || e == api.OK
		}
		if read {
			continue
		}
		got, e := p.Offer(64, 2, others[2])
		if e != api.OK || !slices.Equal(got, message) && !slices.Equal(got, other) {
			t.Fatalf("%v, %d", got, e)
		}
		if slices.Equal(got, message) {
			found++
		}
	}
	if found < 10 {
		t.Errorf("what came together was read %d times alone", found)
	}
}

// P17.3

// counts are how often versions come.
func counts() [][4]int {
	all := [][4]int{{1, 2, 3, 4}, {7, 1, 0, 0}, {0, 7, 0, 1}, {6, 0, 5, 0}, {0, 3, 3, 7}, {4, 4, 4, 4}, {7, 7, 1, 1}}
	for set := 1; set < 16; set++ {
		for _, n := range []int{1, 2, 4} {
			all = append(all, [4]int{set & 1 * n, set >> 1 & 1 * n, set >> 2 & 1 * n, set >> 3 & 1 * n})
		}
	}
	return all
}

// At each version: if of all that came no more is turned than is mended, it is read by now.
func TestWhatIsMendedIsRead(t *testing.T) {
	chance := rand.New(rand.NewPCG(17, 4))
	for _, w := range counts() {
		for _, n := range []int{0, 1, 10, 64} {
			for range 4 {
				mended(t, chance, w, n)
			}
		}
	}
}

func mended(t *testing.T, chance *rand.Rand, w [4]int, n int) {
	t.Helper()
	message := some(n, chance.Uint64())
	parts, _ := Versions(message)
	var order []int
	for v, times := range w {
		order = append(order, slices.Repeat([]int{v}, times)...)
	}
	chance.Shuffle(len(order), func(i, j int) { order[i], order[j] = order[j], order[i] })
	mends, _ := distance.Mends(w)
	steps := frame.Bits(n)
	bodies := make([][]byte, len(order))
	for i, v := range order {
		bodies[i] = slices.Clone(parts[v])
	}
	// Side by side, or anywhere.
	places := chance.Perm(len(order) * steps)[:mends]
	if chance.IntN(2) == 0 {
		first := chance.IntN(steps - mends/len(order))
		for i := range places {
			places[i] = i%len(order)*steps + first + i/len(order)
		}
	}
	for _, x := range places {
		bodies[x/steps][x%steps] ^= 1
	}
	p := process(t, n)
	var came [4]int
	turned := 0
	for i, v := range order {
		came[v]++
		for step := range steps {
			turned += int(bodies[i][step] ^ parts[v][step])
		}
		got, e := p.Offer(n, v, bodies[i])
		if e == api.OK && !slices.Equal(got, message) {
			t.Fatalf("%v was read for %v", got, message)
		}
		if mends, _ := distance.Mends(came); turned <= mends && !p.Done() {
			t.Fatalf("of %v %d are turned, %d are mended: %d", came, turned, mends, e)
		}
	}
	if !p.Done() {
		t.Fatalf("%d turned of %v, of %d bytes: not read", mends, w, n)
	}
}

// P17.4

// roomy is l with spare room behind it that holds marks, so that a write into that room shows.
func roomy(l []byte) []byte {
	return append(slices.Clone(l), 99, 98, 97, 96, 95, 94, 93, 92)[:len(l)]
}

// whole is l and its spare room.
func whole(l []byte) []byte { return slices.Clone(l[:cap(l)]) }

// spoil writes over a list and its spare room.
func spoil(l []byte) {
	for all, i := l[:cap(l)], 0; i < len(all); i++ {
		all[i] ^= 0xFF
	}
}

func TestVersionsKeepsNothing(t *testing.T) {
	for _, n := range []int{0, 3, 64, 65} {
		message := roomy(some(n, 16))
		ahead := whole(message)
		parts, e := Versions(message)
		if !slices.Equal(whole(message), ahead) {
			t.Errorf("Versions changed %v", ahead)
		}
		again, f := Versions(slices.Clone(message))
		spoil(message)
		for v := range parts {
			if e != f || !slices.Equal(parts[v], again[v]) {
				t.Errorf("version %d of %d bytes changes with the message", v, n)
			}
			// No two share memory, either.
			spoil(parts[v])
			for w := v + 1; w < 4; w++ {
				if !slices.Equal(parts[w], again[w]) {
					t.Errorf("version %d of %d bytes changes with %d", w, n, v)
				}
			}
		}
	}
}

func TestOfferKeepsNothing(t *testing.T) {
	message := some(30, 17)
	parts, _ := Versions(message)
	for _, every := range []int{2, 3, 4, 5} {
		p, twin := process(t, 30), process(t, 30)
		for i := range 16 {
			body := roomy(turned(parts[i%4], every+i))
			ahead := whole(body)
			want, f := twin.Offer(30, i%4, slices.Clone(body))
			got, e := p.Offer(30, i%4, body)
			if !slices.Equal(whole(body), ahead) {
				t.Fatal("Offer changed the body")
			}
			spoil(body)
			if e != f || !slices.Equal(got, want) {
				t.Fatalf("%v, %d, want %v, %d: it hangs on a body that came ahead", got, e, want, f)
			}
			spoil(got)
		}
		if !p.Done() {
			t.Error("not read")
		}
	}
}

func TestAMessageIsNewMemory(t *testing.T) {
	message := some(8, 18)
	parts, _ := Versions(message)
	p, other := process(t, 8), process(t, 8)
	got, _ := p.Offer(8, 1, parts[1])
	spoil(got)
	reads(t, other, 1, parts[1], message)
	if want := versions(coded(message)); !slices.Equal(parts[1], want[1]) {
		t.Error("the message shares memory with the body")
	}
	is(t, p, true, 1, 8)
}

func TestProcessesShareNothing(t *testing.T) {
	message := some(8, 19)
	a, b := process(t, 8), process(t, 8)
	for i := range 12 {
		refuses(t, a, 8, i%4, wrong(8, 20)[i%4], api.ErrNoise)
	}
	is(t, b, false, 0, 8)
	first, second := bruised(message)
	refuses(t, b, 8, 2, first, api.ErrNoise)
	reads(t, b, 0, second, message)
	is(t, a, false, 12, 8)
}

// A message that was read needs no buffer any more.
func TestNoBufferBehindAMessage(t *testing.T) {
	parts, _ := Versions([]byte("hi"))
	p := process(t, 2)
	refuses(t, p, 2, 0, turned(parts[0], 2), api.ErrNoise)
	reads(t, p, 1, parts[1], []byte("hi"))
	if p.buffer != nil {
		t.Error("it is kept")
	}
}

// P1 of the document

func TestNoCallPanics(t *testing.T) {
	for _, n := range append(noLens(), 0, 1, 63, 64) {
		made, _ := New(n)
		for _, p := range []*Process{nil, {}, made} {
			for _, size := range append(noLens(), 0, 1, 63, 64) {
				for _, v := range append(noVersions(), 0, 1, 2, 3) {
					for _, count := range []int{0, 1, 6, 38, frame.Bits(1), frame.Bits(64), frame.Bits(64) + 1, api.MaxBits + 1} {
						p.Offer(size, v, make([]byte, count))
						p.Offer(size, v, slices.Repeat([]byte{1}, count))
						p.Offer(size, v, slices.Repeat([]byte{255}, count))
					}
				}
			}
			p.Done()
			p.Came()
			p.Len()
		}
	}
}
