package gf2

import (
	"math/rand/v2"
	"slices"
	"testing"
)

// samples are polynomials of all degrees, the edges among them.
func samples() []Poly {
	l := []Poly{0, 1, 2, 3, 5, 0x13, 0x57, 0x11021, 0x104C11DB7, 1<<64 - 1, 1<<63 - 1, 1 << 63, 1<<63 | 1}
	chance := rand.New(rand.NewPCG(3, 3))
	for degree := range 64 {
		l = append(l, 1<<degree, 1<<degree|Poly(chance.Uint64())>>(63-degree)>>1)
	}
	return l
}

// powers are those whose coefficient is 1: another way to hold a polynomial, by which the tests reckon.
func powers(a Poly) map[int]bool {
	m := map[int]bool{}
	for i := range 64 {
		if a>>i&1 == 1 {
			m[i] = true
		}
	}
	return m
}

// product multiplies power by power, however great the degree is.
func product(a, b Poly) map[int]bool {
	m := map[int]bool{}
	for i := range powers(a) {
		for j := range powers(b) {
			m[i+j] = !m[i+j]
			if !m[i+j] {
				delete(m, i+j)
			}
		}
	}
	return m
}

func same(a, b map[int]bool) bool {
	for i := range a {
		if !b[i] {
			return false
		}
	}
	return len(a) == len(b)
}

// coefficients are a's, the highest power first, behind so many noughts.
func coefficients(a Poly, noughts int) []byte {
	l := make([]byte, noughts)
	for i := 63; i >= 0; i-- {
		l = append(l, byte(a>>i&1))
	}
	return l
}

// P3.1

func TestDegree(t *testing.T) {
	if d := Degree(0); d != -1 {
		t.Errorf("Degree(0) = %d", d)
	}
	for i := range 64 {
		for _, a := range []Poly{1 << i, 1<<i | 1, 1<<i | (1<<i - 1)} {
			if d := Degree(a); d != i {
				t.Errorf("Degree(%x) = %d, want %d", a, d, i)
			}
		}
	}
}

func TestAdd(t *testing.T) {
	for _, c := range []struct{ a, b, want Poly }{
		{0, 0, 0}, {0, 9, 9}, {5, 3, 6}, {7, 7, 0}, {1 << 63, 1<<63 | 1, 1}, {1<<64 - 1, 1, 1<<64 - 2},
	} {
		if got := Add(c.a, c.b); got != c.want {
			t.Errorf("Add(%x, %x) = %x, want %x", c.a, c.b, got, c.want)
		}
	}
}

func TestTimes(t *testing.T) {
	for _, c := range []struct {
		a, b, want Poly
		ok         bool
	}{
		{3, 3, 5, true},
		{0x13, 7, 0x13 ^ 0x26 ^ 0x4C, true},
		{0, 0, 0, true},
		{0, 1<<64 - 1, 0, true},
		{1 << 63, 0, 0, true},
		{1<<64 - 1, 1, 1<<64 - 1, true},
		{1, 1 << 63, 1 << 63, true},
		{1 << 31, 1 << 32, 1 << 63, true},
		{1 << 32, 1 << 32, 0, false},
		{1 << 62, 3, 3 << 62, true},
		{1 << 62, 7, 0, false},
		{1 << 63, 2, 0, false},
		{2, 1 << 63, 0, false},
		{1<<64 - 1, 1<<64 - 1, 0, false},
	} {
		if got, ok := Times(c.a, c.b); got != c.want || ok != c.ok {
			t.Errorf("Times(%x, %x) = %x, %v, want %x, %v", c.a, c.b, got, ok, c.want, c.ok)
		}
	}
}

func TestTimesPowerByPower(t *testing.T) {
	for _, a := range samples() {
		for _, b := range samples() {
			got, ok := Times(a, b)
			want := product(a, b)
			room := true
			for i := range want {
				room = room && i <= 63
			}
			if ok != room || !ok && got != 0 || ok && !same(powers(got), want) {
				t.Fatalf("Times(%x, %x) = %x, %v", a, b, got, ok)
			}
		}
	}
}

func TestOver(t *testing.T) {
	for _, c := range []struct {
		a, b, q, r Poly
		ok         bool
	}{
		{5, 3, 3, 0, true},
		{0x57, 0x13, 5, 8, true},
		{0, 7, 0, 0, true},
		{6, 8, 0, 6, true},
		{9, 9, 1, 0, true},
		{1<<64 - 1, 1, 1<<64 - 1, 0, true},
		{1<<64 - 1, 1 << 63, 1, 1<<63 - 1, true},
		{1<<63 - 1, 1 << 63, 0, 1<<63 - 1, true},
		{1 << 63, 1<<63 | 1, 1, 1, true},
		{1 << 63, 2, 1 << 62, 0, true},
		{0, 0, 0, 0, false},
		{1, 0, 0, 0, false},
		{1<<64 - 1, 0, 0, 0, false},
	} {
		if q, r, ok := Over(c.a, c.b); q != c.q || r != c.r || ok != c.ok {
			t.Errorf("Over(%x, %x) = %x, %x, %v, want %x, %x, %v", c.a, c.b, q, r, ok, c.q, c.r, c.ok)
		}
	}
}

func TestCommon(t *testing.T) {
	for _, c := range []struct{ a, b, want Poly }{
		{5, 3, 3}, {3, 5, 3}, {6, 4, 2}, {0, 0, 0}, {0, 9, 9}, {9, 0, 9}, {1, 1<<64 - 1, 1},
		{1 << 63, 1 << 62, 1 << 62}, {1<<64 - 1, 1<<64 - 1, 1<<64 - 1}, {0x13, 0x19, 1}, {0, 1 << 63, 1 << 63},
	} {
		if got := Common(c.a, c.b); got != c.want {
			t.Errorf("Common(%x, %x) = %x, want %x", c.a, c.b, got, c.want)
		}
	}
}

func TestCommonIsTheGreatest(t *testing.T) {
	for a := Poly(0); a < 64; a++ {
		for b := Poly(0); b < 64; b++ {
			want := Poly(0)
			for d := Poly(1); d < 64 && (a != 0 || b != 0); d++ {
				_, inA, _ := Over(a, d)
				_, inB, _ := Over(b, d)
				if inA == 0 && inB == 0 && Degree(d) > Degree(want) {
					want = d
				}
			}
			if got := Common(a, b); got != want {
				t.Fatalf("Common(%x, %x) = %x, want %x", a, b, got, want)
			}
		}
	}
}

func TestRest(t *testing.T) {
	for _, c := range []struct {
		l    []byte
		b    Poly
		want Poly
	}{
		{nil, 1, 0},
		{nil, 0x13, 0},
		{[]byte{}, 1 << 62, 0},
		{[]byte{1}, 1, 0},
		{[]byte{1, 1, 0, 1}, 1, 0},
		{[]byte{1}, 2, 1},
		{[]byte{1, 0}, 2, 0},
		{[]byte{1, 0, 1, 0, 1, 1, 1}, 0x13, 8},
		{[]byte{3, 2, 255, 254, 7, 129, 1}, 0x13, 8},
		{[]byte{0, 0, 0, 1, 0, 1, 0, 1, 1, 1}, 0x13, 8},
	} {
		if got, ok := Rest(c.l, c.b); got != c.want || !ok {
			t.Errorf("Rest(%v, %x) = %x, %v, want %x", c.l, c.b, got, ok, c.want)
		}
	}
}

func TestRestOfNoDivisor(t *testing.T) {
	for _, b := range []Poly{0, 1 << 63, 1<<63 | 1, 1<<64 - 1} {
		for _, l := range [][]byte{nil, {0}, {1}, {1, 0, 1, 1}, make([]byte, 100)} {
			if got, ok := Rest(l, b); got != 0 || ok {
				t.Errorf("Rest(%v, %x) = %x, %v", l, b, got, ok)
			}
		}
	}
}

func TestRestIsThatOfOver(t *testing.T) {
	for _, a := range samples() {
		for _, b := range samples() {
			if b == 0 || Degree(b) == 63 {
				continue
			}
			_, want, _ := Over(a, b)
			for _, noughts := range []int{0, 1, 70} {
				if got, ok := Rest(coefficients(a, noughts), b); got != want || !ok {
					t.Fatalf("Rest of %x behind %d noughts by %x = %x, %v, want %x", a, noughts, b, got, ok, want)
				}
			}
		}
	}
}

func TestRestOfManyCoefficients(t *testing.T) {
	// x^4 + x + 1 has the order 15: x to a multiple of it leaves 1.
	for _, c := range []struct {
		power int
		want  Poly
	}{{150000, 1}, {150001, 2}, {150003, 8}, {150004, 3}} {
		l := make([]byte, c.power+1)
		l[0] = 1
		if got, ok := Rest(l, 0x13); got != c.want || !ok {
			t.Errorf("of the power %d: %x, %v, want %x", c.power, got, ok, c.want)
		}
	}
	// By x^62 + 1 each x^62 leaves 1, so x^992 + x leaves x + 1.
	l := make([]byte, 1001)
	l[1000-992], l[1000-1] = 1, 1
	if got, ok := Rest(l, 1<<62|1); got != 3 || !ok {
		t.Errorf("of degree 62: %x, %v", got, ok)
	}
}

// P3.2

func TestQuotientTimesDivisorAndRest(t *testing.T) {
	for _, a := range samples() {
		for _, b := range samples() {
			q, r, ok := Over(a, b)
			if ok != (b != 0) {
				t.Fatalf("Over(%x, %x): %v", a, b, ok)
			}
			if !ok {
				continue
			}
			p, room := Times(q, b)
			if !room || Add(p, r) != a || Degree(r) >= Degree(b) {
				t.Fatalf("Over(%x, %x) = %x, %x", a, b, q, r)
			}
		}
	}
}

// P3.3

func TestRestDoesNotChangeItsList(t *testing.T) {
	l := []byte{3, 0, 1, 2, 1, 1, 255, 77, 78}
	was := slices.Clone(l)
	first, _ := Rest(l[:7], 0x13)
	if !slices.Equal(l, was) {
		t.Error(l)
	}
	l[0] = 0
	if again, _ := Rest(was[:7], 0x13); again != first {
		t.Error(first, again)
	}
}

// P1 of the document

func TestNoCallPanics(t *testing.T) {
	for _, a := range samples() {
		Degree(a)
		for _, b := range samples() {
			Add(a, b)
			Times(a, b)
			Over(a, b)
			Common(a, b)
		}
		for _, l := range [][]byte{nil, {}, {1}, {255, 0, 2}, make([]byte, 200)} {
			Rest(l, a)
		}
	}
}
