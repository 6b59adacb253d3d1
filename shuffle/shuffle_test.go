package shuffle

import (
	"bytes"
	"math"
	"math/rand/v2"
	"slices"
	"testing"

	"shuttle/api"
)

// order is Order that must be answered.
func order(t *testing.T, n, rows int) []int {
	t.Helper()
	l, e := Order(n, rows)
	if e != api.OK || len(l) != n {
		t.Fatalf("Order(%d, %d): %d numbers, %d", n, rows, len(l), e)
	}
	return l
}

// table is Order in the chapter's words: a table is written row by row, and read column by column.
func table(n, rows int) []int {
	wide := n / rows
	if n%rows > 0 {
		wide++
	}
	written := make([][]int, rows)
	next := 0
	for row := range rows {
		for len(written[row]) < wide && next < n {
			written[row] = append(written[row], next)
			next++
		}
	}
	var read []int
	for column := range wide {
		for row := range rows {
			if column < len(written[row]) {
				read = append(read, written[row][column])
			}
		}
	}
	return read
}

// sizes are short ones, and the longest, and those near them.
func sizes() []int {
	var l []int
	for n := range 300 {
		l = append(l, n)
	}
	return append(l, 4095, 4096, 4097, 65472, 65473, 65535, 65536)
}

func someBytes(chance *rand.Rand, n int) []byte {
	l := make([]byte, n)
	for i := range l {
		l[i] = byte(chance.Uint32())
	}
	return l
}

// P33.1

func TestExamples(t *testing.T) {
	for _, c := range []struct {
		n, rows int
		want    []int
	}{
		{5, 2, []int{0, 3, 1, 4, 2}},
		{0, 1, nil},
		{0, 64, nil},
		{1, 1, []int{0}},
		{1, 64, []int{0}},
		{4, 1, []int{0, 1, 2, 3}},
		{4, 64, []int{0, 1, 2, 3}},
		{6, 2, []int{0, 3, 1, 4, 2, 5}},
		{6, 3, []int{0, 2, 4, 1, 3, 5}},
		{7, 3, []int{0, 3, 6, 1, 4, 2, 5}},
		// Rows of two: the fourth one has one, the fifth one none.
		{7, 5, []int{0, 2, 4, 6, 1, 3, 5}},
		{5, 4, []int{0, 2, 4, 1, 3}},
	} {
		if got := order(t, c.n, c.rows); !slices.Equal(got, c.want) {
			t.Errorf("Order(%d, %d) = %v, want %v", c.n, c.rows, got, c.want)
		}
	}
}

func TestOrderIsThatOfATable(t *testing.T) {
	for _, n := range sizes() {
		for rows := 1; rows <= 64; rows++ {
			if n > 300 && rows%9 > 1 {
				continue
			}
			if got, want := order(t, n, rows), table(n, rows); !slices.Equal(got, want) {
				t.Fatalf("Order(%d, %d) = %v, want %v", n, rows, got, want)
			}
		}
	}
}

func TestPut(t *testing.T) {
	for _, c := range []struct {
		l    string
		rows int
		want string
	}{
		{"abcdefg", 3, "adgbecf"},
		{"abcde", 2, "adbec"},
		{"abcde", 1, "abcde"},
		{"abcde", 5, "abcde"},
		{"abcde", 64, "abcde"},
		{"\x00\xff\x80\x01", 2, "\x00\x80\xff\x01"},
		{"", 7, ""},
	} {
		if got, e := Put([]byte(c.l), c.rows); string(got) != c.want || e != api.OK {
			t.Errorf("Put(%q, %d) = %q, %d, want %q", c.l, c.rows, got, e, c.want)
		}
		if got, e := Take([]byte(c.want), c.rows); string(got) != c.l || e != api.OK {
			t.Errorf("Take(%q, %d) = %q, %d, want %q", c.want, c.rows, got, e, c.l)
		}
	}
	for rows := 1; rows <= 64; rows++ {
		for _, l := range [][]byte{nil, {}} {
			a, e := Put(l, rows)
			b, no := Take(l, rows)
			if len(a) != 0 || len(b) != 0 || e != api.OK || no != api.OK {
				t.Errorf("of nothing: %v, %d, %v, %d", a, e, b, no)
			}
		}
	}
}

func TestPutIsInThatOrder(t *testing.T) {
	chance := rand.New(rand.NewPCG(33, 1))
	for _, n := range sizes() {
		for range 6 {
			rows := 1 + chance.IntN(64)
			l := someBytes(chance, n)
			var want []byte
			for _, place := range table(n, rows) {
				want = append(want, l[place])
			}
			if got, e := Put(l, rows); e != api.OK || !bytes.Equal(got, want) {
				t.Fatalf("Put(%v, %d) = %v, %d, want %v", l, rows, got, e, want)
			}
			if got, e := Take(want, rows); e != api.OK || !bytes.Equal(got, l) {
				t.Fatalf("Take(%v, %d) = %v, %d, want %v", want, rows, got, e, l)
			}
		}
	}
}

func TestApart(t *testing.T) {
	for _, c := range []struct{ n, rows, want int }{
		{0, 1, 0}, {0, 64, 0}, {1, 1, 0}, {1, 64, 0},
		{2, 1, 1}, {2, 2, 1}, {2, 64, 1}, {3, 2, 1},
		// 0 3 1 4 2: they are read at 0, 2, 4, 1, 3.
		{5, 2, 2},
		{6, 2, 2}, {6, 3, 2},
		{9, 3, 3}, {16, 4, 4}, {100, 10, 10}, {4096, 64, 64}, {65536, 64, 64}, {65536, 1, 1},
		// Of rows of two the last column's and the next row's first one are near.
		{128, 64, 63}, {64, 64, 1}, {65, 64, 32},
	} {
		if got, e := Apart(c.n, c.rows); got != c.want || e != api.OK {
			t.Errorf("Apart(%d, %d) = %d, %d, want %d", c.n, c.rows, got, e, c.want)
		}
	}
}

func TestApartIsTheLeastOfAllPairs(t *testing.T) {
	for _, n := range sizes() {
		for rows := 1; rows <= 64; rows++ {
			if n > 300 && rows%21 != 1 {
				continue
			}
			read := map[int]int{}
			for k, place := range table(n, rows) {
				read[place] = k
			}
			least := math.MaxInt
			for k := range n - 1 {
				d := read[k+1] - read[k]
				if d < 0 {
					d = -d
				}
				least = min(least, d)
			}
			if n < 2 {
				least = 0
			}
			if got, e := Apart(n, rows); got != least || e != api.OK {
				t.Fatalf("Apart(%d, %d) = %d, %d, want %d", n, rows, got, e, least)
			}
		}
	}
}

func TestBeyondTheBounds(t *testing.T) {
	far := []int{1 << 32, 1<<32 + 1, -1 << 32, math.MaxInt, math.MinInt}
	refused := func(n, rows int) {
		t.Helper()
		if l, e := Order(n, rows); len(l) != 0 || e != api.ErrArg {
			t.Errorf("Order(%d, %d): %d numbers, %d, want nothing and ErrArg", n, rows, len(l), e)
		}
		if d, e := Apart(n, rows); d != 0 || e != api.ErrArg {
			t.Errorf("Apart(%d, %d) = %d, %d, want 0 and ErrArg", n, rows, d, e)
		}
		if n < 0 || n > 1<<20 {
			return
		}
		if l, e := Put(make([]byte, n), rows); len(l) != 0 || e != api.ErrArg {
			t.Errorf("Put of %d, %d: %d, %d, want nothing and ErrArg", n, rows, len(l), e)
		}
		if l, e := Take(make([]byte, n), rows); len(l) != 0 || e != api.ErrArg {
			t.Errorf("Take of %d, %d: %d, %d, want nothing and ErrArg", n, rows, len(l), e)
		}
	}
	for _, n := range append(far, -2, -1, 65537, 65538, 1<<17, 1<<20) {
		for _, rows := range append(far, -1, 0, 1, 2, 64, 65) {
			refused(n, rows)
		}
	}
	for _, rows := range append(far, -64, -2, -1, 0, 65, 66, 128) {
		for _, n := range []int{0, 1, 2, 100, 65536} {
			refused(n, rows)
		}
	}
}

// P33.2

func TestOrderHasEachPlaceOnce(t *testing.T) {
	for _, n := range sizes() {
		for _, rows := range []int{1, 2, 3, 7, 31, 32, 63, 64} {
			there := make([]bool, n)
			for _, place := range order(t, n, rows) {
				if place < 0 || place >= n || there[place] {
					t.Fatalf("Order(%d, %d) has %d twice, or mustn't", n, rows, place)
				}
				there[place] = true
			}
		}
	}
}

func TestTakeOfPutAndPutOfTake(t *testing.T) {
	chance := rand.New(rand.NewPCG(33, 2))
	for _, n := range sizes() {
		for _, rows := range []int{1, 2, 5, 33, 64} {
			l := someBytes(chance, n)
			put, _ := Put(l, rows)
			taken, _ := Take(l, rows)
			a, e := Take(put, rows)
			b, no := Put(taken, rows)
			if e != api.OK || no != api.OK || !bytes.Equal(a, l) || !bytes.Equal(b, l) {
				t.Fatalf("of %d bytes in %d rows: %v, %v, want %v", n, rows, a, b, l)
			}
		}
	}
}

// P33.3

func TestNothingIsKeptOrShared(t *testing.T) {
	all := []byte("abcdefg.....")
	for rows := 1; rows <= 64; rows++ {
		put, _ := Put(all[:7], rows)
		taken, _ := Take(all[:7], rows)
		l := order(t, 7, rows)
		want := slices.Clone(put)
		for _, b := range [][]byte{put[:cap(put)], taken[:cap(taken)]} {
			for i := range b {
				b[i] = 0x5a
			}
		}
		for i, all := 0, l[:cap(l)]; i < len(all); i++ {
			all[i] = -1
		}
		if string(all) != "abcdefg....." {
			t.Fatalf("what was handed in was changed: %q", all)
		}
		if again, _ := Put(all[:7], rows); !bytes.Equal(again, want) {
			t.Fatalf("%q, want %q", again, want)
		}
		if again := order(t, 7, rows); !slices.Equal(again, table(7, rows)) {
			t.Fatalf("%v, want %v", again, table(7, rows))
		}
	}
}
