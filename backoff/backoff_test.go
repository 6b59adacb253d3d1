package backoff

import (
	"math"
	"testing"

	"shuttle/api"
)

// below are no numbers of tries, for either call.
func below() []int {
	return []int{-1, -2, -3, -16, -1000000, -1 << 31, -1 << 32, 3 - 1<<32, math.MinInt}
}

// P20.1

func TestWait(t *testing.T) {
	for _, c := range []struct{ tries, want int }{
		{1, 2}, {2, 4}, {3, 8}, {4, 16}, {5, 16}, {6, 16}, {7, 16}, {32, 16}, {62, 16}, {63, 16}, {64, 16}, {65, 16},
		{1000000, 16}, {1000001, 16}, {1 << 31, 16}, {1<<32 + 1, 16}, {math.MaxInt - 1, 16}, {math.MaxInt, 16},
	} {
		if n, e := Wait(c.tries); n != c.want || e != api.OK {
			t.Errorf("Wait(%d) = %d, %d, want %d", c.tries, n, e, c.want)
		}
	}
}

func TestWaitRefuses(t *testing.T) {
	for _, tries := range append(below(), 0) {
		if n, e := Wait(tries); n != 0 || e != api.ErrArg {
			t.Errorf("Wait(%d) = %d, %d, want 0 and ErrArg", tries, n, e)
		}
	}
}

func TestTotal(t *testing.T) {
	for _, c := range []struct{ tries, want int }{
		{0, 0}, {1, 2}, {2, 6}, {3, 14}, {4, 30}, {5, 46}, {6, 62}, {100, 1566}, {999999, 15999950}, {1000000, 15999966},
	} {
		if n, e := Total(c.tries); n != c.want || e != api.OK {
			t.Errorf("Total(%d) = %d, %d, want %d", c.tries, n, e, c.want)
		}
	}
}

func TestTotalRefuses(t *testing.T) {
	for _, tries := range append(below(), 1000001, 1000002, 2000000, 1<<31, 1<<32, 1<<32+3, math.MaxInt) {
		if n, e := Total(tries); n != 0 || e != api.ErrArg {
			t.Errorf("Total(%d) = %d, %d, want 0 and ErrArg", tries, n, e)
		}
	}
}

// All waits, one by one, are as many ticks as they are together.
func TestTotalIsAllWaits(t *testing.T) {
	sum := 0
	for tries := 1; tries <= 1000000; tries++ {
		wait, _ := Wait(tries)
		sum += wait
		if n, e := Total(tries); n != sum || e != api.OK {
			t.Fatalf("Total(%d) = %d, %d, want %d", tries, n, e, sum)
		}
	}
}

// P20.2

func TestWaitsRiseTillTheLongest(t *testing.T) {
	ahead := 1
	for tries := 1; tries <= 100000; tries++ {
		n, e := Wait(tries)
		if e != api.OK || n < ahead || n > 16 || n != 2*ahead && n != 16 {
			t.Fatalf("Wait(%d) = %d, %d, behind %d", tries, n, e, ahead)
		}
		ahead = n
	}
	for _, tries := range []int{1 << 20, 1 << 31, 1 << 40, 1 << 62, math.MaxInt} {
		if n, _ := Wait(tries); n < ahead || n > api.MaxWait {
			t.Errorf("Wait(%d) = %d", tries, n)
		}
	}
}
