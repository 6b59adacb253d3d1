package pattern

import (
	"math"
	"slices"
	"testing"

	"shuttle/api"
)

// nones are numbers that are no version's and no stream's.
func nones() []int {
	return []int{-1, -2, -3, -4, -5, -8, 4, 5, 7, 8, 1 << 32, -1 << 32, math.MaxInt, math.MinInt}
}

// early are steps below 0.
func early() []int { return []int{-1, -2, -3, -4, -5, -8, -1 << 32, math.MinInt, math.MinInt + 1} }

// late are steps from 0 on, near and far, of each remainder.
func late() []int {
	l := []int{1<<14 - 1, 1 << 14, 1<<14 + 1, 1<<31 - 1, 1 << 31, 1<<32 + 1, 1<<62 + 2}
	for t := range 40 {
		l = append(l, t, math.MaxInt-t)
	}
	return l
}

// P10.1

func TestStream(t *testing.T) {
	for _, c := range []struct{ version, step, want int }{
		{0, 0, 0}, {1, 0, 1}, {2, 0, 2}, {3, 0, 3},
		{0, 1, 1}, {1, 1, 2}, {2, 1, 3}, {3, 1, 0},
		{0, 2, 2}, {1, 2, 3}, {2, 2, 0}, {3, 2, 1},
		{0, 3, 3}, {1, 3, 0}, {2, 3, 1}, {3, 3, 2},
		{0, 4, 0}, {1, 4, 1}, {2, 4, 2}, {3, 4, 3},
		{3, 1 << 14, 3}, {3, 1<<14 + 1, 0}, {2, 1<<32 + 3, 1},
		// The greatest int is one less than a multiple of 4.
		{0, math.MaxInt, 3}, {1, math.MaxInt, 0}, {2, math.MaxInt, 1}, {3, math.MaxInt, 2},
		{3, math.MaxInt - 1, 1}, {3, math.MaxInt - 2, 0}, {3, math.MaxInt - 3, 3},
	} {
		if got, e := Stream(c.version, c.step); got != c.want || e != api.OK {
			t.Errorf("Stream(%d, %d) = %d, %d, want %d", c.version, c.step, got, e, c.want)
		}
	}
}

func TestStreamStepByStep(t *testing.T) {
	for v := range 4 {
		want := v
		for step := range 1000 {
			if got, e := Stream(v, step); got != want || e != api.OK {
				t.Fatalf("Stream(%d, %d) = %d, %d, want %d", v, step, got, e, want)
			}
			if want++; want == 4 {
				want = 0
			}
		}
	}
}

func TestVersion(t *testing.T) {
	for _, c := range []struct{ stream, step, want int }{
		{0, 0, 0}, {1, 0, 1}, {2, 0, 2}, {3, 0, 3},
		{0, 1, 3}, {1, 1, 0}, {2, 1, 1}, {3, 1, 2},
		{0, 2, 2}, {1, 2, 3}, {2, 2, 0}, {3, 2, 1},
		{0, 3, 1}, {1, 3, 2}, {2, 3, 3}, {3, 3, 0},
		{0, 4, 0}, {3, 4, 3},
		{0, math.MaxInt, 1}, {1, math.MaxInt, 2}, {2, math.MaxInt, 3}, {3, math.MaxInt, 0},
	} {
		if got, e := Version(c.stream, c.step); got != c.want || e != api.OK {
			t.Errorf("Version(%d, %d) = %d, %d, want %d", c.stream, c.step, got, e, c.want)
		}
	}
}

// At each step each stream stands in just one version, and Version tells which.
func TestVersionIsWhereTheStreamStands(t *testing.T) {
	for _, step := range late() {
		seen := map[int]bool{}
		for v := range 4 {
			stream, e := Stream(v, step)
			if e != api.OK {
				t.Fatalf("Stream(%d, %d): %d", v, step, e)
			}
			seen[stream] = true
			if got, e := Version(stream, step); got != v || e != api.OK {
				t.Errorf("Version(%d, %d) = %d, %d, want %d", stream, step, got, e, v)
			}
		}
		for stream := range 4 {
			if !seen[stream] {
				t.Errorf("stream %d of step %d stands in no version", stream, step)
			}
		}
	}
}

func TestNoSuchVersionStreamOrStep(t *testing.T) {
	refused := func(which, step int) {
		t.Helper()
		if got, e := Stream(which, step); got != 0 || e != api.ErrArg {
			t.Errorf("Stream(%d, %d) = %d, %d, want 0 and ErrArg", which, step, got, e)
		}
		if got, e := Version(which, step); got != 0 || e != api.ErrArg {
			t.Errorf("Version(%d, %d) = %d, %d, want 0 and ErrArg", which, step, got, e)
		}
	}
	for _, which := range nones() {
		for _, step := range append(late(), early()...) {
			refused(which, step)
		}
	}
	for which := range 4 {
		for _, step := range early() {
			refused(which, step)
		}
	}
}

func TestPlaces(t *testing.T) {
	for _, c := range []struct {
		version, steps int
		want           []int
	}{
		{0, 3, []int{0, 5, 10}},
		{0, 0, nil}, {1, 0, nil}, {2, 0, nil}, {3, 0, nil},
		{0, 1, []int{0}}, {1, 1, []int{1}}, {2, 1, []int{2}}, {3, 1, []int{3}},
		{0, 6, []int{0, 5, 10, 15, 16, 21}},
		{1, 6, []int{1, 6, 11, 12, 17, 22}},
		{2, 6, []int{2, 7, 8, 13, 18, 23}},
		{3, 6, []int{3, 4, 9, 14, 19, 20}},
	} {
		if got, e := Places(c.version, c.steps); !slices.Equal(got, c.want) || e != api.OK {
			t.Errorf("Places(%d, %d) = %v, %d, want %v", c.version, c.steps, got, e, c.want)
		}
	}
}

func TestPlacesGoByStream(t *testing.T) {
	for v := range 4 {
		for _, steps := range []int{0, 1, 2, 3, 4, 5, 6, 7, 550, 4102, 1<<14 - 1, 1 << 14} {
			got, e := Places(v, steps)
			if len(got) != steps || e != api.OK {
				t.Fatalf("Places(%d, %d): %d of them, %d", v, steps, len(got), e)
			}
			for step, place := range got {
				if stream, _ := Stream(v, step); place != 4*step+stream {
					t.Fatalf("Places(%d, %d) has %d at %d, want %d", v, steps, place, step, 4*step+stream)
				}
			}
		}
	}
}

func TestPlacesThatThereAreNone(t *testing.T) {
	refused := func(version, steps int) {
		t.Helper()
		if got, e := Places(version, steps); len(got) != 0 || e != api.ErrArg {
			t.Errorf("Places(%d, %d): %d of them, %d, want none and ErrArg", version, steps, len(got), e)
		}
	}
	beyond := append(early(), 1<<14+1, 1<<14+2, 1<<14+6, 1<<16, 1<<32, math.MaxInt)
	for v := range 4 {
		for _, steps := range beyond {
			refused(v, steps)
		}
	}
	for _, v := range nones() {
		for _, steps := range append(beyond, 0, 1, 6, 1<<14) {
			refused(v, steps)
		}
	}
}

func TestRate(t *testing.T) {
	for set, want := range []int{0, 1, 1, 2, 1, 2, 2, 3, 1, 2, 2, 3, 2, 3, 3, 4} {
		if got, e := Rate(set); got != want || e != api.OK {
			t.Errorf("Rate(%d) = %d, %d, want %d", set, got, e, want)
		}
	}
	for _, set := range []int{-1, -2, -15, -16, 16, 17, 31, 32, 1 << 32, -1 << 32, math.MaxInt, math.MinInt} {
		if got, e := Rate(set); got != 0 || e != api.ErrArg {
			t.Errorf("Rate(%d) = %d, %d, want 0 and ErrArg", set, got, e)
		}
	}
}

// P10.2

func TestAllPlacesEachOnce(t *testing.T) {
	for _, steps := range []int{0, 1, 2, 3, 4, 5, 6, 7, 8, 9, 550, 4102, 1<<14 - 1, 1 << 14} {
		times := make([]int, 4*steps)
		for v := range 4 {
			places, _ := Places(v, steps)
			for _, at := range places {
				if at < 0 || at >= len(times) {
					t.Fatalf("place %d of version %d isn't in a code of %d steps", at, v, steps)
				}
				times[at]++
			}
		}
		for at, n := range times {
			if n != 1 {
				t.Fatalf("place %d of a code of %d steps stands in %d versions", at, steps, n)
			}
		}
	}
}

// P10.3

func TestAnswersAreNewMemory(t *testing.T) {
	for v := range 4 {
		first, _ := Places(v, 30)
		kept := slices.Clone(first)
		other, _ := Places(v, 30)
		for all, i := first[:cap(first)], 0; i < len(all); i++ {
			all[i] = -7
		}
		again, _ := Places(v, 30)
		shorter, _ := Places(v, 20)
		if !slices.Equal(other, kept) || !slices.Equal(again, kept) || !slices.Equal(shorter, kept[:20]) {
			t.Errorf("answers change with another one: %v, %v, %v, want %v", other, again, shorter, kept)
		}
	}
}

// P1 of the document

func TestNoCallPanics(t *testing.T) {
	numbers := append(append(nones(), early()...), late()...)
	for _, a := range numbers {
		Rate(a)
		for _, b := range numbers {
			Stream(a, b)
			Version(a, b)
			Places(a, b)
		}
	}
}
