package victim

import (
	"math"
	"math/big"
	"slices"
	"testing"
)

// rows calls a function with all rows of at most so many of the values.
func rows(values []int, most int, call func([]int)) {
	row := make([]int, 0, most)
	var more func()
	more = func() {
		call(row)
		if len(row) == most {
			return
		}
		for _, v := range values {
			row = append(row, v)
			more()
			row = row[:len(row)-1]
		}
	}
	more()
}

// best is the first block that may be chosen and that no other one is better than.
func best(many int, may func(int) bool, better func(a, b int) bool) int {
	for a := range many {
		isBeaten := false
		for b := range many {
			isBeaten = isBeaten || may(b) && better(b, a)
		}
		if may(a) && !isBeaten {
			return a
		}
	}
	return -1
}

// plainGreedy is the greedy choice by its words.
func plainGreedy(worth []int) int {
	return best(len(worth),
		func(i int) bool { return worth[i] >= 0 },
		func(a, b int) bool { return worth[a] < worth[b] })
}

// years is an age as it counts.
func years(age int) int64 {
	switch {
	case age < 0:
		return 0
	case age > 1048576:
		return 1048576
	}
	return int64(age)
}

// plainBenefit is the choice by cost and benefit by its words.
func plainBenefit(worth, age []int, pages int) int {
	if pages < 2 || pages > 16 {
		return -1
	}
	benefit := func(i int) *big.Rat {
		return big.NewRat(int64(pages-worth[i])*years(age[i]), int64(pages+worth[i]))
	}
	return best(len(worth),
		func(i int) bool { return worth[i] >= 0 && worth[i] < pages && i < len(age) },
		func(a, b int) bool { return benefit(a).Cmp(benefit(b)) > 0 })
}

// greedy holds Greedy's answer against what is wanted.
func greedy(t *testing.T, worth []int, want int) {
	t.Helper()
	if got := Greedy(worth); got != want {
		t.Fatalf("Greedy(%v) is %d, want %d", worth, got, want)
	}
}

// benefits holds Benefit's answer against what is wanted.
func benefits(t *testing.T, worth, age []int, pages, want int) {
	t.Helper()
	if got := Benefit(worth, age, pages); got != want {
		t.Fatalf("Benefit(%v, %v, %d) is %d, want %d", worth, age, pages, got, want)
	}
}

// P15.1

func TestGreedy(t *testing.T) {
	for _, c := range []struct {
		worth []int
		want  int
	}{
		{[]int{3, -1, 1, 1}, 2},
		{nil, -1},
		{[]int{}, -1},
		{[]int{0}, 0},
		{[]int{-1}, -1},
		{[]int{-1, -2, math.MinInt}, -1},
		{[]int{-1, 0}, 1},
		{[]int{2, 1, 0}, 2},
		{[]int{0, 0, 0}, 0},
		{[]int{5, 4, 4, 5}, 1},
		{[]int{math.MaxInt}, 0},
		{[]int{math.MaxInt, math.MaxInt - 1, math.MinInt}, 1},
		{[]int{17, 100, 16}, 2},
		{[]int{math.MinInt, math.MaxInt, -1}, 1},
	} {
		greedy(t, c.worth, c.want)
	}
}

func TestGreedyOfAllSmallRows(t *testing.T) {
	rows([]int{math.MinInt, -1, 0, 1, 2, 16, math.MaxInt}, 5, func(worth []int) {
		greedy(t, worth, plainGreedy(worth))
	})
}

func TestGreedyOfLongRows(t *testing.T) {
	worth := slices.Repeat([]int{-1, 9}, 50000)
	greedy(t, worth, 1)
	worth[77777] = 8
	worth[88889] = 8
	greedy(t, worth, 77777)
}

func TestBenefit(t *testing.T) {
	for _, c := range []struct {
		worth, age []int
		pages      int
		want       int
	}{
		{[]int{3, 1}, []int{100, 1}, 4, 0},
		{[]int{3, 1}, []int{4, 1}, 4, 1}, // 4/7 and 3/5
		{[]int{3, 1}, []int{5, 1}, 4, 0}, // 5/7 and 3/5
		{nil, nil, 4, -1},
		{[]int{}, []int{1, 2}, 4, -1},
		{[]int{0}, []int{0}, 4, 0},
		{[]int{-1}, []int{9}, 4, -1},
		{[]int{math.MinInt, -1, 0}, []int{9, 9, 0}, 4, 2},
		{[]int{0, 0}, []int{1, 2}, 4, 1},
		{[]int{0, 0}, []int{2, 2}, 4, 0},
		{[]int{1, 0}, []int{7, 7}, 4, 1},
	} {
		benefits(t, c.worth, c.age, c.pages, c.want)
	}
}

// TestBenefitOfFullBlocks gives blocks worth all pages, or more, each age there is.
func TestBenefitOfFullBlocks(t *testing.T) {
	for pages := 2; pages <= 16; pages++ {
		for _, full := range []int{pages, pages + 1, 2 * pages, 1 << 20, 1 << 32, math.MaxInt} {
			for _, age := range []int{math.MinInt, 0, 1, 1 << 20, math.MaxInt} {
				benefits(t, []int{full}, []int{age}, pages, -1)
				benefits(t, []int{full, pages - 1, full}, []int{age, 0, age}, pages, 1)
			}
		}
		benefits(t, []int{pages - 1, pages}, []int{1, math.MaxInt}, pages, 0)
	}
}

// TestBenefitOfEachPages holds each worth against a blank block, by ages at which the benefits are the same.
func TestBenefitOfEachPages(t *testing.T) {
	for pages := 2; pages <= 16; pages++ {
		for worth := range pages {
			over, under := pages+worth, pages-worth
			benefits(t, []int{worth, 0}, []int{over, under}, pages, 0)
			benefits(t, []int{0, worth}, []int{under, over}, pages, 0)
			benefits(t, []int{worth, 0}, []int{over, under + 1}, pages, 1)
			benefits(t, []int{0, worth}, []int{under, over + 1}, pages, 1)
		}
	}
}

// TestBenefitRoundsNothing compares benefits whose whole parts, and whose first digits, are the same.
func TestBenefitRoundsNothing(t *testing.T) {
	benefits(t, []int{3, 1}, []int{1, 0}, 4, 0)                  // 1/7 and 0
	benefits(t, []int{3, 2}, []int{1, 1}, 4, 1)                  // 1/7 and 1/3
	benefits(t, []int{2, 3}, []int{3, 6}, 4, 0)                  // 1 and 6/7
	benefits(t, []int{3, 2}, []int{8, 3}, 4, 0)                  // 8/7 and 1
	benefits(t, []int{15, 14}, []int{31, 15}, 16, 0)             // 1 and 1
	benefits(t, []int{14, 15}, []int{507375, 1048576}, 16, 1)    // 33825 and 33825.03..
	benefits(t, []int{15, 14}, []int{1048575, 507375}, 16, 0)    // 33825 and 33825
	benefits(t, []int{14, 15}, []int{507374, 1048574}, 16, 1)    // 33824.93.. and 33824.96..
	benefits(t, []int{0, 1}, []int{924000, 1047200}, 16, 0)      // 924000 and 924000
	benefits(t, []int{1, 0}, []int{1047201, 924000}, 16, 0)      // 924000.88.. and 924000
	benefits(t, []int{15, 15}, []int{1048575, 1048576}, 16, 1)   // a 31st
	benefits(t, []int{15, 13}, []int{1048576, 1048576}, 16, 1)   // of one age
	benefits(t, []int{1, 1, 1}, []int{500000, 500001, 1}, 16, 1) // of one worth
}

func TestBenefitOfAges(t *testing.T) {
	// below 0 they are as 0
	for _, age := range []int{math.MinInt, -1 << 32, -1 << 20, -2, -1, 0} {
		benefits(t, []int{0, 0}, []int{age, 0}, 4, 0)
		benefits(t, []int{0, 0}, []int{0, age}, 4, 0)
		benefits(t, []int{0, 3}, []int{age, 1}, 4, 1)
		benefits(t, []int{3, 0}, []int{age, age}, 4, 0)
	}
	// above 2^20 they are as that
	for _, age := range []int{1 << 20, 1<<20 + 1, 1 << 32, 1<<62 + 1, math.MaxInt} {
		benefits(t, []int{0, 0}, []int{1 << 20, age}, 4, 0)
		benefits(t, []int{0, 0}, []int{age, 1 << 20}, 4, 0)
		benefits(t, []int{0, 0}, []int{1<<20 - 1, age}, 4, 1)
		benefits(t, []int{3, 2}, []int{age, 1 << 20}, 4, 1)
	}
}

// TestBenefitWithoutAges gives fewer ages than blocks, and more of them.
func TestBenefitWithoutAges(t *testing.T) {
	benefits(t, []int{0, 0, 0}, nil, 4, -1)
	benefits(t, []int{3, 0, 0}, []int{1}, 4, 0)
	benefits(t, []int{4, 0, 0}, []int{1}, 4, -1)
	benefits(t, []int{-1, 3, 0}, []int{1, 0}, 4, 1)
	benefits(t, []int{3}, []int{0, 1 << 20, 1 << 20}, 4, 0)
	benefits(t, []int{4}, []int{0, 1 << 20}, 4, -1)
	benefits(t, nil, []int{1, 2, 3}, 4, -1)
}

func TestBenefitOfWrongPages(t *testing.T) {
	for pages := -20; pages <= 40; pages++ {
		want := -1
		if pages >= 2 && pages <= 16 {
			want = 0
		}
		benefits(t, []int{0}, []int{1}, pages, want)
		benefits(t, []int{1, 0, 0}, []int{math.MaxInt, 0, 1}, pages, want)
	}
	for _, pages := range []int{math.MinInt, -1 << 32, 1 << 31, 1 << 32, 1<<32 + 4, math.MaxInt} {
		benefits(t, []int{0, 1}, []int{1, 1}, pages, -1)
		benefits(t, nil, nil, pages, -1)
	}
}

func TestBenefitOfAllSmallRows(t *testing.T) {
	worths := []int{math.MinInt, -1, 0, 1, 2, 3, 4, math.MaxInt}
	ages := []int{math.MinInt, 0, 1, 2, 3, math.MaxInt}
	rows(worths, 3, func(worth []int) {
		rows(ages, 3, func(age []int) {
			for _, pages := range []int{2, 4} {
				benefits(t, worth, age, pages, plainBenefit(worth, age, pages))
			}
		})
	})
}

// TestBenefitOfLongRows holds drawn rows against the plain words.
func TestBenefitOfLongRows(t *testing.T) {
	x := uint32(5)
	draw := func(n int) int {
		x = x*1664525 + 1013904223
		return int(x>>8) % n
	}
	for range 300 {
		pages := draw(20)
		worth, age := make([]int, draw(65)), make([]int, draw(65))
		for i := range worth {
			worth[i] = draw(20) - 1
		}
		few := 1 + draw(1<<21)
		for i := range age {
			age[i] = draw(few) - few/16
		}
		benefits(t, worth, age, pages, plainBenefit(worth, age, pages))
	}
}

func TestSpread(t *testing.T) {
	const top = 1 << 40
	for _, c := range []struct {
		erases []int
		want   int
	}{
		{[]int{3, 8}, 5},
		{[]int{8, 3}, 5},
		{nil, 0},
		{[]int{}, 0},
		{[]int{0}, 0},
		{[]int{7}, 0},
		{[]int{7, 7, 7}, 0},
		{[]int{-1}, 0},
		{[]int{math.MinInt}, 0},
		{[]int{math.MaxInt}, 0},
		{[]int{5, 2, 9, 4}, 7},
		{[]int{-5, 3}, 3},
		{[]int{3, -5}, 3},
		{[]int{-5, -3}, 0},
		{[]int{math.MinInt, 1}, 1},
		{[]int{0, top - 1}, top - 1},
		{[]int{0, top}, top},
		{[]int{0, top + 1}, top},
		{[]int{math.MaxInt, 0}, top},
		{[]int{math.MinInt, math.MaxInt}, top},
		{[]int{top, top + 1, math.MaxInt}, 0},
		{[]int{math.MaxInt, top - 1}, 1},
		{[]int{1, math.MaxInt}, top - 1},
		{[]int{1 << 32, 1<<32 + 5}, 5},
	} {
		if got := Spread(c.erases); got != c.want {
			t.Errorf("Spread(%v) is %d, want %d", c.erases, got, c.want)
		}
	}
}

func TestSpreadOfAllSmallRows(t *testing.T) {
	const top = 1 << 40
	rows([]int{-3, 0, 1, 5, top - 1, top, top + 7}, 5, func(erases []int) {
		want := 0
		for _, a := range erases {
			for _, b := range erases {
				want = max(want, min(max(a, 0), top)-min(max(b, 0), top))
			}
		}
		if got := Spread(erases); got != want {
			t.Fatalf("Spread(%v) is %d, want %d", erases, got, want)
		}
	})
}

func TestNothingIsChanged(t *testing.T) {
	worth, age := []int{3, -1, 1, 9}, []int{-1, 5, math.MaxInt, 0}
	Greedy(worth)
	Benefit(worth, age, 4)
	Spread(age)
	if !slices.Equal(worth, []int{3, -1, 1, 9}) || !slices.Equal(age, []int{-1, 5, math.MaxInt, 0}) {
		t.Errorf("what was handed in became %v, %v", worth, age)
	}
}
