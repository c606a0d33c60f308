package plan

import "levelling/api"

// Left is a plan of n shards that joins each one with all ahead of it.
func Left(n int) []int {
	if !mayBe(n) {
		return nil
	}
	l := []int{0}
	for k := 1; k < n; k++ {
		l = append(l, k, -1)
	}
	return l
}

// Right is a plan of n shards that joins each one with all behind it.
func Right(n int) []int {
	if !mayBe(n) {
		return nil
	}
	l := make([]int, 0, 2*n-1)
	for k := range n {
		l = append(l, k)
	}
	for range n - 1 {
		l = append(l, -1)
	}
	return l
}

// Even is a plan of n shards that joins halves.
func Even(n int) []int {
	if !mayBe(n) {
		return nil
	}
	return even(0, n)
}

// mayBe tells whether there may be n shards.
func mayBe(n int) bool {
	return n >= 1 && n <= api.MaxShard
}

// even is Even of n shards, 1 or more, the first one of which is from.
func even(from int, n int) []int {
	if n == 1 {
		return []int{from}
	}
	half := (n + 1) / 2
	l := append(even(from, half), even(from+half, n-half)...)
	return append(l, -1)
}
