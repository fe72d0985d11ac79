package suite

import (
	"iter"
	"slices"
)

// Greedy returns the indices of some of the lists that together have all
// numbers that all have.
func Greedy(lists [][]int) []int {
	sets := distinct(lists)
	taken := cover(sets)
	kept := needed(sets, taken)
	slices.Sort(kept)
	return kept
}

// distinct returns the lists with each number once.
func distinct(lists [][]int) [][]int {
	out := make([][]int, len(lists))
	for i, list := range lists {
		sorted := slices.Clone(list)
		slices.Sort(sorted)
		out[i] = slices.Compact(sorted)
	}
	return out
}

// cover returns the indices of sets in the order in which they are taken: that
// with the most numbers that no set before has comes next.
func cover(sets [][]int) []int {
	left := map[int]int{} // the numbers that no set has that is taken, by how many sets have them
	for _, set := range sets {
		for _, n := range set {
			left[n]++
		}
	}
	var taken []int
	for len(left) > 0 {
		best, most := 0, 0
		for i, set := range sets {
			if count := amount(set, left); count > most {
				best, most = i, count
			}
		}
		for _, n := range sets[best] {
			delete(left, n)
		}
		taken = append(taken, best)
	}
	return taken
}

// amount returns how many numbers of a set are left.
func amount(set []int, left map[int]int) int {
	count := 0
	for _, n := range set {
		if _, ok := left[n]; ok {
			count++
		}
	}
	return count
}

// needed returns those of the sets that were taken without which a number would
// be missing, when from the last one on each that isn't needed is removed.
func needed(sets [][]int, taken []int) []int {
	owners := map[int]int{} // the numbers, by how many sets have them that are not removed
	for _, i := range taken {
		for _, n := range sets[i] {
			owners[n]++
		}
	}
	var kept []int
	for i := range backward(taken) {
		if slices.ContainsFunc(sets[i], func(n int) bool { return owners[n] == 1 }) {
			kept = append(kept, i)
			continue
		}
		for _, n := range sets[i] {
			owners[n]--
		}
	}
	return kept
}

// backward goes through a list from its end.
func backward(list []int) iter.Seq[int] {
	return func(yield func(n int) bool) {
		for i := len(list) - 1; i >= 0; i-- {
			if !yield(list[i]) {
				return
			}
		}
	}
}
