package loop

import (
	"parquet/api"
)

// known is a drawing, and what its loops are, word by word: rows, twice the areas, depths.
type known struct {
	name  string
	d     api.Drawing
	rows  [][]int
	area2 []int
	depth []int
}

// ordinary tells drawings of each kind.
func ordinary() []known {
	return []known{
		{"a triangle", drawn([]int{0, 0, 4, 0, 0, 4}), [][]int{{0, 1, 2}}, []int{16}, []int{0}},
		{"a triangle that turns right", drawn([]int{0, 0, 0, 4, 4, 0}), [][]int{{0, 1, 2}}, []int{-16}, []int{0}},
		{"the least triangle", drawn([]int{63, 63, 64, 63, 64, 64}), [][]int{{0, 1, 2}}, []int{1}, []int{0}},
		{"a thin triangle", drawn([]int{0, 0, 64, 63, 63, 62}), [][]int{{0, 1, 2}}, []int{-1}, []int{0}},
		{"a square", drawn(square(5, 6, 7)), [][]int{{0, 1, 2, 3}}, []int{98}, []int{0}},
		{"the greatest square", drawn(square(0, 0, 64)), [][]int{{0, 1, 2, 3}}, []int{8192}, []int{0}},
		{"a square joined crosswise", joined([]int{0, 0, 5, 5, 5, 0, 0, 5}, [2]int{3, 1}, [2]int{1, 2}, [2]int{0, 3}, [2]int{2, 0}), [][]int{{0, 2, 1, 3}}, []int{50}, []int{0}},
		{"a square from its last vertex", joined([]int{0, 5, 5, 5, 5, 0, 0, 0}, [2]int{0, 3}, [2]int{3, 2}, [2]int{2, 1}, [2]int{1, 0}), [][]int{{0, 1, 2, 3}}, []int{-50}, []int{0}},
		{"squares beside one another", drawn(square(0, 0, 5), square(6, 0, 4), square(0, 6, 3)), [][]int{{0, 1, 2, 3}, {4, 5, 6, 7}, {8, 9, 10, 11}}, []int{50, 32, 18}, []int{0, 0, 0}},
		{"one within another", drawn(square(0, 0, 9), square(1, 1, 7)), [][]int{{0, 1, 2, 3}, {4, 5, 6, 7}}, []int{162, 98}, []int{0, 1}},
		{"the inner one first", drawn(square(1, 1, 7), square(0, 0, 9)), [][]int{{0, 1, 2, 3}, {4, 5, 6, 7}}, []int{98, 162}, []int{1, 0}},
		{"several within one another", drawn(square(2, 2, 5), square(0, 0, 9), square(3, 3, 3), square(1, 1, 7)), [][]int{{0, 1, 2, 3}, {4, 5, 6, 7}, {8, 9, 10, 11}, {12, 13, 14, 15}}, []int{50, 162, 18, 98}, []int{2, 0, 3, 1}},
		{"five triangles within one another", drawn([]int{0, 0, 60, 0, 0, 60}, []int{2, 2, 50, 2, 2, 50}, []int{4, 4, 40, 4, 4, 40}, []int{6, 6, 30, 6, 6, 30}, []int{8, 8, 20, 8, 8, 20}), [][]int{{0, 1, 2}, {3, 4, 5}, {6, 7, 8}, {9, 10, 11}, {12, 13, 14}}, []int{3600, 2304, 1296, 576, 144}, []int{0, 1, 2, 3, 4}},
		{"two within one", drawn(square(0, 0, 20), square(1, 1, 3), square(5, 1, 3)), [][]int{{0, 1, 2, 3}, {4, 5, 6, 7}, {8, 9, 10, 11}}, []int{800, 18, 18}, []int{0, 1, 1}},
		{"two pairs", drawn(square(30, 0, 9), square(1, 1, 7), square(31, 1, 7), square(0, 0, 9)), [][]int{{0, 1, 2, 3}, {4, 5, 6, 7}, {8, 9, 10, 11}, {12, 13, 14, 15}}, []int{162, 98, 98, 162}, []int{0, 1, 1, 0}},
		{"in a notch, not within", drawn([]int{0, 0, 20, 0, 20, 20, 10, 2, 0, 20}, square(9, 8, 2)), [][]int{{0, 1, 2, 3, 4}, {5, 6, 7, 8}}, []int{440, 8}, []int{0, 0}},
		{"vertices by turns", joined([]int{0, 0, 9, 9, 4, 0, 12, 9, 0, 4, 9, 12}, [2]int{0, 2}, [2]int{1, 3}, [2]int{2, 4}, [2]int{3, 5}, [2]int{4, 0}, [2]int{5, 1}), [][]int{{0, 2, 4}, {1, 3, 5}}, []int{16, 9}, []int{0, 0}},
		{"stairs", drawn([]int{0, 0, 16, 0, 16, 4, 12, 4, 12, 8, 8, 8, 8, 12, 4, 12, 4, 16, 0, 16}), [][]int{{0, 1, 2, 3, 4, 5, 6, 7, 8, 9}}, []int{320}, []int{0}},
		{"a comb", comb(), [][]int{{0, 1, 2, 3, 4, 5, 6, 7, 8, 9, 10, 11, 12, 13, 14, 15}}, []int{78}, []int{0}},
		{"a vertex on a straight way", drawn([]int{0, 0, 4, 0, 8, 0, 0, 4}), [][]int{{0, 1, 2, 3}}, []int{32}, []int{0}},
		{"many on a straight way", drawn([]int{0, 0, 1, 0, 2, 0, 3, 0, 4, 0, 4, 4, 3, 3, 2, 2, 1, 1}), [][]int{{0, 1, 2, 3, 4, 5, 6, 7, 8}}, []int{16}, []int{0}},
		{"with holes' points", with(drawn(square(0, 0, 9), square(1, 1, 7)), pt(1, 2, 1, 3), pt(9, 2, 9, 2), pt(60, 1, 60, 1), pt(60, 1, 60, 1)), [][]int{{0, 1, 2, 3}, {4, 5, 6, 7}}, []int{162, 98}, []int{0, 1}},
	}
}

// comb has as many vertices as may be, four teeth that point up.
func comb() api.Drawing {
	return drawn([]int{0, 0, 7, 0, 7, 9, 6, 9, 6, 1, 5, 1, 5, 9, 4, 9, 4, 1, 3, 1, 3, 9, 2, 9, 2, 1, 1, 1, 1, 9, 0, 9})
}

// saw has teeth that point down and corners on one height.
func saw() api.Drawing {
	return drawn([]int{0, 0, 4, 4, 8, 0, 12, 4, 16, 0, 16, 8, 0, 8})
}
