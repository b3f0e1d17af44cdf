package option

import "parquet/api"

// among tells whether all numbers are from low to high.
func among(low, high int, numbers ...int) bool {
	for _, n := range numbers {
		if n < low || n > high {
			return false
		}
	}
	return true
}

// side tells whether n is a square's: a power of 2 has one bit alone, so nothing is left of it without its lowest one.
func side(n int) bool {
	return among(1, api.Side, n) && n&(n-1) == 0
}
