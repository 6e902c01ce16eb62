// Package bounds reckons with the numbers from 0 to Most, as the layers' bounds are told.
package bounds

// Most is what stands for the numbers above it.
const Most = 1 << 62

// Times multiplies two numbers.
func Times(a, b int) int {
	if b != 0 && a > Most/b {
		return Most
	}
	return a * b
}

// Plus adds two numbers.
func Plus(a, b int) int {
	if a > Most-b {
		return Most
	}
	return a + b
}
