package nth

import "wattle/api"

// most is what stands for the numbers above it in spans.
const most = 1 << 62

// Span gives from which number on some An+B come round, and after how many.
func Span(list []api.AB) (head, round int) {
	round = 1
	for _, x := range list {
		head = max(head, spanHead(x))
		round = multiple(round, spanRound(x))
	}
	return head, round
}

// Fold gives the number that stands for one, where numbers come round.
func Fold(head, round, n int) int {
	if round < 1 || n <= head {
		return n
	}
	// By the remainder the first round's numbers stand for themselves, too: so it needn't be asked where that round ends, which may be more than an int holds. (So may be how far n is from a head below 0.)
	return head + 1 + int((uint(n)-uint(head)-1)%uint(round))
}

// spanHead gives the head of an An+B alone.
func spanHead(x api.AB) int {
	if x.A > 0 {
		return min(max(1, x.B)-1, most)
	}
	return min(max(0, x.B), most)
}

// spanRound gives the round of an An+B alone.
func spanRound(x api.AB) int {
	if x.A > most || x.A < -most {
		return most
	}
	return max(x.A, -x.A, 1)
}

// divisor gives the greatest common divisor of two numbers from 1 on.
func divisor(a, b int) int {
	for b > 0 {
		a, b = b, a%b
	}
	return a
}

// multiple gives the least common multiple of two numbers from 1 on.
func multiple(a, b int) int {
	times := a / divisor(a, b)
	if times > most/b {
		return most
	}
	return times * b
}
