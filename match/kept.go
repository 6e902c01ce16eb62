package match

// page is how many elements' answers are kept side by side: what is asked of one is mostly asked of those near it, too.
const page = 64

// kept keeps answers to questions about elements; 0 is none so far.
type kept[Q comparable] map[about[Q]]*[page]int32

type about[Q comparable] struct {
	question Q
	page     int
}

// of gives where the answer to a question about an element is kept.
func (k kept[Q]) of(question Q, n int) *int32 {
	at := about[Q]{question: question, page: n / page}
	list, ok := k[at]
	if !ok {
		list = &[page]int32{}
		k[at] = list
	}
	return &list[n%page]
}
