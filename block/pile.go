package block

import "scrim/fixed"

// together tells margins, borders and paddings at two sides, together.
func together(x Sides, first, second int) (int64, bool) {
	var numbers []int64
	for _, sides := range [3][4]int64{x.Margin, x.Border, x.Padding} {
		numbers = append(numbers, sides[first], sides[second])
	}
	return fixed.Sum(numbers)
}

// pile is what stands one below the other, so far.
type pile struct {
	begins []int64
	end    int64 // of the last one
	cut    bool  // some number wasn't exact
}

// put puts one below all, so far below the last one's end.
func (p *pile) put(high, below int64) {
	begin := p.number(fixed.Add(p.end, below))
	p.begins = append(p.begins, begin)
	p.end = p.number(fixed.Add(begin, high))
}

func (p *pile) number(n int64, exact bool) int64 {
	p.cut = p.cut || !exact
	return n
}
