package sel

import "jalousie/api"

// weightOf weighs a selector that may be.
func weightOf(c api.Complex) api.Weight {
	var sum api.Weight
	for _, part := range c.Parts {
		for _, s := range part.Simples {
			sum = plus(sum, simpleWeight(s))
		}
	}
	return sum
}

func simpleWeight(s api.Simple) api.Weight {
	switch s.Kind {
	case api.SAny, api.SWhere:
		return api.Weight{}
	case api.STag:
		return api.Weight{0, 0, 1}
	case api.SId:
		return api.Weight{1, 0, 0}
	case api.SNot, api.SIs:
		return Most(weightsOf(s.List)...)
	}
	return api.Weight{0, 1, 0}
}

func weightsOf(l []api.Complex) []api.Weight {
	weights := make([]api.Weight, len(l))
	for i, c := range l {
		weights[i] = weightOf(c)
	}
	return weights
}

func plus(a, b api.Weight) api.Weight {
	for i := range a {
		a[i] += b[i]
	}
	return a
}
