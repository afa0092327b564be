package order

import "pantoscope/api"

// checkOrder tells what is wrong with what an invoice is made of.
func checkOrder(l []api.Price, rates []api.Rate, f api.Form) api.Errno {
	if !ValidPrices(l) {
		return api.ErrPrices
	}
	if !ValidRates(rates) {
		return api.ErrRate
	}
	if !ValidForm(f) {
		return api.ErrForm
	}
	return api.OK
}

// amount is that of a line of a form: the price is one for so many pieces as all lines of the form have of the model.
func amount(l []api.Price, rates []api.Rate, f api.Form, line api.Line) (int, api.Errno) {
	steps, err := stepsOf(l, line.Model, f.Day)
	if err != api.OK {
		return 0, err
	}
	price := centsFor(steps, pieces(f.Lines, line.Model))
	return converted(rates, f.Currency, f.Day, price*line.Count)
}

// pieces is how many pieces of a model lines have together.
func pieces(lines []api.Line, model string) int {
	n := 0
	for _, l := range lines {
		if l.Model == model {
			n += l.Count
		}
	}
	return n
}

// merged returns lines with the same Model, Colour and Size as one.
func merged(lines []api.Line) []api.Line {
	var list []api.Line
	places := map[api.Line]int{} // by line without its Count
	for _, l := range lines {
		thing := l
		thing.Count = 0
		if place, ok := places[thing]; ok {
			list[place].Count += l.Count
			continue
		}
		places[thing] = len(list)
		list = append(list, l)
	}
	return list
}
