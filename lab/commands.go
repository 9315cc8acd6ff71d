package lab

// command is a row of the chapter's table.
type command struct {
	starred bool
	needs   func(h *hand) bool                 // whether what it needs is at hand
	takes   func(r *reader, rest string) given // what stands behind its word
	does    func(h *hand, g given) string      // what it tells
}

// commands are all of them, by their words.
func commands() map[string]command {
	const starred = true
	nothing, code, world := (*hand).isThere, (*hand).hasCode, (*hand).hasWorld
	none, one, two, more := (*reader).takesNothing, (*reader).takesOne, (*reader).takesTwo, (*reader).takesTwoAndMore
	return map[string]command{
		"source":  {starred, nothing, (*reader).takesSource, (*hand).makeCode},
		"data":    {!starred, nothing, (*reader).takesText, (*hand).data},
		"names":   {!starred, nothing, none, (*hand).names},
		"code":    {!starred, code, none, (*hand).codeText},
		"world":   {starred, code, two, (*hand).makeWorld},
		"baton":   {starred, code, more, (*hand).handBaton},
		"start":   {!starred, world, one, (*hand).start},
		"collect": {!starred, world, none, (*hand).collect},
		"ready":   {!starred, world, none, (*hand).ready},
		"pick":    {!starred, world, one, (*hand).pick},
		"settle":  {starred, world, one, (*hand).settle},
		"phase":   {!starred, world, none, (*hand).phase},
		"heap":    {!starred, world, none, (*hand).heap},
		"free":    {!starred, world, none, (*hand).free},
		"waiting": {!starred, world, none, (*hand).waiting},
		"roots":   {!starred, world, none, (*hand).roots},
		"globals": {!starred, world, none, (*hand).globals},
		"ended":   {!starred, world, one, (*hand).ended},
		"show":    {!starred, world, one, (*hand).show},
		"live":    {!starred, world, none, (*hand).live},
		"holds":   {!starred, world, none, (*hand).holds},
		"par":     {starred, world, one, (*hand).par},
	}
}
