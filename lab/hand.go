package lab

import (
	"strings"

	"dapple/api"
	"dapple/names"
	"dapple/world"
)

// hand is what is at hand while a script is done.
type hand struct {
	table *names.Table
	code  *api.Code    // nil: there is none
	world *world.World // nil: there is none
	goes  int          // so many starred commands may still be done
}

func newHand() *hand {
	table, _ := names.New()
	return &hand{table: table, goes: api.MaxGoes}
}

func (h *hand) isThere() bool { return true }

func (h *hand) hasCode() bool { return h.code != nil }

func (h *hand) hasWorld() bool { return h.world != nil }

// doAll does deeds, one behind the other; what they tell, as long as there is room for it.
func (h *hand) doAll(deeds []deed) string {
	var out strings.Builder
	left := api.MaxTold
	for _, d := range deeds {
		told := h.do(d)
		if len(told) > left {
			out.WriteString(tell("full"))
			continue
		}
		left -= len(told)
		out.WriteString(told)
	}
	return out.String()
}

// do does one deed; what it tells.
func (h *hand) do(d deed) string {
	if d.starred && h.goes == 0 {
		return tell("worn")
	}
	if d.starred {
		h.goes--
	}
	if !d.needs(h) {
		return tell("none")
	}
	return d.does(h, d.given)
}
