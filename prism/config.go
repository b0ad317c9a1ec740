package prism

import "prism/api"

// isConfig tells whether c keeps to every bound of a configuration.
func isConfig(c api.Config) bool {
	switch {
	case c.Kind != api.Counter && c.Kind != api.Pool:
		return false
	case c.Depth < 0 || c.Depth > api.MaxDepth:
		return false
	case c.Start < 0 || c.Start > c.Depth:
		return false
	case c.Slots < 1 || c.Slots > api.MaxSlots:
		return false
	case c.Width < 1 || c.Width > api.MaxWidth:
		return false
	case c.Spin < 0 || c.Spin > api.MaxSpin:
		return false
	case c.Drain < 0 || c.Drain > api.MaxDrain:
		return false
	case c.Procs < 1 || c.Procs > api.MaxProcs:
		return false
	}
	return true
}

// hasOp tells whether a tree of the configuration c has the operation o.
func hasOp(c api.Config, o api.Op) bool {
	switch o.Kind {
	case api.Inc:
		return c.Kind == api.Counter
	case api.Put, api.Get:
		return c.Kind == api.Pool
	case api.Fold, api.Unfold:
		return o.Node >= 1 && o.Node < firstOfDepth(c.Depth)
	}
	return false
}
