package earshot

import (
	"earshot/api"
	"earshot/cluster"
	"earshot/roster"
	"earshot/script"
)

// scene is what a script says.
type scene struct {
	nodes  roster.Roster
	faults int
	steps  []api.Step
}

// read reads a script; with an error its line.
func read(text string) (scene, api.Errno, int) {
	rules, steps, e, line := script.Parse(text)
	if e != api.OK {
		return scene{}, e, line
	}
	// Parse has refused whatever signs a roster refuses.
	nodes, _, _ := roster.Read(rules.Signs)
	return scene{nodes: nodes, faults: rules.F, steps: steps}, api.OK, 0
}

// open makes the cluster on which a script plays; ErrArg.
func (s scene) open() (*cluster.Cluster, api.Errno) {
	return cluster.New(s.nodes.Size(), s.faults)
}

// begin tells a script's cluster, ahead of its steps, and these; with an error its line.
func begin(text string) (*cluster.Cluster, []api.Step, api.Errno, int) {
	s, e, line := read(text)
	if e != api.OK {
		return nil, nil, e, line
	}
	c, e := s.open()
	if e != api.OK {
		return nil, nil, e, 0
	}
	return c, s.steps, api.OK, 0
}

// sights tells what is seen of each node.
func sights(c *cluster.Cluster) []api.Sight {
	var l []api.Sight
	for id := range c.Size() {
		seen, _ := c.Sight(id)
		l = append(l, seen)
	}
	return l
}
