package conv

// counter counts how many steps are left.
type counter struct {
	left int
}

// outOfFuel is what a comparison panics with that is out of fuel.
type outOfFuel struct{}

// pay takes steps away.
func (c *counter) pay(steps int) {
	if steps > c.left {
		c.giveUp()
	}
	c.left -= steps
}

// giveUp leaves the comparison.
func (c *counter) giveUp() {
	panic(outOfFuel{})
}
