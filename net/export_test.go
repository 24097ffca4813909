package net

// Behind is a new Net whose last number was last, without a copy. Without it there is no way to many Nets near MaxNum but through all numbers below.
func Behind(last int) *Net { return &Net{last: last} }
