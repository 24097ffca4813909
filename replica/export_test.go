package replica

// SetTick lets a Replica be at a tick. Without it there is no way to many Replicas near MaxNum but through all ticks below.
func SetTick(r *Replica, tick int) { r.all.tick = tick }
