package whole_test

import (
	"os"
	"runtime/debug"
	"testing"
)

// TestMain lets the memory be swept less often, as plays make much of it and keep little.
func TestMain(m *testing.M) {
	debug.SetGCPercent(1000)
	os.Exit(m.Run())
}
