package strict

import "sloth/api"

// Weights, points and works are reckoned up to one more than MaxWork: what is greater is as good as that. Each of them is at least 1, so none becomes less again.

func plus(a, b int) int { return min(a+b, api.MaxWork+1) }

func times(a, b int) int { return min(a*b, api.MaxWork+1) }
