package reduce

// UnusedName is known to the tests, so that they can use the very names that steps choose.
var UnusedName = unusedName
