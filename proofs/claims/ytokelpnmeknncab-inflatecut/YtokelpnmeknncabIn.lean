/- Two lists held against each other. -/
import Derived.Test.YtokelpnmeknncabCl
import Derived.Test.YtokelpnmeknncabRd
import Derived.BigQuiet
namespace Go.Proofs.Ytokelpnmeknncab
open Go.RowKit

end Go.Proofs.Ytokelpnmeknncab
