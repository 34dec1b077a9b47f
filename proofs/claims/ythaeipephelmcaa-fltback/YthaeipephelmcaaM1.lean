/- flt's calls, as the walks need them. -/
import Derived.Test.YthaeipephelmcaaM1a
import Derived.Test.YthaeipephelmcaaM1b
namespace Go.Proofs.Ythaeipephelmcaa
theorem flt_kept : FltKept := ⟨nan_any, clean_any, key_any, bits_any, compare_any, whole_any⟩
end Go.Proofs.Ythaeipephelmcaa
