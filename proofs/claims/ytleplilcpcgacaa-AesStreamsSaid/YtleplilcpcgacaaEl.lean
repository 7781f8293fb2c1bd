/- The element types of this seat's slices. -/
import Derived.Test.YtleplilcpcgacaaRows
import Derived.Test.YtleplilcpcgacaaLaws
namespace Go.Proofs.Ytleplilcpcgacaa
theorem el8 : El Try.prog 42 5 (.int .u8 0) 1 := ⟨Try.underlying42, by kernel_rfl, rfl⟩
theorem elI : El Try.prog 25 3 (.int .i64 0) 8 := ⟨Try.underlying25, by kernel_rfl, rfl⟩
end Go.Proofs.Ytleplilcpcgacaa
