/- The element types of this seat's slices. -/
import Derived.Test.YtmiobgongddaiaaRows
import Derived.Test.YtmiobgongddaiaaLaws
namespace Go.Proofs.Ytmiobgongddaiaa
theorem el8 : El Try.prog 27 5 (.int .u8 0) 1 := ⟨Try.underlying27, by kernel_rfl, rfl⟩
theorem elI : El Try.prog 25 3 (.int .i64 0) 8 := ⟨Try.underlying25, by kernel_rfl, rfl⟩
end Go.Proofs.Ytmiobgongddaiaa
