/- The element types of this seat's slices. -/
import Derived.Test.YtnpodomdagodbaaRows
import Derived.Test.YtnpodomdagodbaaLaws
namespace Go.Proofs.Ytnpodomdagodbaa
theorem el8 : El Try.prog 23 5 (.int .u8 0) 1 := ⟨Try.underlying23, by kernel_rfl, rfl⟩
theorem el32 : El Try.prog 60 50 (.int .u32 0) 4 := ⟨Try.underlying60, by kernel_rfl, rfl⟩
theorem elS : El Try.prog 22 23 (.slice none 0 0) 24 := ⟨Try.underlying22, by kernel_rfl, rfl⟩
end Go.Proofs.Ytnpodomdagodbaa
