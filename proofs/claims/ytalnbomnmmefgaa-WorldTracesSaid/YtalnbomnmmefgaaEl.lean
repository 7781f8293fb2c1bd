/- The element types of this seat's slices. -/
import Derived.Test.YtalnbomnmmefgaaRows
import Derived.Test.YtalnbomnmmefgaaLaws
namespace Go.Proofs.Ytalnbomnmmefgaa
theorem el8 : El Try.prog 22 5 (.int .u8 0) 1 := ⟨Try.underlying22, by kernel_rfl, rfl⟩
theorem elS : El Try.prog 38 22 (.slice none 0 0) 24 := ⟨Try.underlying38, by kernel_rfl, rfl⟩
end Go.Proofs.Ytalnbomnmmefgaa
