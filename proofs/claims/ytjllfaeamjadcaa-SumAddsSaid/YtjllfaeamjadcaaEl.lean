/- The element types of this seat's slices. -/
import Derived.Test.YtjllfaeamjadcaaRows
import Derived.Test.YtjllfaeamjadcaaLaws
namespace Go.Proofs.Ytjllfaeamjadcaa
theorem el8 : El Try.prog 27 5 (.int .u8 0) 1 := ⟨Try.underlying27, by kernel_rfl, rfl⟩
theorem el32 : El Try.prog 80 70 (.int .u32 0) 4 := ⟨Try.underlying80, by kernel_rfl, rfl⟩
theorem elS : El Try.prog 57 27 (.slice none 0 0) 24 := ⟨Try.underlying57, by kernel_rfl, rfl⟩
end Go.Proofs.Ytjllfaeamjadcaa
