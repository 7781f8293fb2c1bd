/- The element types of this seat's slices. -/
import Derived.Test.YtaedlaeflliibaaRows
import Derived.Test.YtaedlaeflliibaaLaws
namespace Go.Proofs.Ytaedlaeflliibaa
theorem el8 : El Try.prog 23 5 (.int .u8 0) 1 := ⟨Try.underlying23, by kernel_rfl, rfl⟩
theorem elS : El Try.prog 71 23 (.slice none 0 0) 24 := ⟨Try.underlying71, by kernel_rfl, rfl⟩
theorem elI : El Try.prog 83 3 (.int .i64 0) 8 := ⟨Try.underlying83, by kernel_rfl, rfl⟩
end Go.Proofs.Ytaedlaeflliibaa
