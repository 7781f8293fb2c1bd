/- The element types of this seat's slices. -/
import Derived.Test.YtgkeckfiacdpkaaDoorRows
import Derived.Test.YtgkeckfiacdpkaaDoorLaws
namespace Go.Proofs.YtgkeckfiacdpkaaDoor
theorem el8 : El Tryd.prog 22 5 (.int .u8 0) 1 := ⟨Tryd.underlying22, by kernel_rfl, rfl⟩
theorem elI : El Tryd.prog 24 3 (.int .i64 0) 8 := ⟨Tryd.underlying24, by kernel_rfl, rfl⟩
end Go.Proofs.YtgkeckfiacdpkaaDoor
