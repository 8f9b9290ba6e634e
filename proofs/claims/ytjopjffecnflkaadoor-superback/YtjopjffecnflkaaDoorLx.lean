/- What check sums come to: plain numbers and strings, no program. -/
import Derived.Test.YtjopjffecnflkaaDoorMc
namespace Go.Proofs.YtjopjffecnflkaaDoor
namespace Cr

/-- Sealed bytes. -/
def sealOf (s : ByteArray) : ByteArray := s ++ str (four (more 0 (bs s)))
theorem sealOf_size (s : ByteArray) : (sealOf s).size = s.size + 4 := by
  unfold sealOf
  rw [ByteArray.size_append, str_size]
  rfl
theorem bs_sealOf (s : ByteArray) : bs (sealOf s) = bs s ++ four (more 0 (bs s)) := by
  unfold sealOf
  rw [bs_append, bs_str (four_lt _)]
theorem sum_sealOf (s : ByteArray) : more 0 (bs (sealOf s)) = flip32 (stN 32 4294967295) := by
  have hr := reg_lt (bs s) (flip32_lt 0) (bs_lt s)
  rw [bs_sealOf]
  show flip32 (reg (flip32 0) (bs s ++ four (flip32 (reg (flip32 0) (bs s))))) = _
  rw [reg_append, (reg_sealed hr (flip32_lt _)).2 rfl]

end Cr
end Go.Proofs.YtjopjffecnflkaaDoor
