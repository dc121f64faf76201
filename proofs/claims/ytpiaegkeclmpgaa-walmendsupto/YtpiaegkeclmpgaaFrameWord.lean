/-
  Package frame: a word's four bytes, and the word of four bytes.
-/
import Derived.Test.YtpiaegkeclmpgaaFrameSum
namespace Go.Proofs.Ytpiaegkeclmpgaa.Fr
open Go.RowKit Cm
set_option linter.unusedVariables false

def str (l : List UInt8) : ByteArray := ⟨l.toArray⟩

theorem byte_of (m : Nat) : (m : Int) % 256 = ((UInt8.ofNat m).toNat : Int) := by rw [u8_nat]; omega
theorem conv4 (n : Nat) (h : n < 4294967296) (w : World) :
    (convert 62 9 (.slice (some ⟨w.heap.size, 0, none⟩) 4 4)).run Try.prog (w.alloc (.cells #[.int .u8 ((n : Int) / 16777216), .int .u8 ((n : Int) / 65536 % 256), .int .u8 ((n : Int) / 256 % 256), .int .u8 ((n : Int) % 256)] 5)) =
      .ok (.string (str (four n))) (w.alloc (.cells #[.int .u8 ((n : Int) / 16777216), .int .u8 ((n : Int) / 65536 % 256), .int .u8 ((n : Int) / 256 % 256), .int .u8 ((n : Int) % 256)] 5)) := by
  have e0 : (n : Int) / 16777216 = ((UInt8.ofNat (n / 16777216)).toNat : Int) := by rw [← byte_of]; omega
  have e1 : (n : Int) / 65536 % 256 = ((UInt8.ofNat (n / 65536)).toNat : Int) := by rw [← byte_of]; omega
  have e2 : (n : Int) / 256 % 256 = ((UInt8.ofNat (n / 256)).toNat : Int) := by rw [← byte_of]; omega
  rw [e0, e1, e2, byte_of]
  refine run_convert_bytes_back _ 62 9 5 ⟨w.heap.size, 0, none⟩ 4 (four n) Try.underlying62 Try.underlying5 Try.underlying9 fun j hj => ?_
  rw [Go.WideShapes.add_plain, cell_of_row _ _ _ _ _ _ (heap_alloc_new w _)]
  have hj4 : j < 4 := hj
  match j, hj4 with
  | 0, _ => rfl
  | 1, _ => rfl
  | 2, _ => rfl
  | 3, _ => rfl

set_option maxHeartbeats 500000 in
theorem wordText_any (n : Nat) (h : n < 4294967296) (w : World) :
    Calls Try.prog 33 #[.int .u32 n] w fun e w' => e = .returned (.string (str (four n))) ∧ Below w.heap.size w w' := by
  have hcv := conv4 n h w
  go_enter Try.func33, Try.ntmps33
  go_wp2
  go_ret
  exact ⟨rfl, (Below.refl _ _).alloc (Nat.le_refl _) _⟩

theorem or_add (i x y : Nat) (hy : y < 2 ^ i) (hx : 2 ^ i * x + y < 4294967296) : bits .or .u32 ((2 ^ i * x : Nat) : Int) (y : Int) = ((2 ^ i * x + y : Nat) : Int) := by
  rw [u32_or_nat _ _ (by omega) (by omega), Nat.two_pow_add_eq_or_of_lt hy x]
theorem or_word (a b c d : UInt8) : bits .or .u32 (bits .or .u32 (bits .or .u32 ((a.toNat : Int) % 4294967296 * 16777216 % 4294967296) ((b.toNat : Int) % 4294967296 * 65536 % 4294967296)) ((c.toNat : Int) % 4294967296 * 256 % 4294967296)) ((d.toNat : Int) % 4294967296) =
    ((a.toNat * 16777216 + b.toNat * 65536 + c.toNat * 256 + d.toNat : Nat) : Int) := by
  have ha := a.toNat_lt
  have hb := b.toNat_lt
  have hc := c.toNat_lt
  have hd := d.toNat_lt
  generalize a.toNat = a at *
  generalize b.toNat = b at *
  generalize c.toNat = c at *
  generalize d.toNat = d at *
  rw [show (a : Int) % 4294967296 * 16777216 % 4294967296 = ((2 ^ 24 * a : Nat) : Int) by omega, show (b : Int) % 4294967296 * 65536 % 4294967296 = ((b * 65536 : Nat) : Int) by omega, or_add 24 a (b * 65536) (by omega) (by omega),
    show 2 ^ 24 * a + b * 65536 = 2 ^ 16 * (256 * a + b) by omega, show (c : Int) % 4294967296 * 256 % 4294967296 = ((c * 256 : Nat) : Int) by omega, or_add 16 _ (c * 256) (by omega) (by omega),
    show 2 ^ 16 * (256 * a + b) + c * 256 = 2 ^ 8 * (256 * (256 * a + b) + c) by omega, show (d : Int) % 4294967296 = (d : Int) by omega, or_add 8 _ d (by omega) (by omega)]
  congr 1
  omega
theorem ret_int {k : IntKind} {a b : Int} (h : a = b) : Ending.returned (.int k a) = .returned (.int k b) := by rw [h]
theorem getD_byte (s : ByteArray) (k : Nat) (h : k < s.size) : s.data.toList.getD k 0 = s[k] := by
  rw [getD_lt _ _ _ (by simpa using h)]; rfl
theorem word_bytes (s : ByteArray) (hs : s.size = 4) : word s.data.toList = s[0].toNat * 16777216 + s[1].toNat * 65536 + s[2].toNat * 256 + s[3].toNat := by
  unfold word
  rw [getD_byte s 0 (by omega), getD_byte s 1 (by omega), getD_byte s 2 (by omega), getD_byte s 3 (by omega)]

set_option maxHeartbeats 500000 in
theorem word_any (s : ByteArray) (hs : s.size = 4) (w : World) :
    Calls Try.prog 50 #[.string s] w fun e w' => e = .returned (.int .u32 (word s.data.toList : Nat)) ∧ ∃ n, w' = w.drewN n := by
  have HW : Hid _ := word_bytes s hs
  go_enter Try.func50, Try.ntmps50
  go_wp2
  go_quiet (fail)
  go_wp2
  go_ret
  rw [HW.out]
  exact ⟨ret_int (or_word _ _ _ _), _, rfl⟩

end Go.Proofs.Ytpiaegkeclmpgaa.Fr
