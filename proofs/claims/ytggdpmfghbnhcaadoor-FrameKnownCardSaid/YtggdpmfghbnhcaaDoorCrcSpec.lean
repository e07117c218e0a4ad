/-
  CRC-32 as numbers: bit by bit, linear, telling any four bytes side by side.
-/
namespace Go.Proofs.YtggdpmfghbnhcaaDoor.Crc

def poly : Nat := 3988292384
def bitStep (c : Nat) : Nat := c / 2 ^^^ (if c % 2 = 1 then poly else 0)
def steps : Nat → Nat → Nat
  | 0, c => c
  | n + 1, c => steps n (bitStep c)
def byte (c : Nat) (v : UInt8) : Nat := steps 8 (c ^^^ v.toNat)
def run (c : Nat) (m : List UInt8) : Nat := m.foldl byte c
def ones : Nat := 4294967295
def crc (c : Nat) (m : List UInt8) : Nat := run (c ^^^ ones) m ^^^ ones
def restL : List Nat := [0x00000000, 0x1db71064, 0x3b6e20c8, 0x26d930ac, 0x76dc4190, 0x6b6b51f4, 0x4db26158, 0x5005713c,
  0xedb88320, 0xf00f9344, 0xd6d6a3e8, 0xcb61b38c, 0x9b64c2b0, 0x86d3d2d4, 0xa00ae278, 0xbdbdf21c]
theorem xor4 (a b c d : Nat) : a ^^^ b ^^^ (c ^^^ d) = a ^^^ c ^^^ (b ^^^ d) := by
  rw [Nat.xor_assoc, Nat.xor_assoc, ← Nat.xor_assoc b, ← Nat.xor_assoc c, Nat.xor_comm b c]
theorem bitStep_xor (a b : Nat) : bitStep (a ^^^ b) = bitStep a ^^^ bitStep b := by
  unfold bitStep
  rw [Nat.xor_div_two, xor4]
  congr 1
  have h := Nat.xor_mod_two_eq_one (a := a) (b := b)
  by_cases ha : a % 2 = 1 <;> by_cases hb : b % 2 = 1 <;> simp [h, ha, hb]
theorem steps_xor (n a b : Nat) : steps n (a ^^^ b) = steps n a ^^^ steps n b := by
  induction n generalizing a b with
  | zero => rfl
  | succ n ih => simp only [steps, bitStep_xor, ih]
theorem steps_add (n m a : Nat) : steps (n + m) a = steps m (steps n a) := by
  induction n generalizing a with
  | zero => simp [steps]
  | succ n ih => rw [show n + 1 + m = (n + m) + 1 from by omega]; simp only [steps, ih]
theorem bitStep_double (a : Nat) : bitStep (2 * a) = a := by
  unfold bitStep
  rw [if_neg (by omega)]; simp
theorem steps_shift (n a : Nat) : steps n (2 ^ n * a) = a := by
  induction n with
  | zero => simp [steps]
  | succ n ih => rw [show 2 ^ (n + 1) * a = 2 * (2 ^ n * a) from by rw [Nat.pow_succ]; ac_rfl]; simp only [steps, bitStep_double, ih]
theorem xor_split (n c : Nat) : c = 2 ^ n * (c / 2 ^ n) ^^^ c % 2 ^ n := by
  apply Nat.eq_of_testBit_eq
  intro i
  rw [Nat.testBit_xor, Nat.testBit_mod_two_pow, Nat.testBit_two_pow_mul, Nat.testBit_div_two_pow]
  by_cases h : i < n
  · simp [h, show ¬ n ≤ i from by omega]
  · simp [h, Nat.le_of_not_lt h, Nat.sub_add_cancel]
theorem nib_rest : ∀ k : Fin 16, steps 4 k.val = restL.getD k.val 0 := by decide +kernel
theorem nib (c : Nat) : steps 4 c = c / 16 ^^^ restL.getD (c % 16) 0 := by
  have h := xor_split 4 c
  have : steps 4 c = steps 4 (2 ^ 4 * (c / 2 ^ 4)) ^^^ steps 4 (c % 2 ^ 4) := by rw [← steps_xor, ← h]
  rw [this, steps_shift, nib_rest ⟨c % 2 ^ 4, Nat.mod_lt _ (by decide)⟩]
theorem poly_lt : poly < 2 ^ 32 := by decide
theorem bitStep_lt (c : Nat) (h : c < 4294967296) : bitStep c < 4294967296 := by
  unfold bitStep
  refine Nat.xor_lt_two_pow (n := 32) (by omega) ?_
  split <;> decide
theorem steps_lt (n c : Nat) (h : c < 4294967296) : steps n c < 4294967296 := by
  induction n generalizing c with
  | zero => exact h
  | succ n ih => exact ih _ (bitStep_lt c h)
theorem xor_lt (a b : Nat) (h : a < 4294967296) (k : b < 4294967296) : a ^^^ b < 4294967296 := Nat.xor_lt_two_pow (n := 32) h k
theorem byte_lt (c : Nat) (v : UInt8) (h : c < 4294967296) : byte c v < 4294967296 := steps_lt _ _ (xor_lt _ _ h (by have := v.toNat_lt; omega))
theorem run_lt (c : Nat) (m : List UInt8) (h : c < 4294967296) : run c m < 4294967296 := by
  induction m generalizing c with
  | nil => exact h
  | cons v m ih => exact ih _ (byte_lt c v h)
theorem crc_lt (c : Nat) (m : List UInt8) (h : c < 4294967296) : crc c m < 4294967296 := xor_lt _ _ (run_lt _ _ (xor_lt _ _ h (by decide))) (by decide)
theorem run_append (c : Nat) (a b : List UInt8) : run c (a ++ b) = run (run c a) b := by simp [run]
theorem xor_back (a b : Nat) : a ^^^ b ^^^ b = a := by rw [Nat.xor_assoc, Nat.xor_self, Nat.xor_zero]
theorem crc_append (c : Nat) (a b : List UInt8) : crc c (a ++ b) = crc (crc c a) b := by
  unfold crc; rw [xor_back, run_append]
theorem crc_nil (c : Nat) : crc c [] = c := by unfold crc; exact xor_back _ _
-- linear
def xorL (a b : List UInt8) : List UInt8 := List.zipWith (fun x y => x ^^^ y) a b
theorem byte_xor (c d : Nat) (u v : UInt8) : byte (c ^^^ d) (u ^^^ v) = byte c u ^^^ byte d v := by
  unfold byte; rw [UInt8.toNat_xor, xor4, steps_xor]
theorem run_xor (c d : Nat) (a b : List UInt8) (h : a.length = b.length) : run (c ^^^ d) (xorL a b) = run c a ^^^ run d b := by
  induction a generalizing b c d with
  | nil => cases b with
    | nil => rfl
    | cons _ _ => simp at h
  | cons u a ih => cases b with
    | nil => simp at h
    | cons v b => 
      simp only [xorL, List.zipWith_cons_cons, run, List.foldl_cons] at *
      rw [byte_xor]; exact ih _ _ b (by simpa using h)
theorem bitStep_inj (a b : Nat) (ha : a < 4294967296) (hb : b < 4294967296) (h : bitStep a = bitStep b) : a = b := by
  have hz : ∀ c, c < 4294967296 → bitStep c = 0 → c = 0 := by
    intro c hc h0
    unfold bitStep at h0
    by_cases h1 : c % 2 = 1
    · rw [if_pos h1] at h0
      have := congrArg (fun n => n.testBit 31) h0
      simp only [Nat.testBit_xor, Nat.zero_testBit] at this
      have hc2 : (c / 2).testBit 31 = false := Nat.testBit_lt_two_pow (by omega)
      rw [hc2] at this
      exact absurd this (by decide)
    · rw [if_neg h1] at h0
      simp at h0; omega
  have hx : a ^^^ b = 0 := hz _ (xor_lt _ _ ha hb) (by rw [bitStep_xor, h, Nat.xor_self])
  exact by
    have := xor_back a b; rw [hx, Nat.zero_xor] at this; exact this.symm
theorem steps_inj (n a b : Nat) (ha : a < 4294967296) (hb : b < 4294967296) (h : steps n a = steps n b) : a = b := by
  induction n generalizing a b with
  | zero => exact h
  | succ n ih => exact bitStep_inj a b ha hb (ih _ _ (bitStep_lt a ha) (bitStep_lt b hb) h)
theorem xor_zero_of {a b : Nat} (h : a ^^^ b = 0) : a = b := by
  have := xor_back a b; rw [h, Nat.zero_xor] at this; exact this.symm
theorem xor_cancel {a b c : Nat} (h : a ^^^ c = b ^^^ c) : a = b := by rw [← xor_back a c, h, xor_back]
/-- four bytes, the first lowest -/
def four (l : List UInt8) : Nat := (l.getD 0 0).toNat ^^^ 256 * ((l.getD 1 0).toNat ^^^ 256 * ((l.getD 2 0).toNat ^^^ 256 * (l.getD 3 0).toNat))
theorem mul256_xor (a b : Nat) : 256 * (a ^^^ b) = 256 * a ^^^ 256 * b := by
  have h := fun x => Nat.shiftLeft_eq x 8
  rw [show 256 * (a ^^^ b) = (a ^^^ b) <<< 8 from by rw [h]; omega, Nat.shiftLeft_xor_distrib, h, h]
  congr 1 <;> omega
theorem steps8_256 (a : Nat) : steps 8 (256 * a) = a := steps_shift 8 a
theorem run4 (c : Nat) (a b d e : UInt8) : run c [a, b, d, e] = steps 32 (c ^^^ (a.toNat ^^^ 256 * (b.toNat ^^^ 256 * (d.toNat ^^^ 256 * e.toNat)))) := by
  simp only [run, List.foldl_cons, List.foldl_nil, byte]
  rw [show (32 : Nat) = 8 + (8 + (8 + 8)) from rfl, steps_add, steps_add, steps_add]
  have k : ∀ x y z : Nat, steps 8 (x ^^^ (y ^^^ 256 * z)) = steps 8 (x ^^^ y) ^^^ z := fun x y z => by
    rw [← Nat.xor_assoc, steps_xor, steps8_256]
  rw [k, k, k]
theorem nat_xor_256 (a b c d : Nat) (ha : a < 256) (hc : c < 256) (h : a ^^^ 256 * b = c ^^^ 256 * d) : a = c ∧ b = d := by
  have e : ∀ x y : Nat, x < 256 → x ^^^ 256 * y = 256 * y + x := fun x y hx => by
    rw [Nat.xor_comm]
    have := xor_split 8 (256 * y + x)
    rw [show (256 * y + x) / 2 ^ 8 = y from by omega, show (256 * y + x) % 2 ^ 8 = x from by omega] at this
    exact this.symm
  rw [e a b ha, e c d hc] at h
  omega
theorem four_lt (a b d e : UInt8) : a.toNat ^^^ 256 * (b.toNat ^^^ 256 * (d.toNat ^^^ 256 * e.toNat)) < 4294967296 := by
  have := a.toNat_lt; have := b.toNat_lt; have := d.toNat_lt; have := e.toNat_lt
  have h1 : d.toNat ^^^ 256 * e.toNat < 2 ^ 16 := Nat.xor_lt_two_pow (by omega) (by omega)
  have h2 : b.toNat ^^^ 256 * (d.toNat ^^^ 256 * e.toNat) < 2 ^ 24 := Nat.xor_lt_two_pow (by omega) (by omega)
  exact Nat.xor_lt_two_pow (n := 32) (by omega) (by omega)
theorem run4_inj (c : Nat) (hc : c < 4294967296) (x y : List UInt8) (hx : x.length = 4) (hy : y.length = 4) (h : run c x = run c y) : x = y := by
  match x, y, hx, hy with
  | [a, b, d, e], [a', b', d', e'], _, _ =>
    rw [run4, run4] at h
    have h := steps_inj 32 _ _ (xor_lt _ _ hc (four_lt ..)) (xor_lt _ _ hc (four_lt ..)) h
    rw [Nat.xor_comm c, Nat.xor_comm c] at h
    have h := xor_cancel h
    obtain ⟨h1, h⟩ := nat_xor_256 _ _ _ _ a.toNat_lt a'.toNat_lt h
    obtain ⟨h2, h⟩ := nat_xor_256 _ _ _ _ b.toNat_lt b'.toNat_lt h
    obtain ⟨h3, h4⟩ := nat_xor_256 _ _ _ _ d.toNat_lt d'.toNat_lt h
    rw [UInt8.toNat_inj.1 h1, UInt8.toNat_inj.1 h2, UInt8.toNat_inj.1 h3, UInt8.toNat_inj.1 h4]
theorem run_inj (c d : Nat) (hc : c < 4294967296) (hd : d < 4294967296) (m : List UInt8) (h : run c m = run d m) : c = d := by
  induction m generalizing c d with
  | nil => exact h
  | cons v m ih =>
    have := ih _ _ (byte_lt c v hc) (byte_lt d v hd) h
    exact xor_cancel (steps_inj 8 _ _ (xor_lt _ _ hc (by have := v.toNat_lt; omega)) (xor_lt _ _ hd (by have := v.toNat_lt; omega)) this)
theorem crc_tells (p x y q : List UInt8) (hx : x.length = 4) (hy : y.length = 4) (h : crc 0 (p ++ x ++ q) = crc 0 (p ++ y ++ q)) : x = y := by
  unfold crc at h
  have h := xor_cancel h
  rw [run_append, run_append, run_append, run_append] at h
  have hp : run (0 ^^^ ones) p < 4294967296 := run_lt _ _ (by decide)
  exact run4_inj _ hp x y hx hy (run_inj _ _ (run_lt _ _ hp) (run_lt _ _ hp) q h)
theorem crc_linear (a b d : List UInt8) (hb : a.length = b.length) (hd : a.length = d.length) : crc 0 (xorL (xorL a b) d) = crc 0 a ^^^ crc 0 b ^^^ crc 0 d := by
  have hx : (xorL a b).length = d.length := by simp [xorL, ← hb, hd]
  have h1 := run_xor (0 ^^^ ones ^^^ (0 ^^^ ones)) (0 ^^^ ones) (xorL a b) d hx
  rw [run_xor _ _ a b hb, Nat.xor_self, Nat.zero_xor] at h1
  unfold crc
  rw [Nat.zero_xor] at h1 ⊢
  rw [h1]
  generalize run ones a = A; generalize run ones b = B; generalize run ones d = D
  rw [xor4 A ones B ones, Nat.xor_self, Nat.xor_zero, ← Nat.xor_assoc]
/-- the reference takes a byte's bits one by one -/
def refSteps (v : Nat) : Nat → Nat → Nat
  | 0, c => c
  | n + 1, c => let c := refSteps v n c; c / 2 ^^^ (if (c ^^^ v / 2 ^ n) % 2 = 1 then poly else 0)
theorem steps_last (n c : Nat) : steps (n + 1) c = bitStep (steps n c) := by rw [steps_add]; rfl
theorem refSteps_eq (v c n : Nat) : refSteps v n c = steps n (c ^^^ v) ^^^ v / 2 ^ n := by
  induction n with
  | zero => simp [refSteps, steps, xor_back]
  | succ n ih =>
    simp only [refSteps, ih, xor_back, steps_last, bitStep]
    rw [Nat.xor_div_two, Nat.div_div_eq_div_mul, ← Nat.pow_succ, Nat.xor_assoc, Nat.xor_assoc]
    congr 1
    rw [Nat.xor_comm]
theorem refSteps_byte (c : Nat) (v : UInt8) : refSteps v.toNat 8 c = byte c v := by
  rw [refSteps_eq, Nat.div_eq_of_lt (by have := v.toNat_lt; omega), Nat.xor_zero]; rfl
theorem run_next (c : Nat) (m : List UInt8) (k : Nat) (h : k < m.length) : byte (run c (m.take k)) (m.getD k 0) = run c (m.take (k + 1)) := by
  have : m.take (k + 1) = m.take k ++ [m.getD k 0] := by rw [List.take_add_one]; simp [h]
  rw [this, run_append]; rfl
end Go.Proofs.YtggdpmfghbnhcaaDoor.Crc
