/-
  An arena: where its parts begin, which budgets fit, what a call refuses, how it lies in memory. No program stands here.
-/
import Derived.Test.YtkdpdbjefehmpaaBaseC
import Derived.Test.YtkdpdbjefehmpaaLaw
import Derived.Test.YtkdpdbjefehmpaaCuts
import Derived.Test.YtkdpdbjefehmpaaAppend
import Derived.Deep.AppendLies
import Derived.Laws.MakeOwn
import Derived.Laws.CopyRow
import Derived.Laws.IdiomCopy
namespace Go.Proofs.Ytkdpdbjefehmpaa.Arena
open Go.RowKit Base

/-- where part k begins -/
def cut (L : List Int) (k : Nat) : Int := (L.take k).sum
theorem cut_zero (L : List Int) : cut L 0 = 0 := by simp [cut]
theorem cut_succ (L : List Int) (k : Nat) (h : k < L.length) : cut L (k + 1) = cut L k + L.getD k 0 := by
  unfold cut
  have : L.take (k + 1) = L.take k ++ [L.getD k 0] := by rw [List.take_add_one]; simp [h]
  rw [this, List.sum_append]
  simp
theorem cut_le (L : List Int) (hp : ∀ k, k < L.length → 0 ≤ L.getD k 0) (j : Nat) : ∀ d, j + d ≤ L.length → cut L j ≤ cut L (j + d) := by
  intro d
  induction d with
  | zero => intro _; exact Int.le_refl _
  | succ d ih =>
    intro h
    have h1 := ih (by omega)
    have h2 := cut_succ L (j + d) (by omega)
    have h3 := hp (j + d) (by omega)
    rw [show j + (d + 1) = j + d + 1 by omega, h2]
    omega
/-- budgets that an arena of that size takes -/
structure Fits (size : Int) (L : List Int) : Prop where
  s0 : 0 ≤ size
  s1 : size ≤ 65536
  n : L.length ≤ 64
  pos : ∀ k, k < L.length → 0 ≤ L.getD k 0
  sum : cut L L.length ≤ size
theorem Fits.mono {size : Int} {L : List Int} (h : Fits size L) {j k : Nat} (hj : j ≤ k) (hk : k ≤ L.length) : cut L j ≤ cut L k := by
  have := cut_le L h.pos j (k - j) (by omega)
  rwa [show j + (k - j) = k by omega] at this
theorem Fits.zero {size : Int} {L : List Int} (h : Fits size L) {k : Nat} (hk : k ≤ L.length) : 0 ≤ cut L k := by
  have := h.mono (Nat.zero_le k) hk
  rwa [cut_zero] at this
theorem Fits.le {size : Int} {L : List Int} (h : Fits size L) {k : Nat} (hk : k ≤ L.length) : cut L k ≤ size := Int.le_trans (h.mono hk (Nat.le_refl _)) h.sum
theorem Fits.size {size : Int} {L : List Int} (h : Fits size L) : ∃ n : Nat, size = (n : Int) ∧ n ≤ 65536 := by
  obtain ⟨n, hn⟩ := Int.eq_ofNat_of_zero_le h.s0
  exact ⟨n, hn, by have := h.s1; omega⟩
/-- the error of a Read or a Write -/
def perr (L : List Int) (i at_ n : Int) : Int := if i < 0 ∨ (L.length : Int) ≤ i then 1 else if at_ < 0 ∨ n < 0 ∨ L.getD i.toNat 0 - at_ < n then 9 else 0
theorem perr_none {L : List Int} {i at_ n : Int} (h : i < 0 ∨ (L.length : Int) ≤ i) : perr L i at_ n = 1 := if_pos h
theorem perr_over {L : List Int} {at_ n : Int} (k : Nat) (hk : k < L.length) (h : at_ < 0 ∨ n < 0 ∨ L.getD k 0 - at_ < n) : perr L (k : Int) at_ n = 9 := by
  unfold perr
  rw [if_neg (by omega), Int.toNat_natCast, if_pos h]
theorem perr_in {L : List Int} (k at_ n : Nat) (hk : k < L.length) (h : (n : Int) ≤ L.getD k 0 - (at_ : Int)) : perr L (k : Int) (at_ : Int) (n : Int) = 0 := by
  unfold perr
  rw [if_neg (by omega), Int.toNat_natCast, if_neg (by omega)]
theorem perr_iff {L : List Int} {i at_ n : Int} (h : perr L i at_ n = 0) : ∃ k a m : Nat, i = (k : Int) ∧ at_ = (a : Int) ∧ n = (m : Int) ∧ k < L.length ∧ (m : Int) ≤ L.getD k 0 - (a : Int) := by
  unfold perr at h
  split at h
  · cases h
  · split at h
    · cases h
    · rename_i h1 h2
      obtain ⟨k, rfl⟩ := Int.eq_ofNat_of_zero_le (show 0 ≤ i by omega)
      obtain ⟨a, rfl⟩ := Int.eq_ofNat_of_zero_le (show 0 ≤ at_ by omega)
      obtain ⟨m, rfl⟩ := Int.eq_ofNat_of_zero_le (show 0 ≤ n by omega)
      rw [Int.toNat_natCast] at h2
      exact ⟨k, a, m, rfl, rfl, rfl, by omega, by omega⟩
/-- the first byte of a place in a part -/
def place (L : List Int) (k at_ : Nat) : Nat := (cut L k).toNat + at_
theorem place_int {size : Int} {L : List Int} (h : Fits size L) (k at_ : Nat) (hk : k < L.length) : cut L k + (at_ : Int) = (place L k at_ : Nat) := by
  have := h.zero (k := k) (by omega)
  unfold place
  omega
theorem place_le {size : Nat} {L : List Int} (h : Fits (size : Int) L) (k at_ n : Nat) (hk : k < L.length) (hn : (n : Int) ≤ L.getD k 0 - (at_ : Int)) : place L k at_ + n ≤ size := by
  have h1 := place_int h k at_ hk
  have h2 := cut_succ L k hk
  have h3 := h.le (k := k + 1) hk
  omega
/-- bytes written at a place -/
def putAt (bs : List UInt8) (p : Nat) (x : List UInt8) : List UInt8 := bs.take p ++ x ++ bs.drop (p + x.length)
theorem putAt_length (bs : List UInt8) (p : Nat) (x : List UInt8) (h : p + x.length ≤ bs.length) : (putAt bs p x).length = bs.length := by simp [putAt]; omega
theorem splice_putAt (bs : List UInt8) (p : Nat) (x : List UInt8) : splice (bvals bs) p (bvals x) = bvals (putAt bs p x) := by
  simp [splice, putAt, bvals]
theorem putAt_get (bs : List UInt8) (p : Nat) (x : List UInt8) (h : p + x.length ≤ bs.length) (j : Nat) : (putAt bs p x)[j]? = if p ≤ j ∧ j < p + x.length then x[j - p]? else bs[j]? := splice_get bs x p j h
theorem putAt_cut (bs : List UInt8) (p : Nat) (x : List UInt8) (h : p + x.length ≤ bs.length) : ((putAt bs p x).drop p).take x.length = x := by
  have : (bs.take p).length = p := by simp; omega
  simp [putAt, List.append_assoc, List.drop_append, this]
theorem putAt_nil (bs : List UInt8) (p : Nat) : putAt bs p [] = bs := by simp [putAt]

/-- an arena's object lies at g, its bytes at pb, its cuts at cb, all of them from block B on -/
structure AreAt (w : World) (B : Nat) (t tb : TypeId) (g pb cb : Nat) (L : List Int) (bs : List UInt8) : Prop where
  obj : ∃ C, L.length + 1 ≤ C ∧ w.rowIs g t 2 (fun i => if i = 0 then .slice (some ⟨pb, 0, none⟩) bs.length bs.length else .slice (some ⟨cb, 0, none⟩) (L.length + 1) C)
  bytes : w.heap[pb]? = some (.cells (bvals bs).toArray tb (0, 0))
  cuts : ∀ k, k ≤ L.length → w.cell? ⟨cb, k, none⟩ = some (.int .i64 (cut L k))
  gB : B ≤ g
  pB : B ≤ pb
  cB : B ≤ cb
  ne1 : g ≠ pb
  ne2 : cb ≠ pb
  fits : Fits (bs.length : Int) L
namespace AreAt
variable {w w' : World} {B : Nat} {t tb : TypeId} {g pb cb : Nat} {L : List Int} {bs : List UInt8}
theorem cb_lt (h : AreAt w B t tb g pb cb L bs) : cb < w.heap.size := World.block_lt_of_cell? w _ (h.cuts 0 (Nat.zero_le _))
theorem pb_lt (h : AreAt w B t tb g pb cb L bs) : pb < w.heap.size := lt_of_heap h.bytes
theorem g_lt (h : AreAt w B t tb g pb cb L bs) : g < w.heap.size := by obtain ⟨_, _, hr⟩ := h.obj; exact hr.lt
theorem fr {S : Nat → Prop} (h : AreAt w B t tb g pb cb L bs) (hf : Fr S w w') (h1 : ¬ S g) (h2 : ¬ S pb) (h3 : ¬ S cb) : AreAt w' B t tb g pb cb L bs := by
  obtain ⟨C, hC, hr⟩ := h.obj
  exact ⟨⟨C, hC, hf.row hr h1⟩, hf.heap h.bytes h2, fun k hk => (hf.cell (p := ⟨cb, k, none⟩) h.cb_lt h3).trans (h.cuts k hk), h.gB, h.pB, h.cB, h.ne1, h.ne2, h.fits⟩
theorem fr0 (h : AreAt w B t tb g pb cb L bs) (hf : Fr0 w w') : AreAt w' B t tb g pb cb L bs := h.fr hf (fun f => f) (fun f => f) (fun f => f)
theorem base {B' : Nat} (h : AreAt w B t tb g pb cb L bs) (hB : B' ≤ B) : AreAt w B' t tb g pb cb L bs :=
  ⟨h.obj, h.bytes, h.cuts, Nat.le_trans hB h.gB, Nat.le_trans hB h.pB, Nat.le_trans hB h.cB, h.ne1, h.ne2, h.fits⟩
/-- its bytes have turned -/
theorem turned {bs' : List UInt8} (h : AreAt w B t tb g pb cb L bs) (hf : Fr1 pb w w') (hb : w'.heap[pb]? = some (.cells (bvals bs').toArray tb (0, 0))) (hl : bs'.length = bs.length) : AreAt w' B t tb g pb cb L bs' := by
  obtain ⟨C, hC, hr⟩ := h.obj
  exact ⟨⟨C, hC, by rw [hl]; exact hf.row hr h.ne1⟩, hb, fun k hk => (hf.cell (p := ⟨cb, k, none⟩) h.cb_lt h.ne2).trans (h.cuts k hk), h.gB, h.pB, h.cB, h.ne1, h.ne2, by rw [hl]; exact h.fits⟩
theorem cell0 (h : AreAt w B t tb g pb cb L bs) : w.cell? ⟨g, 0, none⟩ = some (.slice (some ⟨pb, 0, none⟩) bs.length bs.length) := by
  obtain ⟨C, _, hr⟩ := h.obj
  exact hr.cell (i := 0) (by decide)
theorem cell1 (h : AreAt w B t tb g pb cb L bs) : ∃ C, L.length + 1 ≤ C ∧ w.cell? ⟨g, 1, none⟩ = some (.slice (some ⟨cb, 0, none⟩) (L.length + 1) C) := by
  obtain ⟨C, hC, hr⟩ := h.obj
  exact ⟨C, hC, hr.cell (i := 1) (by decide)⟩
theorem all (h : AreAt w B t tb g pb cb L bs) : BytesIs w (.slice (some ⟨pb, 0, none⟩) bs.length bs.length) bs := BytesIs.block h.bytes _ _ rfl (Nat.le_refl _)
end AreAt
/-- a cut of a whole slice, both ends told -/
theorem cut_lh_at {P : Program} (t e : TypeId) (ht : P.underlying t = some (.slice e)) (hs : (P.info? e).map (·.size) = some 1) (g n cap lo hi : Nat) (l h : Int) (hl : l = (lo : Int)) (hh : h = (hi : Int)) (h1 : lo ≤ hi) (h2 : hi ≤ cap) :
    ∃ A : Option Addr, (0 < hi - lo → A = some ⟨g, lo, none⟩) ∧ ∀ wx : World, (Instr.sliceAt t (.slice (some ⟨g, 0, none⟩) n cap) (some (.int .i64 l)) (some (.int .i64 h)) none).run P wx = .ok (.slice A (hi - lo) (cap - lo)) wx := by
  subst hl hh
  obtain ⟨i, hi', hz⟩ : ∃ i, P.info? e = some i ∧ i.size = 1 := by
    cases hq : P.info? e with
    | none => simp [hq] at hs
    | some i => exact ⟨i, rfl, by simpa [hq] using hs⟩
  have hE : P.elem t = e := by simp [Program.elem, ht]
  refine ⟨if cap = lo then some ⟨g, 0, none⟩ else some ⟨g, lo, none⟩, fun h0 => if_neg (by omega), fun wx => ?_⟩
  rw [run_sliceAt_slice wx t _ _ _ _ (by rw [hE]; exact ht), run_slice_lh wx t (some ⟨g, 0, none⟩) n cap (by rw [hE]; exact ht) .i64 .i64 (lo : Int) (hi : Int) (by omega) (by omega) (by omega), hE]
  by_cases h0 : lo = 0 <;> simp [sizeOf, typeInfo, hi', hz, sliced, Sem.run_bind, Addr.add, h0]
/-- .. the lower end alone -/
theorem cut_l_at {P : Program} (t e : TypeId) (ht : P.underlying t = some (.slice e)) (hs : (P.info? e).map (·.size) = some 1) (g n cap lo : Nat) (l : Int) (hl : l = (lo : Int)) (h1 : lo ≤ n) (h2 : n ≤ cap) :
    ∃ A : Option Addr, (0 < n - lo → A = some ⟨g, lo, none⟩) ∧ ∀ wx : World, (Instr.sliceAt t (.slice (some ⟨g, 0, none⟩) n cap) (some (.int .i64 l)) none none).run P wx = .ok (.slice A (n - lo) (cap - lo)) wx := by
  subst hl
  obtain ⟨i, hi', hz⟩ : ∃ i, P.info? e = some i ∧ i.size = 1 := by
    cases hq : P.info? e with
    | none => simp [hq] at hs
    | some i => exact ⟨i, rfl, by simpa [hq] using hs⟩
  have hE : P.elem t = e := by simp [Program.elem, ht]
  refine ⟨if cap = lo then some ⟨g, 0, none⟩ else some ⟨g, lo, none⟩, fun h0 => if_neg (by omega), fun wx => ?_⟩
  rw [run_sliceAt_slice wx t _ _ _ _ (by rw [hE]; exact ht), run_slice_l wx t (some ⟨g, 0, none⟩) n cap (by rw [hE]; exact ht) .i64 (lo : Int) (by omega) (by omega), hE]
  by_cases h0 : lo = 0 <;> simp [sizeOf, typeInfo, hi', hz, sliced, Sem.run_bind, Addr.add, h0]
/-- bytes of a block, read as a cut of it -/
theorem bytes_at {w : World} {pb : Nat} {bs : List UInt8} {tb : TypeId} (h : w.heap[pb]? = some (.cells (bvals bs).toArray tb (0, 0))) (p m C : Nat) (A : Option Addr) (hA : 0 < m → A = some ⟨pb, p, none⟩) (hC : m ≤ C) (hle : p + m ≤ bs.length) : BytesIs w (.slice A m C) ((bs.drop p).take m) := by
  have hl : ((bs.drop p).take m).length = m := by simp; omega
  refine ⟨A, C, pb, p, by rw [hl], by rw [hl]; exact hC, fun h0 => hA (by rw [hl] at h0; exact h0), fun j hj => ?_⟩
  rw [hl] at hj
  rw [cell_of_row _ _ _ _ _ _ h, toArray_get, bvals_get _ _ (by omega)]
  simp [hj, show p + j < bs.length from by omega]
/-- bytes copied into a block of bytes -/
theorem run_copy_bytes {P : Program} {w : World} {pb : Nat} {bs x : List UInt8} {tb : TypeId} (dT sT e : TypeId) (hu : P.underlying dT = some (.slice e)) (hsz : (P.info? e).map (·.size) = some 1) (h : w.heap[pb]? = some (.cells (bvals bs).toArray tb (0, 0)))
    (p m C : Nat) (A : Option Addr) (hA : 0 < m → A = some ⟨pb, p, none⟩) (xa : Option Addr) (xc : Nat) (hx : BytesIs w (.slice xa x.length xc) x) (hm : x.length ≤ m) (hle : p + x.length ≤ bs.length) :
    ∃ w2, (∀ ty, (Builtin.copy_ #[dT, sT] ty #[.slice A m C, .slice xa x.length xc]).run P w = .ok (.int .i64 (x.length : Int)) w2) ∧ w2.heap[pb]? = some (.cells (bvals (putAt bs p x)).toArray tb (0, 0)) ∧ Fr1 pb w w2 := by
  by_cases h0 : x.length = 0
  · obtain rfl : x = [] := List.eq_nil_of_length_eq_zero h0
    exact ⟨w, fun ty => run_copy_none w _ _ ty e A xa m C 0 xc hu hsz (by simp), by rw [putAt_nil]; exact h, Fr.refl _ _⟩
  · obtain ⟨xa', xc', qb, qo, he, h1, h2, h3⟩ := hx
    simp only [Value.slice.injEq, true_and] at he
    obtain ⟨rfl, rfl⟩ := he
    obtain rfl := h2 (by omega)
    obtain rfl := hA (by omega)
    refine ⟨w.setRow pb (bvals (putAt bs p x)).toArray, fun ty => ?_, setRow_heap w pb _ _ _ _ h, Fr.setRow (Fr.refl (fun k => k = pb) w) (fun _ => rfl) _⟩
    have := run_copy_row (P := P) w dT sT ty e pb p m C ⟨qb, qo, none⟩ x.length xc (bvals bs).toArray tb (bvals x) hu hsz h (by rw [bvals_length]; exact (Nat.min_eq_left hm).symm) (fun j v hj => by
      have hjl : j < x.length := by have := (List.getElem?_eq_some_iff.1 hj).1; rwa [bvals_length] at this
      rw [Addr.add_mid, h3 j hjl, ← hj, bvals_get _ _ hjl]) (by rw [bvals_arr_size, bvals_length]; exact hle) (bvals_one x)
    rw [this, bvals_length]
    simp [goInt, putAt, bvals]
/-- a slice that was not there before -/
def Fresh (w : World) (v : Value) : Prop := ∀ a n c, v = .slice (some a) n c → w.heap.size ≤ a.block
theorem Fresh.nil (w : World) : Fresh w (.slice none 0 0) := fun a n c h => by cases h
theorem Fresh.own {w w' : World} {e : TypeId} {v : Value} {n : Nat} {xs : List Value} (h : w'.ownsRow w.heap.size e 1 v n xs) : Fresh w v := fun a m c hv => by
  rcases h.2 with ⟨rfl, _⟩ | ⟨g, cap, cur, rfl, hb, _⟩
  · cases hv
  · cases hv
    exact hb
theorem fr0_of_fr1 {w0 w w' : World} {g : Nat} (h : Fr0 w0 w) (h1 : Fr1 g w w') (hg : w0.heap.size ≤ g) : Fr0 w0 w' := h.trans h1 (fun i hi e => by have e' : i = g := e; omega)
end Go.Proofs.Ytkdpdbjefehmpaa.Arena
