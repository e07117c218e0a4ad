/-
  The walks of digit and of sum.Parse.
-/
import Derived.Test.YteafnknghnhlgaaDoorShaText
namespace Go.Proofs.YteafnknghnhlgaaDoor.Sha
open Go.RowKit Base

def hok (n : Nat) : Bool := decide ((48 ≤ n ∧ n ≤ 57) ∨ (97 ≤ n ∧ n ≤ 102))
def hv (n : Nat) : Nat := if 48 ≤ n ∧ n ≤ 57 then n - 48 else if 97 ≤ n ∧ n ≤ 102 then n - 87 else 0
theorem hv_lt (n : Nat) : hv n < 16 := by
  unfold hv
  split
  · omega
  · split <;> omega

theorem results_cell_row2 {P : Program} {fn : Func} {p u : Tmp} {ty : TypeId} (h : fn.results = #[.cell p ty, .tmp u]) (tmps : Array Value) (w : World) (g : Nat) (t : TypeId) (cs : Array Value) (fr : Nat × Nat) (d : TypeDesc)
    (hp : tmps.getD p undef = .pointer (some ⟨g, 0, none⟩)) (v : Value) (hu' : tmps.getD u undef = v) (hg : w.heap[g]? = some (.cells cs t fr))
    (hu : P.underlying ty = some d) (hd : (match d with | .struct _ | .array _ _ => true | _ => false) = true) (hi : (P.info? ty).map (·.size) = some cs.size) :
    (results fn tmps).run P w = .ok (.tuple #[.agg cs, v]) w := by
  have hp' : tmps[p]?.getD undef = .pointer (some ⟨g, 0, none⟩) := by simpa using hp
  have hq' : tmps[u]?.getD undef = v := by simpa using hu'
  simp [results, h, hp', hq', asAddr, run_loadVar_row w g t ty cs fr d hg hu hd hi]

def zeroDig : Array Value := Array.replicate 32 (.int .u8 0)
theorem zero24' : (Tryd.prog.info? 38).map (fun i => (i.zero, i.size)) = some (some (.agg zeroDig), 32) := zero24
def chk (t : List UInt8) (i : Nat) : Bool := hok (t.getD i 0).toNat
def parsed (t : List UInt8) : List UInt8 := (List.range 32).map fun i => UInt8.ofNat (16 * hv (t.getD (2 * i) 0).toNat + hv (t.getD (2 * i + 1) 0).toNat)
def parseOk (t : List UInt8) : Bool := t.length == 64 && (List.range 64).all (chk t)
theorem zeroDig_info : (Tryd.prog.info? 38).map (·.size) = some zeroDig.size := info24.trans (by unfold zeroDig; simp)
theorem zeroDig_one : zeroDig.all (·.oneCell') = true := by unfold zeroDig; rw [Array.all_eq_true_iff_forall_mem]; intro v hv; simp at hv; rw [hv]; rfl

def ParsePost (t : List UInt8) (e : Ending) : Prop := if parseOk t = true then e = .returned (.tuple #[.agg (bytes (parsed t)).toArray, .bool true]) else e = .returned (.tuple #[.agg zeroDig, .bool false])
theorem ParsePost_no {t : List UInt8} {e : Ending} {Z : Array Value} (hZ : zeroDig = Z) (h : parseOk t = false) (he : e = .returned (.tuple #[.agg Z, .bool false])) : ParsePost t e := by
  unfold ParsePost; rw [h, hZ]; simpa using he
theorem ParsePost_yes {t : List UInt8} {e : Ending} (h : parseOk t = true) (he : e = .returned (.tuple #[.agg (bytes (parsed t)).toArray, .bool true])) : ParsePost t e := by
  unfold ParsePost; rw [if_pos h]; exact he
def pcell (t : List UInt8) (k j : Nat) : Value := if j < k then .int .u8 (((parsed t).getD j 0).toNat : Int) else .int .u8 0
theorem or16 (a b : Nat) (ha : a < 16) (hb : b < 16) : bits BinOp.or .u8 ((a : Int) * 16) (b : Int) = ((16 * a + b : Nat) : Int) := by
  have h1 : ((a : Int) * 16) = ((a * 16 : Nat) : Int) := by omega
  rw [h1, u8_or_nat (a * 16) b (by omega) (by omega), nat_join 4 (a * 16) b (by omega) (by omega)]
  congr 1; omega
theorem pcell_step (t : List UInt8) (k : Nat) (hk : k < 32) (n0 n1 : Nat) (h0 : (t.getD (2 * k) 0).toNat = n0) (h1 : (t.getD (2 * k + 1) 0).toNat = n1) :
    ∀ i, i < 32 → (if i = k then Value.int .u8 (bits BinOp.or .u8 ((hv n0 : Int) * 16) (hv n1 : Int)) else pcell t k i) = pcell t (k + 1) i := by
  intro i _
  unfold pcell
  by_cases h : i = k
  · subst h
    rw [if_pos rfl, if_pos (by omega), or16 _ _ (hv_lt _) (hv_lt _)]
    have e : (parsed t).getD i 0 = UInt8.ofNat (16 * hv n0 + hv n1) := by rw [← h0, ← h1]; simp [parsed, hk]
    have b0 := hv_lt n0
    have b1 := hv_lt n1
    rw [e, UInt8.toNat_ofNat_of_lt' (by show _ < 256; omega)]
  · rw [if_neg h]
    by_cases h' : i < k
    · rw [if_pos h', if_pos (by omega)]
    · rw [if_neg h', if_neg (by omega)]
def parsedArr (t : List UInt8) : Array Value := (bytes (parsed t)).toArray
theorem parsedArr_size (t : List UInt8) : (parsedArr t).size = 32 := by simp [parsedArr, bytes, parsed]
theorem parsedArr_info (t : List UInt8) : (Tryd.prog.info? 38).map (·.size) = some (parsedArr t).size := info24.trans (congrArg some (parsedArr_size t).symm)
theorem parsedArr_size0 (t : List UInt8) : ((List.range 32).map (fun _ : Nat => Value.int IntKind.u8 0)).toArray.size = (parsedArr t).size := by simp [parsedArr_size]
theorem parsedArr_one (t : List UInt8) : (parsedArr t).all (·.oneCell') = true := all_oneCell_toArray (bytes_one _)
theorem parsed_cells {t : List UInt8} {w : World} {b : Nat} {ty : TypeId} (h : w.rowIs b ty 32 (pcell t 32)) : w.heap[b]? = some (.cells (parsedArr t) ty (0, 0)) := by
  have e : ∀ i, i < 32 → pcell t 32 i = .int .u8 (((parsed t).getD i 0).toNat : Int) := fun i hi => by simp [pcell, hi]
  have h2 := row_cells (h.congr e)
  have : ((List.range 32).map fun i => Value.int IntKind.u8 (((parsed t).getD i 0).toNat : Int)).toArray = parsedArr t := by
    apply Array.ext_getElem?
    intro i
    by_cases hi : i < 32
    · unfold parsedArr; rw [toArray_get (l := bytes (parsed t)), bytes_get _ _ (by simpa [parsed] using hi)]; simp [hi]
    · rw [Array.getElem?_eq_none (by simp; omega), Array.getElem?_eq_none (by rw [parsedArr_size]; omega)]
  rw [← this]; exact h2
theorem parseOk_no (t : List UInt8) (i : Nat) (hi : i < 64) (h : chk t i = false) : parseOk t = false := by
  unfold parseOk
  have : (List.range 64).all (chk t) = false := by
    rw [List.all_eq_false]
    exact ⟨i, by simpa using hi, by simp [h]⟩
  simp [this]

theorem hv_hex' : ∀ n : Fin 256, hok n.val = true → (hexd (hv n.val)).toNat = n.val := by decide +kernel
theorem hv_hex (c : UInt8) (h : hok c.toNat = true) : hexd (hv c.toNat) = c := UInt8.toNat_inj.1 (hv_hex' ⟨c.toNat, c.toNat_lt⟩ h)
theorem take_two (t : List UInt8) (n : Nat) (h : n + 1 < t.length) : t.take (n + 2) = t.take n ++ [t.getD n 0, t.getD (n + 1) 0] := by
  apply List.ext_getElem?
  intro i
  by_cases h1 : i < n
  · rw [List.getElem?_take_of_lt (by omega), List.getElem?_append_left (by simp; omega), List.getElem?_take_of_lt h1]
  · rw [List.getElem?_append_right (by simp; omega), List.length_take, Nat.min_eq_left (by omega)]
    by_cases h2 : i = n
    · subst h2; rw [List.getElem?_take_of_lt (by omega)]; simp [show i < t.length from by omega]
    · by_cases h3 : i = n + 1
      · subst h3; rw [List.getElem?_take_of_lt (by omega), show n + 1 - n = 1 from by omega]; simp [show n + 1 < t.length from by omega]
      · rw [List.getElem?_eq_none (by simp; omega), List.getElem?_eq_none (by simp; omega)]
theorem hexText_parsed (t : List UInt8) (h : parseOk t = true) : hexText (parsed t) = t := by
  unfold parseOk at h
  rw [Bool.and_eq_true, beq_iff_eq, List.all_eq_true] at h
  obtain ⟨hl, hall⟩ := h
  apply List.ext_getElem?
  intro i
  have key : ∀ n, n ≤ 32 → hexText ((parsed t).take n) = t.take (2 * n) := by
    intro n
    induction n with
    | zero => intro _; simp [hexText]
    | succ n ih =>
      intro hn
      rw [← hexText_next (parsed t) n (by simp [parsed]; omega), ih (by omega)]
      have e : (parsed t).getD n 0 = UInt8.ofNat (16 * hv (t.getD (2 * n) 0).toNat + hv (t.getD (2 * n + 1) 0).toNat) := by simp [parsed, show n < 32 from by omega]
      have c0 := hall (2 * n) (by simp; omega)
      have c1 := hall (2 * n + 1) (by simp; omega)
      unfold chk at c0 c1
      have l0 := hv_lt (t.getD (2 * n) 0).toNat
      have l1 := hv_lt (t.getD (2 * n + 1) 0).toNat
      have v0 := hv_hex _ c0
      have v1 := hv_hex _ c1
      rw [e]
      generalize hv (t.getD (2 * n) 0).toNat = x at *
      generalize hv (t.getD (2 * n + 1) 0).toNat = y at *
      have eu : (UInt8.ofNat (16 * x + y)).toNat = 16 * x + y := UInt8.toNat_ofNat_of_lt' (by show _ < 256; omega)
      unfold hexOf
      rw [eu, show (16 * x + y) / 16 = x from by omega, show (16 * x + y) % 16 = y from by omega, v0, v1]
      rw [show 2 * (n + 1) = 2 * n + 2 from by omega, take_two t (2 * n) (by omega)]
  have := key 32 (Nat.le_refl _)
  rw [List.take_of_length_le (by simp [parsed]), List.take_of_length_le (by omega)] at this
  rw [this]
theorem hexd_inj : ∀ a b : Fin 16, hexd a.val = hexd b.val → a = b := by decide +kernel
theorem hexOf_inj (a b : UInt8) (h : hexOf a = hexOf b) : a = b := by
  unfold hexOf at h
  simp only [List.cons.injEq, and_true] at h
  have ha := a.toNat_lt
  have hb := b.toNat_lt
  have h1 := congrArg Fin.val (hexd_inj ⟨a.toNat / 16, by omega⟩ ⟨b.toNat / 16, by omega⟩ h.1)
  have h2 := congrArg Fin.val (hexd_inj ⟨a.toNat % 16, by omega⟩ ⟨b.toNat % 16, by omega⟩ h.2)
  simp only at h1 h2
  exact UInt8.toNat_inj.1 (by omega)
theorem hexText_inj : ∀ (a b : List UInt8), a.length = b.length → hexText a = hexText b → a = b
  | [], [], _, _ => rfl
  | [], _ :: _, h, _ => by simp at h
  | _ :: _, [], h, _ => by simp at h
  | x :: a, y :: b, h, e => by
    have e2 : hexOf x ++ hexText a = hexOf y ++ hexText b := by simpa [hexText] using e
    have h3 := List.append_inj e2 (by simp [hexOf])
    rw [hexOf_inj x y h3.1, hexText_inj a b (by simpa using h) h3.2]
def zeros32 : List UInt8 := List.replicate 32 0
def parseList (t : List UInt8) : List UInt8 := if parseOk t = true then parsed t else zeros32
theorem parseList_length (t : List UInt8) : (parseList t).length = 32 := by unfold parseList; split <;> simp [parsed, zeros32]
end Go.Proofs.YteafnknghnhlgaaDoor.Sha
