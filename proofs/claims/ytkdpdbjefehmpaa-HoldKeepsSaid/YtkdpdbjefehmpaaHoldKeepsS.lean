/-
  A map[int]string that reads as what a hold keeps; what is found there.
-/
import Derived.Test.YtkdpdbjefehmpaaHoldAwake
namespace Go.Proofs.Ytkdpdbjefehmpaa.Hold
open Go.RowKit Base Go.Maps Arena
open Blocks (whole whole_le frees nints tout took terr give gave gerr)

/-- handles and what is kept by them, told by f -/
def assoc (f : Ent → Value) (es : List Ent) : List (Int × Value) := es.map fun e => (e.id, f e)
def str (e : Ent) : Value := .string ⟨e.x.toArray⟩
theorem assoc_snoc (f : Ent → Value) (es : List Ent) (e : Ent) : assoc f (es ++ [e]) = assoc f es ++ [(e.id, f e)] := by simp [assoc]
theorem assoc_drop (f : Ent → Value) (id : Int) (es : List Ent) : (assoc f es).filter (fun p => !(p.1 == id)) = assoc f (drop id es) := by
  unfold assoc drop
  rw [List.filter_map]
  rfl
theorem assoc_any (f : Ent → Value) (id : Int) (es : List Ent) : (assoc f es).any (fun p => p.1 == id) = (find id es).isSome := by
  induction es with
  | nil => rfl
  | cons e es ih =>
    show ((e.id == id) || (assoc f es).any fun p => p.1 == id) = _
    rw [ih]
    unfold find
    rw [List.find?_cons]
    cases e.id == id <;> rfl
theorem assoc_find (f : Ent → Value) (id : Int) (es : List Ent) : (assoc f es).find? (fun p => p.1 == id) = (find id es).map fun e => (e.id, f e) := by
  unfold assoc find
  rw [List.find?_map]
  rfl
theorem assoc_length (f : Ent → Value) (es : List Ent) : (assoc f es).length = es.length := by simp [assoc]
/-- how an element that is a string reads -/
def RS : Value → Option (DataW Value × List MemPlace)
  | .string s => some (.held (.string s), [])
  | _ => none
theorem RS_inv {v : Value} {z : DataW Value × List MemPlace} (h : RS v = some z) : ∃ s, v = .string s ∧ z = (.held v, []) := by
  unfold RS at h
  split at h
  · cases h; exact ⟨_, rfl, rfl⟩
  · cases h
section
variable {w : World} {b n : Nat} {es : List Ent}
theorem lookS_some (h : w.ownsMap Try.prog 3 RS b n (.map (ms (assoc str es)))) {id : Int} (hid : -9223372036854775808 ≤ id ∧ id ≤ 9223372036854775807) {e : Ent} (hf : find id es = some e) :
    (Instr.lookup 59 (.map (some b)) (.int .i64 id) true).run Try.prog w = .ok (.tuple #[.string ⟨e.x.toArray⟩, .bool true]) w := by
  obtain ⟨v, ps, hrun, hv⟩ := h.look_ok (int_keyed Try.underlying3) Try.underlying59 (Try.zeroValue9 w) (zd := .held (.string ⟨#[]⟩)) (zp := []) rfl (key := .int .i64 id) (keyOf_int_mk Try.underlying3 (WalkArith.wf_i64 hid))
  obtain ⟨p, hp, hz⟩ := RS_inv hv
  have e1 : (DataW.map (ms (assoc str es))).atKey (key id) (.held (.string ⟨#[]⟩)) = .held (str e) := by rw [map_at, assoc_find, hf]; rfl
  have e2 := congrArg Prod.fst hz
  change (DataW.map (ms (assoc str es))).atKey (key id) (.held (.string ⟨#[]⟩)) = .held v at e2
  rw [e1] at e2
  have e3 : v = str e := (DataW.held.inj e2).symm
  rw [hrun, e3]
  have e4 : Maps.has (DataW.map (ms (assoc str es))) (key id) = true := by rw [map_has, assoc_any, hf]; rfl
  change Result.ok (Value.tuple #[str e, .bool (Maps.has (DataW.map (ms (assoc str es))) (key id))]) w = _
  rw [e4]
  rfl
theorem lookS_none (h : w.ownsMap Try.prog 3 RS b n (.map (ms (assoc str es)))) {id : Int} (hid : -9223372036854775808 ≤ id ∧ id ≤ 9223372036854775807) (hf : find id es = none) :
    (Instr.lookup 59 (.map (some b)) (.int .i64 id) true).run Try.prog w = .ok (.tuple #[.string ⟨#[]⟩, .bool false]) w := by
  obtain ⟨v, ps, hrun, hv⟩ := h.look_ok (int_keyed Try.underlying3) Try.underlying59 (Try.zeroValue9 w) (zd := .held (.string ⟨#[]⟩)) (zp := []) rfl (key := .int .i64 id) (keyOf_int_mk Try.underlying3 (WalkArith.wf_i64 hid))
  obtain ⟨p, hp, hz⟩ := RS_inv hv
  have e1 : (DataW.map (ms (assoc str es))).atKey (key id) (.held (.string ⟨#[]⟩)) = .held (.string ⟨#[]⟩) := by rw [map_at, assoc_find, hf]; rfl
  have e2 := congrArg Prod.fst hz
  change (DataW.map (ms (assoc str es))).atKey (key id) (.held (.string ⟨#[]⟩)) = .held v at e2
  rw [e1] at e2
  have e3 : v = .string ⟨#[]⟩ := (DataW.held.inj e2).symm
  rw [hrun, e3]
  have e4 : Maps.has (DataW.map (ms (assoc str es))) (key id) = false := by rw [map_has, assoc_any, hf]; rfl
  change Result.ok (Value.tuple #[.string ⟨#[]⟩, .bool (Maps.has (DataW.map (ms (assoc str es))) (key id))]) w = _
  rw [e4]
/-- asked without ok -/
theorem lookS_one (h : w.ownsMap Try.prog 3 RS b n (.map (ms (assoc str es)))) {id : Int} (hid : -9223372036854775808 ≤ id ∧ id ≤ 9223372036854775807) {e : Ent} (hf : find id es = some e) :
    (Instr.lookup 59 (.map (some b)) (.int .i64 id) false).run Try.prog w = .ok (.string ⟨e.x.toArray⟩) w := by
  obtain ⟨v, ps, hrun, hv⟩ := h.lookup (int_keyed Try.underlying3) Try.underlying59 (Try.zeroValue9 w) (zd := .held (.string ⟨#[]⟩)) (zp := []) rfl (key := .int .i64 id) (keyOf_int_mk Try.underlying3 (WalkArith.wf_i64 hid))
  obtain ⟨p, hp, hz⟩ := RS_inv hv
  have e1 : (DataW.map (ms (assoc str es))).atKey (key id) (.held (.string ⟨#[]⟩)) = .held (str e) := by rw [map_at, assoc_find, hf]; rfl
  have e2 := congrArg Prod.fst hz
  change (DataW.map (ms (assoc str es))).atKey (key id) (.held (.string ⟨#[]⟩)) = .held v at e2
  rw [e1] at e2
  have e3 : v = str e := (DataW.held.inj e2).symm
  rw [hrun, e3]
  rfl
theorem lenS (h : w.ownsMap Try.prog 3 RS b n (.map (ms (assoc str es)))) (ty : TypeId) : (Builtin.len_ #[59] ty #[.map (some b)]).run Try.prog w = .ok (.int .i64 (es.length : Int)) w := by
  rw [h.len Try.underlying59 ty, map_size, assoc_length]
end
theorem find_of_mem : ∀ {es : List Ent}, (ids es).Pairwise (· < ·) → ∀ {e : Ent}, e ∈ es → find e.id es = some e
  | [], _, e, h => by cases h
  | a :: es, hr, e, h => by
    have hr' : (a.id :: ids es).Pairwise (· < ·) := hr
    obtain ⟨hr1, hr2⟩ := List.pairwise_cons.1 hr'
    unfold find
    rw [List.find?_cons]
    rcases List.mem_cons.1 h with rfl | h
    · simp
    · have := hr1 e.id (List.mem_map_of_mem h)
      rw [show (a.id == e.id) = false by rw [beq_eq_false_iff_ne]; omega]
      exact find_of_mem hr2 h
theorem find_top {p : Nat} {es : List Ent} (h : ∀ e ∈ es, e.id ≤ (p : Int)) : find ((p : Int) + 1) es = none := by
  unfold find
  rw [List.find?_eq_none]
  intro e he
  have := h e he
  simp only [beq_iff_eq]
  omega
theorem live_snoc (es : List Ent) (e : Ent) : live (es ++ [e]) = live es + e.x.length := by simp [live]
theorem live_drop : ∀ {es : List Ent} {id : Int} {d : Ent}, (ids es).Pairwise (· < ·) → find id es = some d → live es = d.x.length + live (drop id es)
  | [], id, d, _, h => by cases h
  | a :: es, id, d, hr, h => by
    have hr' : (a.id :: ids es).Pairwise (· < ·) := hr
    obtain ⟨hr1, hr2⟩ := List.pairwise_cons.1 hr'
    unfold find at h
    rw [List.find?_cons] at h
    have hl : live (a :: es) = a.x.length + live es := by simp [live]
    by_cases ha : a.id = id
    · rw [show (a.id == id) = true by rw [beq_iff_eq]; exact ha] at h
      cases h
      have : drop id (a :: es) = es := by
        unfold drop
        rw [List.filter_cons_of_neg (by simp [ha]), List.filter_eq_self]
        intro e he
        have := hr1 e.id (List.mem_map_of_mem he)
        simp only [Bool.not_eq_true', beq_eq_false_iff_ne]
        omega
      rw [this, hl]
    · rw [show (a.id == id) = false by rw [beq_eq_false_iff_ne]; exact ha] at h
      have hd : drop id (a :: es) = a :: drop id es := by
        unfold drop
        rw [List.filter_cons_of_pos (by simp [ha])]
      have := live_drop hr2 h
      have hl2 : live (a :: drop id es) = a.x.length + live (drop id es) := by simp [live]
      rw [hl, hd, hl2]
      omega
theorem ids_len (es : List Ent) : (ids es).length = es.length := by simp [ids]
theorem ids_at {es : List Ent} {k : Nat} (h : k < es.length) : ∃ e, e ∈ es ∧ es[k]? = some e ∧ (ids es).getD k 0 = e.id := ⟨es[k], List.getElem_mem h, List.getElem?_eq_getElem h, by simp [ids, h]⟩
theorem ids_lt {es : List Ent} (hr : (ids es).Pairwise (· < ·)) {j k : Nat} (hjk : j < k) (hk : k < es.length) : (ids es).getD j 0 < (ids es).getD k 0 := by
  have hl := ids_len es
  have := List.pairwise_iff_getElem.1 hr j k (by omega) (by omega) hjk
  simpa [show j < (ids es).length by omega, show k < (ids es).length by omega] using this
end Go.Proofs.Ytkdpdbjefehmpaa.Hold
