/-
  A map from strings to ints that reads as an ord's names and things. No program stands here.
-/
import Derived.Test.YtdldhcajcihimaaOrdMem
import Derived.Maps.Own
import Derived.Maps.OwnOps
import Derived.Maps.OwnSet
import Derived.StringKeys
namespace Go.Proofs.Ytdldhcajcihimaa.Ord
open Go.RowKit Base Go.WideMaps Go.Maps

def intPart : Value → Int
  | .int _ a => a
  | _ => 0
def mkey (nm : ByteArray) : Lit := .string nm.data.toList
def mdat (v : Int) : DataW Unit := .lit (.int .i64 v)
/-- what an ord of ints reads as, as a map -/
def mp (es : List Ent) : List (Lit × DataW Unit) := es.map fun e => (mkey e.1, mdat (intPart e.2))
theorem same_iff (a b : ByteArray) : (mkey a).sameKey (mkey b) = decide (a = b) := by
  unfold mkey Lit.sameKey
  by_cases h : a = b
  · subst h; simp
  · rw [decide_eq_false h]
    exact beq_eq_false_iff_ne.2 fun e => h (list_eq.1 e)
theorem before_ltL : ∀ a b : List UInt8, bytesBefore a b = ltL a b
  | [], [] => by simp [bytesBefore, ltL, Op.bytesLess]
  | [], _ :: _ => by simp [bytesBefore, ltL, Op.bytesLess]
  | _ :: _, [] => by simp [bytesBefore, ltL, Op.bytesLess]
  | x :: a, y :: b => by rw [bytesBefore, ltL_cons, before_ltL a b]
theorem before_lt (a b : ByteArray) : (mkey a).before (mkey b) = lt a b := before_ltL _ _
theorem place_cons (nm : ByteArray) (e : Ent) (es : List Ent) : place nm (e :: es) = if lt e.1 nm then place nm es + 1 else 0 := rfl
theorem has_cons_lt {nm : ByteArray} {e : Ent} {es : List Ent} (h : lt e.1 nm = true) : has nm (e :: es) = has nm es := by
  unfold has
  rw [place_cons, if_pos h, List.getElem?_cons_succ]
theorem has_cons_ge {nm : ByteArray} {e : Ent} {es : List Ent} (h : lt e.1 nm = false) : has nm (e :: es) = decide (e.1 = nm) := by
  unfold has
  rw [place_cons, h]
  rfl
theorem put_cons_lt {nm : ByteArray} {v : Value} {e : Ent} {es : List Ent} (h : lt e.1 nm = true) : put nm v (e :: es) = e :: put nm v es := by
  unfold put
  rw [has_cons_lt h, place_cons, if_pos h]
  split <;> simp
theorem put_cons_eq {nm : ByteArray} {v u : Value} {es : List Ent} : put nm v ((nm, u) :: es) = (nm, v) :: es := by
  have h1 : has nm ((nm, u) :: es) = true := by rw [has_cons_ge (e := (nm, u)) (lt_irrefl nm)]; simp
  have h2 : place nm ((nm, u) :: es) = 0 := by rw [place_cons]; simp [lt_irrefl]
  unfold put
  rw [h1, h2]
  rfl
theorem put_cons_gt {nm : ByteArray} {v : Value} {e : Ent} {es : List Ent} (h : lt nm e.1 = true) : put nm v (e :: es) = (nm, v) :: e :: es := by
  unfold put
  rw [has_cons_ge (lt_asymm h), place_cons, lt_asymm h, decide_eq_false (fun x => lt_ne h x.symm)]
  simp
theorem mp_filter {nm : ByteArray} {es : List Ent} (h : ∀ e ∈ es, e.1 ≠ nm) : (mp es).filter (fun p => !p.1.sameKey (mkey nm)) = mp es := by
  rw [List.filter_eq_self]
  intro p hp
  obtain ⟨e, he, rfl⟩ := List.mem_map.1 hp
  simp only [same_iff, Bool.not_eq_true', decide_eq_false_iff_not]
  exact h e he
theorem mp_put {nm : ByteArray} {v : Int} : ∀ {es : List Ent}, Sorted es → DataW.insert (mkey nm, mdat v) ((mp es).filter fun p => !p.1.sameKey (mkey nm)) = mp (put nm (.int .i64 v) es)
  | [], _ => rfl
  | e :: es, hs => by
    have hs' : Sorted es := (List.pairwise_cons.1 hs).2
    have hgt : ∀ x ∈ es, lt e.1 x.1 = true := (List.pairwise_cons.1 hs).1
    rcases lt_tri e.1 nm with h | h | h
    · have hne : e.1 ≠ nm := lt_ne h
      rw [put_cons_lt h]
      show DataW.insert _ (((mkey e.1, mdat (intPart e.2)) :: mp es).filter _) = (mkey e.1, mdat (intPart e.2)) :: mp (put nm (.int .i64 v) es)
      rw [List.filter_cons_of_pos (by simp only [same_iff, decide_eq_false hne]; rfl)]
      show (if (mkey nm).before (mkey e.1) = true then _ else _) = _
      rw [before_lt, lt_asymm h, if_neg (by decide), mp_put hs']
    · obtain ⟨a, u⟩ := e
      subst h
      rw [put_cons_eq]
      show DataW.insert _ (((mkey a, mdat (intPart u)) :: mp es).filter _) = _
      rw [List.filter_cons_of_neg (by simp [same_iff]), mp_filter (fun x hx e' => by have := hgt x hx; rw [e', lt_irrefl] at this; cases this)]
      cases es with
      | nil => rfl
      | cons x es =>
        show (if (mkey a).before (mkey x.1) = true then _ else _) = _
        rw [before_lt, hgt x (by simp), if_pos rfl]
        rfl
    · rw [put_cons_gt h, mp_filter (fun x hx e' => by
        rcases List.mem_cons.1 hx with rfl | hx
        · rw [e', lt_irrefl] at h; cases h
        · have := lt_trans h (hgt x hx); rw [e', lt_irrefl] at this; cases this)]
      show (if (mkey nm).before (mkey e.1) = true then _ else _) = _
      rw [before_lt, h, if_pos rfl]
      rfl
theorem map_put {nm : ByteArray} {v : Int} {es : List Ent} (h : Sorted es) : (DataW.map (mp es)).put (mkey nm) (mdat v) = .map (mp (put nm (.int .i64 v) es)) := by
  rw [← mp_put h]
  rfl
theorem map_has {nm : ByteArray} {es : List Ent} (h : Sorted es) : Maps.has (DataW.map (mp es)) (mkey nm) = has nm es := by
  show (mp es).any (fun p => p.1.sameKey (mkey nm)) = has nm es
  rw [Bool.eq_iff_iff, List.any_eq_true, h.has_mem]
  constructor
  · rintro ⟨p, hp, hk⟩
    obtain ⟨e, he, rfl⟩ := List.mem_map.1 hp
    rw [same_iff] at hk
    have := of_decide_eq_true hk
    exact ⟨e.2, by rw [← this]; exact he⟩
  · rintro ⟨v, hv⟩
    exact ⟨_, List.mem_map.2 ⟨_, hv, rfl⟩, by simp [same_iff]⟩
theorem map_at {nm : ByteArray} {v : Int} {es : List Ent} (h : Sorted es) (he : (nm, Value.int .i64 v) ∈ es) (z : DataW Unit) : (DataW.map (mp es)).atKey (mkey nm) z = mdat v := by
  obtain ⟨j, hj⟩ := List.mem_iff_getElem?.1 he
  have hf : (mp es).find? (fun p => p.1.sameKey (mkey nm)) = some (mkey nm, mdat v) := by
    rw [List.find?_eq_some_iff_append]
    refine ⟨by simp [same_iff], mp (es.take j), mp (es.drop (j + 1)), ?_, fun p hp => ?_⟩
    · have hlt := (List.getElem?_eq_some_iff.1 hj).1
      have hd : es.drop j = (nm, .int .i64 v) :: es.drop (j + 1) := by
        rw [List.drop_eq_getElem_cons hlt]
        rw [List.getElem?_eq_getElem hlt] at hj
        rw [Option.some.inj hj]
      have : es = es.take j ++ (nm, .int .i64 v) :: es.drop (j + 1) := by rw [← hd, List.take_append_drop]
      conv => lhs; rw [this]
      simp [mp, intPart]
    · obtain ⟨e, he', rfl⟩ := List.mem_map.1 hp
      obtain ⟨i, hi⟩ := List.mem_iff_getElem?.1 he'
      rw [List.getElem?_take] at hi
      split at hi
      · have := h.lt (by assumption) hi hj
        rw [same_iff, decide_eq_false (lt_ne this)]
        rfl
      · cases hi
  simp only [DataW.atKey, hf]
theorem map_len {P : Program} {w : World} {k e : TypeId} {b n : Nat} {l : List (Lit × DataW Unit)} (h : w.ownsMap P k (plainElem P e) b n (.map l)) (t ty : TypeId) (ht : P.underlying t = some (.map (P.mapKeyOf t) (P.mapElemOf t))) : (Builtin.len_ #[t] ty #[.map (some b)]).run P w = .ok (.int .i64 (l.length : Nat)) w := by
  obtain ⟨es, clock, hb, F, _, hD⟩ := h
  rw [run_len_map w t ty b es clock ht hb]
  cases hD
  rw [length_sorted]
  simp [goInt]
/-- a map stands where only an ord's blocks turn; an ord stands where a map turns -/
theorem FrO.maps {B : Nat} {T E N : TypeId} {a c : World} (h : FrO B T E N a c) {P : Program} {k : TypeId} {R : Value → Option (DataW Unit × List MemPlace)} {b n : Nat} {D : DataW Unit} (hm : a.ownsMap P k R b n D) : c.ownsMap P k R b n D := by
  obtain ⟨es, clock, hb, rest⟩ := hm
  refine ⟨es, clock, Fr.heap h hb fun ⟨_, cs, t, fr, hx, _⟩ => ?_, rest⟩
  rw [hb] at hx
  cases hx
theorem fr0_maps {a c : World} (h : Fr0 a c) {P : Program} {k : TypeId} {R : Value → Option (DataW Unit × List MemPlace)} {b n : Nat} {D : DataW Unit} (hm : a.ownsMap P k R b n D) : c.ownsMap P k R b n D := by
  obtain ⟨es, clock, hb, rest⟩ := hm
  exact ⟨es, clock, h.heap hb (fun f => f), rest⟩
theorem OrdAt.map {w w' : World} {B : Nat} {T E N : TypeId} {g most : Nat} {es : List Ent} (h : OrdAt w B T E N g most es) {P : Program} {k : TypeId} {R : Value → Option (DataW Unit × List MemPlace)} {b n : Nat} {D : DataW Unit} (hm : w.ownsMap P k R b n D) (hg : w.grownBy w' (some b)) : OrdAt w' B T E N g most es := by
  obtain ⟨ms, clock, hb, _⟩ := hm
  refine h.fr (Fr.of_grown (S := fun q => q = b) hg (fun q _ e => by cases e; rfl)) fun q ⟨_, cs, t, fr, hx, _⟩ e => ?_
  have e' : q = b := e
  subst e'
  rw [hb] at hx
  cases hx
end Go.Proofs.Ytdldhcajcihimaa.Ord
