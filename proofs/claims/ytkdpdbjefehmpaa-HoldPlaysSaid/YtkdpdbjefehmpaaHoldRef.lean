/-
  How the reference's hold lies; the walks of its NewHold, at, Get, Live, List.
-/
import Derived.Test.YtkdpdbjefehmpaaHoldGet
import Derived.Test.YtkdpdbjefehmpaaAreRef
import Derived.Test.YtkdpdbjefehmpaaBlkRef
import Derived.Test.YtkdpdbjefehmpaaMix
import Derived.Laws.OwnMore
namespace Go.Proofs.Ytkdpdbjefehmpaa.Hold
open Go.RowKit Base Go.Maps Arena Go.Sort Go.Shelf
open Blocks (BlkR whole whole_le frees nints nvals tout took terr give gave gerr)

def ecells (e : Ent) : List Value := [.int .i64 e.id, e.bytes, e.cuts]
def kcells : List Ent → List Value
  | [] => []
  | e :: es => ecells e ++ kcells es
theorem kcells_append : ∀ (a b : List Ent), kcells (a ++ b) = kcells a ++ kcells b
  | [], b => rfl
  | t :: a, b => by
    show ecells t ++ kcells (a ++ b) = (ecells t ++ kcells a) ++ kcells b
    rw [kcells_append a b, List.append_assoc]
theorem kcells_length : ∀ es : List Ent, (kcells es).length = es.length * 3
  | [] => rfl
  | t :: es => by
    show (ecells t ++ kcells es).length = _
    rw [List.length_append, kcells_length es, List.length_cons, show (ecells t).length = 3 from rfl]
    omega
theorem kcells_one : ∀ (es : List Ent), ∀ v ∈ kcells es, v.oneCell' = true
  | [], v, h => by cases h
  | t :: es, v, h => by
    rcases List.mem_append.1 (show v ∈ ecells t ++ kcells es from h) with h | h
    · simp only [ecells, List.mem_cons, List.not_mem_nil, or_false] at h
      rcases h with rfl | rfl | rfl <;> rfl
    · exact kcells_one es v h
theorem kcells_get : ∀ (es : List Ent) (j : Nat) (t : Ent), es[j]? = some t → (kcells es)[j * 3]? = some (.int .i64 t.id) ∧ (kcells es)[j * 3 + 1]? = some t.bytes ∧ (kcells es)[j * 3 + 2]? = some t.cuts
  | [], j, t, h => by simp at h
  | x :: es, 0, t, h => by
    simp at h
    subst h
    exact ⟨rfl, rfl, rfl⟩
  | x :: es, j + 1, t, h => by
    have ih := kcells_get es j t (by simpa using h)
    have e : ∀ i, (kcells (x :: es))[(j + 1) * 3 + i]? = (kcells es)[j * 3 + i]? := fun i => by
      show (ecells x ++ kcells es)[(j + 1) * 3 + i]? = _
      rw [List.getElem?_append_right (by simp [ecells]; omega)]
      congr 1
      simp [ecells]; omega
    have e0 := e 0
    simp only [Nat.add_zero] at e0
    rw [e0, e 1, e 2]
    exact ih
theorem kcells_take : ∀ (es : List Ent) (k : Nat), kcells (es.take k) = (kcells es).take (k * 3)
  | [], k => by simp [kcells]
  | x :: es, 0 => by simp [kcells]
  | x :: es, k + 1 => by
    show ecells x ++ kcells (es.take k) = (ecells x ++ kcells es).take ((k + 1) * 3)
    rw [kcells_take es k, List.take_append, List.take_of_length_le (l := ecells x) (by show 3 ≤ _; omega), show (k + 1) * 3 - (ecells x).length = k * 3 by (show (k + 1) * 3 - 3 = _); omega]
theorem kcells_drop : ∀ (es : List Ent) (k : Nat), kcells (es.drop k) = (kcells es).drop (k * 3)
  | [], k => by simp [kcells]
  | x :: es, 0 => by simp
  | x :: es, k + 1 => by
    show kcells (es.drop k) = (ecells x ++ kcells es).drop ((k + 1) * 3)
    have hz : (ecells x).drop ((k + 1) * 3) = [] := List.drop_eq_nil_of_le (by show 3 ≤ _; omega)
    rw [kcells_drop es k, List.drop_append, hz, List.nil_append, show (k + 1) * 3 - (ecells x).length = k * 3 by (show (k + 1) * 3 - 3 = _); omega]

/-- a slice that lies in blocks of one's own, none of which is ever written -/
def LiesR (w : World) (Own : Nat → Prop) (g xg ob : Nat) (v : Value) (A : Option Addr) : Prop := ∀ a, A = some a → Own a.block ∧ a.block < w.heap.size ∧ a.block ≠ g ∧ a.block ≠ xg ∧ a.block ≠ ob ∧ v.ownBlock ≠ some a.block
theorem LiesR.mono {w w' : World} {Own Own' : Nat → Prop} {g xg ob : Nat} {v : Value} {A : Option Addr} (h : LiesR w Own g xg ob v A) (hs : w.heap.size ≤ w'.heap.size) (ho : ∀ j, j < w.heap.size → Own j → Own' j) : LiesR w' Own' g xg ob v A := fun a ha => by
  obtain ⟨h1, h2, h3⟩ := h a ha
  exact ⟨ho _ h2 h1, by omega, h3⟩
/-- the reference's hold: the object g, its blocks' object xg and bools ob, its row v, in blocks of its own -/
structure HoldR (w : World) (Own : Nat → Prop) (k ga g xg ob : Nat) (v : Value) (O : List Bool) (puts : Nat) (es : List Ent) : Prop where
  obj : w.rowIs g 57 5 (fun i => if i = 0 then ptr ga else if i = 1 then .int .i64 (k : Int) else if i = 2 then ptr xg else if i = 3 then v else .int .i64 (puts : Int))
  blk : BlkR w 0 xg ob O
  row : w.ownsRow 0 90 3 v es.length (kcells es)
  rows : ∀ b, v.ownBlock = some b → Own b ∧ b ≠ g ∧ b ≠ xg ∧ b ≠ ob
  lies : ∀ e ∈ es, (IntsIs w e.cuts (nints e.T) ∧ (e.T ≠ [] → LiesR w Own g xg ob v e.A)) ∧ (BytesIs w e.bytes e.x ∧ (e.x ≠ [] → LiesR w Own g xg ob v e.D))
  own : Own g ∧ Own xg ∧ Own ob
  ne : g ≠ xg ∧ g ≠ ob
  rise : (ids es).Pairwise (· < ·)
  top : ∀ e ∈ es, e.id ≤ (puts : Int)
theorem ebytes_fr {S : Nat → Prop} {w w' : World} {e : Ent} (hf : Fr S w w') (h : BytesIs w e.bytes e.x) (hs : e.x ≠ [] → ∀ a, e.D = some a → ¬ S a.block) : BytesIs w' e.bytes e.x :=
  bytes_fr hf h (fun h0 a n c hv => by
    unfold Ent.bytes at hv
    simp only [Value.slice.injEq] at hv
    exact hs h0 a hv.1)
namespace HoldR
variable {w w' : World} {Own : Nat → Prop} {k ga g xg ob : Nat} {v : Value} {O : List Bool} {puts : Nat} {es : List Ent}
theorem fr {S : Nat → Prop} (h : HoldR w Own k ga g xg ob v O puts es) (hf : Fr S w w') (hs : ∀ j, Own j → ¬ S j) : HoldR w' Own k ga g xg ob v O puts es := by
  obtain ⟨o1, o2, o3⟩ := h.own
  exact ⟨hf.row h.obj (hs _ o1), h.blk.fr hf (hs _ o2) (hs _ o3), Blocks.owns_fr hf h.row (fun b hb => hs _ (h.rows b hb).1), h.rows, fun e he => by
    obtain ⟨⟨h1, h2⟩, h3, h4⟩ := h.lies e he
    exact ⟨⟨cuts_fr hf h1 (fun hT a ha => hs _ (h2 hT a ha).1), fun hT => (h2 hT).mono hf.size (fun _ _ h => h)⟩, ebytes_fr hf h3 (fun hx a ha => hs _ (h4 hx a ha).1), fun hx => (h4 hx).mono hf.size (fun _ _ h => h)⟩, h.own, h.ne, h.rise, h.top⟩
theorem fr0 (h : HoldR w Own k ga g xg ob v O puts es) (hf : Fr0 w w') : HoldR w' Own k ga g xg ob v O puts es := h.fr hf (fun _ _ f => f)
theorem g_lt (h : HoldR w Own k ga g xg ob v O puts es) : g < w.heap.size := h.obj.lt
theorem mono {Own' : Nat → Prop} (h : HoldR w Own k ga g xg ob v O puts es) (ho : ∀ j, j < w.heap.size → Own j → Own' j) : HoldR w Own' k ga g xg ob v O puts es := by
  obtain ⟨o1, o2, o3⟩ := h.own
  exact ⟨h.obj, h.blk, h.row, fun b hb => ⟨ho _ (h.row.lt b hb).2 (h.rows b hb).1, (h.rows b hb).2⟩, fun e he => by
    obtain ⟨⟨h1, h2⟩, h3, h4⟩ := h.lies e he
    exact ⟨⟨h1, fun hT => (h2 hT).mono (Nat.le_refl _) ho⟩, h3, fun hx => (h4 hx).mono (Nat.le_refl _) ho⟩, ⟨ho _ h.g_lt o1, ho _ h.blk.g_lt o2, ho _ h.blk.ob_lt o3⟩, h.ne, h.rise, h.top⟩
theorem c0 (h : HoldR w Own k ga g xg ob v O puts es) : w.cell? ⟨g, 0, none⟩ = some (.pointer (some ⟨ga, 0, none⟩)) := h.obj.cell (i := 0) (by decide)
theorem c1 (h : HoldR w Own k ga g xg ob v O puts es) : w.cell? ⟨g, 1, none⟩ = some (.int .i64 (k : Int)) := h.obj.cell (i := 1) (by decide)
theorem c2 (h : HoldR w Own k ga g xg ob v O puts es) : w.cell? ⟨g, 2, none⟩ = some (.pointer (some ⟨xg, 0, none⟩)) := h.obj.cell (i := 2) (by decide)
theorem c3 (h : HoldR w Own k ga g xg ob v O puts es) : w.cell? ⟨g, 3, none⟩ = some v := h.obj.cell (i := 3) (by decide)
theorem c4 (h : HoldR w Own k ga g xg ob v O puts es) : w.cell? ⟨g, 4, none⟩ = some (.int .i64 (puts : Int)) := h.obj.cell (i := 4) (by decide)
/-- its row, to be read -/
theorem form (h : HoldR w Own k ga g xg ob v O puts es) : ∃ (A : Option Addr) (C kb : Nat), v = .slice A es.length C ∧ es.length ≤ C ∧ (0 < es.length → A = some ⟨kb, 0, none⟩) ∧ ∀ j e, es[j]? = some e → w.cell? ⟨kb, j * 3, none⟩ = some (.int .i64 e.id) ∧ w.cell? ⟨kb, j * 3 + 1, none⟩ = some e.bytes ∧ w.cell? ⟨kb, j * 3 + 2, none⟩ = some e.cuts := by
  have hr := h.row
  rcases hr.2 with ⟨rfl, h0⟩ | ⟨q, cap, cur, rfl, hb, hg, hc, _, hcs, hcur⟩
  · exact ⟨none, 0, 0, by rw [h0], by omega, fun hp => by omega, fun j e he => by
      have := (List.getElem?_eq_some_iff.1 he).1
      omega⟩
  · refine ⟨_, cap, q, rfl, hc, fun _ => rfl, fun j e he => ?_⟩
    have hget : ∀ i u, (kcells es)[i]? = some u → w.cell? ⟨q, i, none⟩ = some u := fun i u hu => by
      rw [cell_of_row _ _ _ _ _ _ hg]
      rw [← hcur, List.getElem?_take] at hu
      split at hu
      · simpa using hu
      · cases hu
    obtain ⟨h0, h1, h2⟩ := kcells_get es j e he
    exact ⟨hget _ _ h0, hget _ _ h1, hget _ _ h2⟩
end HoldR
/-- where a handle is -/
def AtPost (id : Int) (es : List Ent) (w : World) (e : Ending) (w' : World) : Prop :=
  w' = w ∧ ((find id es = none ∧ e = .returned (.int .i64 (-1))) ∨ ∃ (j : Nat) (d : Ent), es[j]? = some d ∧ d.id = id ∧ find id es = some d ∧ e = .returned (.int .i64 (j : Int)))
theorem find_none_of {id : Int} {es : List Ent} (h : ∀ (j : Nat) (d : Ent), es[j]? = some d → d.id ≠ id) : find id es = none := by
  unfold find
  rw [List.find?_eq_none]
  intro e he
  obtain ⟨j, hj, rfl⟩ := List.mem_iff_getElem.1 he
  have := h j _ (List.getElem?_eq_getElem hj)
  simpa using this
theorem find_some_of {id : Int} {es : List Ent} {j : Nat} {d : Ent} (hd : es[j]? = some d) (hid : d.id = id) (h : ∀ (i : Nat) (e : Ent), i < j → es[i]? = some e → e.id ≠ id) : find id es = some d := by
  induction es generalizing j with
  | nil => simp at hd
  | cons a es ih =>
    unfold find
    rw [List.find?_cons]
    cases j with
    | zero =>
      simp at hd
      subst hd
      rw [hid]
      simp
    | succ j =>
      have h0 := h 0 a (by omega) rfl
      rw [show (a.id == id) = false by simpa using h0]
      exact ih (by simpa using hd) (fun i e hi he => h (i + 1) e (by omega) (by simpa using he))
set_option maxHeartbeats 2000000 in
theorem rat_any (Own : Nat → Prop) (k ga g xg ob : Nat) (v : Value) (O : List Bool) (puts : Nat) (es : List Ent) (id : Int) (hid : -9223372036854775808 ≤ id ∧ id ≤ 9223372036854775807) (hlen : es.length ≤ 1000000) (w : World) (h : HoldR w Own k ga g xg ob v O puts es) :
    Calls Try.prog 42 #[ptr g, .int .i64 id] w (AtPost id es w) := by
  have c3 := h.c3
  obtain ⟨A, C, kb, rfl, hC, hA, hc⟩ := h.form
  have HA := Lib.hid hA
  have HC := Lib.hid hc
  clear h hA hc
  unfold ptr
  go_enter Try.func42, Try.ntmps42
  go_wp2
  go_loopg [5] es.length (fun kx i wr => ∃ j : Nat, i = .int .i64 j ∧ j ≤ es.length ∧ es.length - j ≤ kx ∧ Hid (wr = w) ∧ Hid (∀ (i : Nat) (e : Ent), i < j → es[i]? = some e → e.id ≠ id))
  case atStart => exact ⟨0, rfl, Nat.zero_le _, by omega, Lib.hid rfl, Lib.hid (fun i e hi => absurd hi (Nat.not_lt_zero _))⟩
  case round =>
    obtain ⟨j, rfl, hj, hgj, HW, HN⟩ := hrel
    obtain rfl := HW.out
    by_cases hlt : j < es.length
    · obtain ⟨d, hd⟩ : ∃ d, es[j]? = some d := ⟨_, List.getElem?_eq_getElem hlt⟩
      obtain ⟨d0, _, _⟩ := HC.out j d hd
      obtain rfl := HA.out (by omega)
      have HD := Lib.hid hd
      have i1 : (j : Int) < (es.length : Int) := by omega
      have i2 : 0 ≤ (j : Int) := by omega
      have HID : Hid (d.id = d.id) := Lib.hid rfl
      generalize hdi : d.id = di at *
      have HDI := Lib.hid hdi
      clear hd hdi
      by_cases hx : di = id
      · subst hx
        go_wp2
        go_ret
        exact ⟨rfl, .inr ⟨j, d, HD.out, HDI.out, find_some_of HD.out HDI.out HN.out, rfl⟩⟩
      · go_wp2
        go_roundg (es.length - (j + 1))
        case measure => omega
        case rel => exact ⟨j + 1, by simp, by omega, by omega, Lib.hid rfl, Lib.hid (fun i e hi he => by
          by_cases hij : i = j
          · subst hij
            rw [HD.out] at he
            cases he
            rw [HDI.out]
            exact hx
          · exact HN.out i e (by omega) he)⟩
    · obtain rfl : j = es.length := by omega
      go_wp2
      go_ret
      exact ⟨rfl, .inl ⟨find_none_of (fun i e he => HN.out i e (List.getElem?_eq_some_iff.1 he).1 he), rfl⟩⟩
theorem live_take {es : List Ent} {j : Nat} {d : Ent} (hd : es[j]? = some d) : live (es.take (j + 1)) = live (es.take j) + d.x.length := by
  rw [List.take_add_one, hd]
  simp [live]
theorem live_le (es : List Ent) (j : Nat) : live (es.take j) ≤ live es := by
  have h : live es = live (es.take j) + live (es.drop j) := by
    unfold live
    rw [← List.sum_append, ← List.map_append, List.take_append_drop]
  omega
set_option maxHeartbeats 2000000 in
theorem rlive_any (Own : Nat → Prop) (k ga g xg ob : Nat) (v : Value) (O : List Bool) (puts : Nat) (es : List Ent) (hlv : live es ≤ 1000000) (hlen : es.length ≤ 1000000) (w : World) (h : HoldR w Own k ga g xg ob v O puts es) :
    Calls Try.prog 23 #[ptr g] w fun e w' => e = .returned (.int .i64 (live es : Int)) ∧ w' = w := by
  have c3 := h.c3
  obtain ⟨A, C, kb, rfl, hC, hA, hc⟩ := h.form
  have HA := Lib.hid hA
  have HC := Lib.hid hc
  clear h hA hc
  unfold ptr
  go_enter Try.func23, Try.ntmps23
  go_wp2
  go_loopg [3, 4] es.length (fun kx s i wr => ∃ j : Nat, i = .int .i64 j ∧ s = .int .i64 (live (es.take j) : Int) ∧ j ≤ es.length ∧ es.length - j ≤ kx ∧ Hid (wr = w))
  case atStart => exact ⟨0, rfl, rfl, Nat.zero_le _, by omega, Lib.hid rfl⟩
  case round =>
    obtain ⟨j, rfl, rfl, hj, hgj, HW⟩ := hrel
    obtain rfl := HW.out
    by_cases hlt : j < es.length
    · obtain ⟨d, hd⟩ : ∃ d, es[j]? = some d := ⟨_, List.getElem?_eq_getElem hlt⟩
      obtain ⟨_, d1, _⟩ := HC.out j d hd
      obtain rfl := HA.out (by omega)
      have HT := Lib.hid (live_take hd)
      have h1 := live_le es (j + 1)
      have h2 := live_take hd
      have i1 : (j : Int) < (es.length : Int) := by omega
      have i2 : 0 ≤ (j : Int) := by omega
      unfold Ent.bytes at d1
      rw [h2] at h1
      clear hd h2
      generalize d.x.length = m at *
      generalize live (es.take j) = q at *
      go_wp2
      go_roundg (es.length - (j + 1))
      case measure => omega
      case rel => exact ⟨j + 1, by simp, by rw [HT.out]; simp, by omega, by omega, Lib.hid rfl⟩
    · obtain rfl : j = es.length := by omega
      have HE : Hid (live (es.take es.length) = live es) := Lib.hid (by rw [List.take_length])
      generalize live (es.take es.length) = q at *
      go_wp2
      go_ret
      exact ⟨by rw [← HE.out]; rfl, rfl⟩
theorem infoR : (Try.prog.info? 3).map (fun i => (i.zero, i.size, i.bytes)) = some (some (.int .i64 0), 1, 8) := by kernel_rfl
theorem one_intR (w : World) (v : Value) (t : TypeId) (N : Nat) (hN : N = w.heap.size) : ValsIs (w.alloc (.cells #[v] t)) (.slice (some ⟨N, 0, none⟩) 1 1) 1 [v] := by
  subst hN
  exact ⟨_, 1, w.heap.size, 0, rfl, Nat.le_refl _, fun _ => rfl, fun j hj => by
    obtain rfl : j = 0 := by simpa using hj
    rw [cell_of_row _ _ _ _ _ _ (heap_alloc_new w _)]
    rfl⟩

set_option maxHeartbeats 2000000 in
theorem rlist_any (Own : Nat → Prop) (k ga g xg ob : Nat) (v : Value) (O : List Bool) (puts : Nat) (es : List Ent) (hlen : es.length ≤ 1000000) (w : World) (h : HoldR w Own k ga g xg ob v O puts es) :
    Calls Try.prog 25 #[ptr g] w (IntsPost (ids es) w) := by
  have c3 := h.c3
  have hgl := h.g_lt
  obtain ⟨A, C, kb, rfl, hC, hA, hc⟩ := h.form
  have HA := Lib.hid hA
  have HC := Lib.hid hc
  clear h hA hc
  have C3 := Lib.hid c3
  unfold ptr
  go_enter Try.func25, Try.ntmps25
  go_wp2
  clear c3
  go_loopg [3, 4] es.length (fun kx u i wr => ∃ j : Nat, i = .int .i64 j ∧ j ≤ es.length ∧ es.length - j ≤ kx ∧ Hid (wr.ownsRow w.heap.size 3 1 u j (((ids es).take j).map encZ)) ∧ Hid (Fr0 w wr))
  case atStart => exact ⟨0, rfl, Nat.zero_le _, by omega, Lib.hid (World.ownsRow_nil w _ _ _), Lib.hid (Fr.refl _ _)⟩
  case round =>
    obtain ⟨j, rfl, hj, hgj, HO, HF⟩ := hrel
    have c3 := (HF.out.cell (p := ⟨g, 3, none⟩) hgl (fun f => f)).trans C3.out
    by_cases hlt : j < es.length
    · obtain ⟨d, hd⟩ : ∃ d, es[j]? = some d := ⟨_, List.getElem?_eq_getElem hlt⟩
      obtain ⟨d0, _, _⟩ := HC.out j d hd
      obtain rfl := HA.out (by omega)
      have d0 := (HF.out.cell (p := ⟨kb, j * 3, none⟩) (World.block_lt_of_cell? w _ d0) (fun f => f)).trans d0
      have HT : Hid (((ids es).take (j + 1)).map encZ = ((ids es).take j).map encZ ++ [.int .i64 d.id]) := Lib.hid (by
        have h1 : (ids es)[j]? = some d.id := by unfold ids; rw [List.getElem?_map, hd]; rfl
        rw [List.take_add_one, h1, List.map_append]
        rfl)
      have hws := HF.out.size
      have i1 : (j : Int) < (es.length : Int) := by omega
      have i2 : 0 ≤ (j : Int) := by omega
      clear hd
      generalize d.id = di at *
      have HSA := Lib.hid ((Fr.refl (fun _ => False) wr).alloc (.cells #[.int .i64 di] 3))
      go_wp2_with (refine wpList_append_vals rfl (.tmp 14) (.tmp 23) 38 rfl w.heap.size 3 Try.underlying38 (.int .i64 0) 1 8 infoR rfl (by decide) _ _ j 1 (((ids es).take j).map encZ) [.int .i64 di] rfl rfl (HO.out.alloc _) (one_intR wr _ _ _ rfl) rfl (by intro u hu; simp at hu; subst hu; rfl) (by unfold maxLen; omega) (by omega) (Nat.le_trans hws HSA.out.size) ?_; intro v2 w2 hO2 hG2)
      have HO2 : Hid (w2.ownsRow w.heap.size 3 1 v2 (j + 1) (((ids es).take (j + 1)).map encZ)) := Lib.hid (by rw [HT.out]; exact hO2)
      have HF2 : Hid (Fr0 w w2) := Lib.hid ((HF.out.trans' HSA.out).grown hG2 (fun q hq e => by have := HO.out.lt q e; omega))
      clear hO2 hG2 HSA HO c3 d0
      go_wp2
      go_roundg (es.length - (j + 1))
      case measure => omega
      case rel => exact ⟨j + 1, by simp, by omega, by omega, HO2, HF2⟩
    · obtain rfl : j = es.length := by omega
      have HP : Hid (IntsPost (ids es) w (.returned u3) wr) := Lib.hid (by
        have ho := HO.out
        rw [show (ids es).take es.length = ids es by rw [List.take_of_length_le]; simp [ids]] at ho
        refine ⟨_, rfl, ints_owns ho, HF.out, ?_⟩
        exact Fresh.own ho)
      go_wp2
      go_ret
      exact HP.out
set_option maxHeartbeats 2000000 in
theorem rget_none (Own : Nat → Prop) (k ga g xg ob : Nat) (v : Value) (O : List Bool) (puts : Nat) (es : List Ent) (id : Int) (hid : -9223372036854775808 ≤ id ∧ id ≤ 9223372036854775807) (hlen : es.length ≤ 1000000) (hf : find id es = none) (w : World) (h : HoldR w Own k ga g xg ob v O puts es) :
    Calls Try.prog 22 #[ptr g, .int .i64 id] w fun e w' => e = .returned (.tuple #[.slice none 0 0, .int .i64 7]) ∧ w' = w := by
  have ha := rat_any Own k ga g xg ob v O puts es id hid hlen w h
  clear h
  unfold ptr at ha ⊢
  go_enter Try.func22, Try.ntmps22
  go_wp2_with fail
  refine ha.mono ?_
  rintro e w1 ⟨hz, hc⟩
  obtain rfl : w = w1 := hz.symm
  rcases hc with ⟨_, rfl⟩ | ⟨j, d, _, _, hs, _⟩
  · clear ha
    go_wp2
    go_ret2
    exact ⟨rfl, rfl⟩
  · rw [hf] at hs; cases hs
set_option maxHeartbeats 2000000 in
theorem rget_some (Own : Nat → Prop) (k ga g xg ob : Nat) (v : Value) (O : List Bool) (puts : Nat) (es : List Ent) (id : Int) (hid : -9223372036854775808 ≤ id ∧ id ≤ 9223372036854775807) (hlen : es.length ≤ 1000000) (d : Ent) (hf : find id es = some d) (hx : d.x.length ≤ 65536) (w : World) (h : HoldR w Own k ga g xg ob v O puts es) :
    Calls Try.prog 22 #[ptr g, .int .i64 id] w (GetPost d.x w) := by
  have ha := rat_any Own k ga g xg ob v O puts es id hid hlen w h
  have HH := Lib.hid h
  have hgl := h.g_lt
  have c3 := h.c3
  obtain ⟨A, C, kb, rfl, hC, hA, hc⟩ := h.form
  have HA := Lib.hid hA
  have HC := Lib.hid hc
  clear h hA hc
  unfold ptr at ha ⊢
  go_enter Try.func22, Try.ntmps22
  go_wp2_with fail
  refine ha.mono ?_
  rintro e w1 ⟨hz, hcc⟩
  obtain rfl : w = w1 := hz.symm
  clear hz
  rcases hcc with ⟨hs, _⟩ | ⟨j, d', hd, _, hs, rfl⟩
  · rw [hf] at hs; cases hs
  · rw [hf] at hs
    cases hs
    have hlt := (List.getElem?_eq_some_iff.1 hd).1
    obtain ⟨_, d1, _⟩ := HC.out j d hd
    obtain rfl := HA.out (by omega)
    have HB := Lib.hid (HH.out.lies d (List.mem_of_getElem? hd)).2.1
    have d1 : (w.alloc (.cells #[] 5)).cell? ⟨kb, j * 3 + 1, none⟩ = some d.bytes := (((Fr.refl (fun _ => False) w).alloc _).cell (p := ⟨kb, j * 3 + 1, none⟩) (World.block_lt_of_cell? w _ d1) (fun f => f)).trans d1
    have c3 := (((Fr.refl (fun _ => False) w).alloc (.cells #[] 5)).cell (p := ⟨g, 3, none⟩) hgl (fun f => f)).trans c3
    have i1 : (j : Int) < (es.length : Int) := by omega
    have i2 : 0 ≤ (j : Int) := by omega
    have i3 : ¬ (j : Int) < 0 := by omega
    have HFA := Lib.hid ((Fr.refl (fun _ => False) w).alloc (.cells #[] 5))
    clear ha hf hd
    go_wp2_with (refine wpList_append_bytes rfl (.tmp 12) (.tmp 20) 32 rfl w.heap.size 5 Try.underlying32 info8 _ _ 0 [] d.x rfl rfl (owns_empty w _ _ (Nat.le_refl _) _ rfl) (HB.out.fr0 HFA.out) (by omega) HFA.out.size ?_; intro v6 w6 hO6 hG6)
    have HE : Hid (GetPost d.x w (.returned (.tuple #[v6, .int .i64 0])) w6) := Lib.hid (by
      rw [Nat.zero_add, List.nil_append] at hO6
      exact ⟨v6, rfl, BytesIs.own hO6, HFA.out.grown hG6 (fun i hi e => by cases e; exact absurd hi (Nat.lt_irrefl _)), Fresh.own hO6⟩)
    clear hO6 hG6 c3 d1
    go_wp2
    go_ret2
    exact HE.out
end Go.Proofs.Ytkdpdbjefehmpaa.Hold
