/-
  The row of an ord of things of type int (made by wip/tools/ord.py).
-/
import Derived.Test.YtnglmkombogheaaOrdFindInt
import Derived.Test.YtnglmkombogheaaOrdAll
import Derived.Test.YtnglmkombogheaaWays
import Derived.Deep.RegionLaw
import Derived.Lib.SlicesDelete
import Derived.Lib.Overlaps
import Derived.Lib.AppendZerosOnto
import Derived.Laws.Externs
namespace Go.Proofs.Ytnglmkombogheaa.Ord
open Go.RowKit Base

theorem find_int (B g most : Nat) (es : List Ent) (nm : ByteArray) (w : World) (h : OrdAt w B 56 59 58 g most es) :
    Calls Try.prog 25 #[ptr g, .string nm] w fun e w' => e = .returned (.tuple #[.int .i64 ((place nm es : Nat) : Int), .bool (has nm es)]) ∧ w' = w := by
  obtain ⟨v, ps, h1, h2, h3, _⟩ := h.row
  have c1 : w.cell? ⟨g, 1, none⟩ = some v := by rw [cell_of_row _ _ _ _ _ _ h1]; rfl
  obtain ⟨A, C, rfl, hcells⟩ := PtrsAre.of h2
  have hs := search_int (.slice A ps.length C) ps es nm w ⟨A, C, rfl, hcells⟩ h3 h.srt (by have := h.le; have := h.big; omega)
  clear hcells h1 h2 h3 h
  unfold ptr
  go_enter Try.func25, Try.ntmps25
  go_wp2_with fail
  refine hs.mono ?_
  rintro e w' ⟨rfl, rfl⟩
  go_wp2
  go_ret2
  exact ⟨rfl, rfl⟩

set_option maxHeartbeats 4000000 in
set_option maxRecDepth 1000000 in
/-- one is struck -/
theorem delete_int (B : Nat) (v : Value) (ps : List Nat) (i : Nat) (w : World) (hown : w.ownsRow B 59 1 v ps.length (ps.map ptr)) (hi : i < ps.length) (hn : ps.length ≤ 4096) :
    Calls Try.prog 29 #[v, .int .i64 (i : Int), .int .i64 ((i : Int) + 1)] w fun e w' => ∃ v', e = .returned v' ∧ w'.ownsRow B 59 1 v' (ps.length - 1) ((ps.take i ++ ps.drop (i + 1)).map ptr) ∧ Fr (fun k => v.ownBlock = some k) w w' ∧ v'.ownBlock = v.ownBlock := by
  rcases hown.2 with ⟨_, h0⟩ | ⟨b, cap, cur, rfl, hb, hg, hc, hm, hcs, hcur⟩
  · omega
  · rw [Nat.mul_one] at hcs
    have hbl := lt_of_heap hg
    obtain ⟨n, hn'⟩ : ∃ n, ps.length = n := ⟨_, rfl⟩
    rw [hn'] at hi hn hc hcur hown ⊢
    have hget : ∀ j, j < cap → ∃ u, cur[j]? = some u ∧ w.drew.cell? ⟨b, j, none⟩ = some u := fun j hj => ⟨_, Array.getElem?_eq_getElem (by omega), by
      show w.cell? _ = _
      rw [cell_of_row _ _ _ _ _ _ hg, Array.getElem?_eq_getElem (by omega)]⟩
    obtain ⟨news, hnews⟩ : ∃ news, news = (ps.drop (i + 1)).map ptr := ⟨_, rfl⟩
    have hlen : news.length = n - (i + 1) := by rw [hnews]; simp [hn']
    have hnat : ∀ t u, news[t]? = some u → cur[i + 1 + t]? = some u := fun t u hu => by
      rw [hnews, List.getElem?_map, List.getElem?_drop] at hu
      obtain ⟨p, hp, rfl⟩ := Option.map_eq_some_iff.1 hu
      exact cur_get hcur hp
    obtain ⟨A, hA, hsrc⟩ : ∃ A : Addr, (if cap = i + 1 then some (⟨b, 0, none⟩ : Addr) else some ⟨b, i + 1, none⟩) = some A ∧ Hid (∀ t u, news[t]? = some u → w.drew.cell? (A.add t) = some u) := by
      by_cases h : cap = i + 1
      · refine ⟨⟨b, 0, none⟩, by simp [h], fun t u hu => ?_⟩
        have h0 : news.length = 0 := by rw [hlen]; omega
        rw [List.length_eq_zero_iff.1 h0] at hu
        simp at hu
      · refine ⟨⟨b, i + 1, none⟩, by simp [h], fun t u hu => ?_⟩
        rw [Addr.add_lit]
        show w.cell? _ = _
        rw [cell_of_row _ _ _ _ _ _ hg]
        exact hnat t u hu
    have s1 : Hid (news.length = (n - (i + 1)) * 1) := by rw [Nat.mul_one]; exact hlen
    have s2 : Hid (∀ u ∈ news, u.oneCell' = true) := by rw [hnews]; exact ptr_one _
    have s3 : Hid (∀ t, t < news.length → (w.drew.cell? ⟨b, 0 + i * 1 + t, none⟩).isSome = true ∧ w.drew.frozen? ⟨b, 0 + i * 1 + t, none⟩ = false) := by
      intro t ht
      rw [hlen] at ht
      rw [Nat.mul_one, Nat.zero_add]
      obtain ⟨u, _, hu⟩ := hget (i + t) (by omega)
      exact ⟨by rw [hu]; rfl, by show w.frozen? _ = false; simp [World.frozen?, hg]⟩
    have hgd : w.drew.heap[b]? = some (.cells cur 59 (0, 0)) := hg
    obtain ⟨cs1, g1, z1, e1⟩ := setCells_at news (0 + i * 1) w.drew cur hgd (by rw [hlen]; omega)
    have f1 : Fr (fun k => k = b) w (w.drew.setCells b (0 + i * 1) news) := fr_setCells (S := fun k => k = b) (fun _ => rfl) news (0 + i * 1) w.drew (Fr.refl _ _).drew
    obtain ⟨W1, hW1⟩ : ∃ W1, W1 = w.drew.setCells b (0 + i * 1) news := ⟨_, rfl⟩
    rw [← hW1] at g1 f1
    have hzero : ∀ W, (zeroValue 59).run Try.prog W = .ok (.pointer none) W := Try.zeroValue59
    have hclear : ∀ ty cc, (Builtin.clear_ #[54] ty #[.slice (some ⟨b, n - 1, none⟩) (n - (n - 1)) cc]).run Try.prog W1 = .ok (.tuple #[]) (W1.setCells b (n - 1) [.pointer none]) := fun ty cc => by
      rw [show n - (n - 1) = 1 by omega]
      exact Lib.run_clear_slice W1 _ _ ty _ Try.underlying54 hzero (by rfl) rfl b (n - 1) 1 cc (by omega) (fun t ht => by rw [cell_of_row _ _ _ _ _ _ g1, Array.getElem?_eq_getElem (by omega)]; rfl) (fun t ht => by simp [World.frozen?, g1])
    obtain ⟨cs2, g2, z2, e2⟩ := setCells_at [Value.pointer none] (n - 1) W1 cs1 g1 (by simp; omega)
    have f2 := fr_setCells (S := fun k => k = b) (fun _ => rfl) [Value.pointer none] (n - 1) W1 f1
    have hfin : (W1.setCells b (n - 1) [Value.pointer none]).ownsRow B 59 1 (.slice (some ⟨b, 0, none⟩) (n - 1) cap) (n - 1) ((ps.take i ++ ps.drop (i + 1)).map ptr) := by
      refine owns_of hb g2 (by simp; omega) (by omega) hm (by omega) fun j p hp => ?_
      have hj : j < n - 1 := by have := (List.getElem?_eq_some_iff.1 hp).1; simp at this; omega
      rw [e2 j, if_neg (by simp; omega), e1 j]
      by_cases h : j < i
      · rw [if_neg (by omega)]
        rw [List.getElem?_append_left (by simp; omega), List.getElem?_take, if_pos h] at hp
        exact cur_get hcur hp
      · rw [if_pos (by rw [hlen]; omega)]
        rw [List.getElem?_append_right (by simp; omega), List.length_take, hn', Nat.min_eq_left (by omega), List.getElem?_drop] at hp
        rw [hnews, List.getElem?_map, List.getElem?_drop, show 0 + i * 1 = i by omega, hp]
        rfl
    have HFIN := Lib.hid hfin
    have HF := Lib.hid f2
    have hW := Lib.hid hW1
    have hi0 : (Try.prog.info? 59).map (fun i => (i.zero, i.size, i.bytes)) = some (some (.pointer none), 1, 8) := by kernel_rfl
    obtain ⟨i0, hi1, hz0, hz1, hz2⟩ := info_parts hi0
    have hic : i ≤ cap := by omega
    have hjc : i + 1 ≤ cap := by omega
    have hjn : i + 1 ≤ n := by omega
    have hc63 : cap ≤ 9223372036854775807 := by unfold maxLen at hm; exact hm
    have hls : i + (n - (i + 1)) = n - 1 := by omega
    have hj0 : (0 : Int) ≤ (i : Int) + 1 := by omega
    have hj1 : (i : Int) + 1 ≤ (n : Int) := by omega
    have mixed : Try.prog.follows .mixedOrders = true := by kernel_rfl
    clear hfin f2 hW1 g2 z2 e2 f1 g1 z1 e1 hgd hnat hlen hnews hget hcur hcs hg hown hi0
    go_enter Try.func29, Try.ntmps29
    go_wp2_with fail
    go_region_law_o (refine step_append_room rfl (.tmp 22) (.tmp 25) 54 rfl 59 i0 1 Try.underlying54 hi1 hz1 b 0 i cap (by simp [Act.eval, Act.put]) A (n - (i + 1)) (cap - (i + 1)) news (by simp [Act.eval, Act.put, hA]) s1.out hsrc.out s2.out (by omega) s3.out ?_; rw [← hW.out])
    go_wp2
    go_ret
    exact ⟨_, rfl, HFIN.out, HF.out.mono (fun k _ hk => by have e : k = b := hk; subst e; rfl), rfl⟩

set_option maxHeartbeats 4000000 in
set_option maxRecDepth 1000000 in
/-- one is put in, at the end -/
theorem insert_int_end (B : Nat) (v : Value) (ps : List Nat) (q : Nat) (vb : Nat) (w : World) (hown : w.ownsRow B 59 1 v ps.length (ps.map ptr)) (hB : B ≤ w.heap.size) (hvb : w.heap[vb]? = some (.cells #[ptr q] 59 (0, 0))) (hn : ps.length ≤ 4096) :
    Calls Try.prog 27 #[v, .int .i64 (ps.length : Int), .slice (some ⟨vb, 0, none⟩) 1 1] w fun e w' => ∃ v', e = .returned v' ∧ w'.ownsRow B 59 1 v' (ps.length + 1) ((ps ++ [q]).map ptr) ∧ Fr (fun k => v.ownBlock = some k) w w' ∧ NewRow w v v' := by
  have hV : ValsIs w (.slice (some ⟨vb, 0, none⟩) 1 1) 1 [ptr q] := by
    refine ⟨_, 1, vb, 0, rfl, Nat.le_refl _, fun _ => rfl, fun j hj => ?_⟩
    simp at hj
    subst hj
    rw [cell_of_row _ _ _ _ _ _ hvb]
    rfl
  have hinf : (Try.prog.info? 59).map (fun i => (i.zero, i.size, i.bytes)) = some (some (.pointer none), 1, 8) := by kernel_rfl
  obtain ⟨v', w', hr, ho, hgb, hnr⟩ := run_append_valsN (P := Try.prog) w B 54 54 59 Try.underlying54 (.pointer none) 1 8 hinf rfl (by decide) v (.slice (some ⟨vb, 0, none⟩) 1 1) ps.length 1 (ps.map ptr) [ptr q] hown hV (by decide) rfl (ptr_one [q]) (by unfold maxLen; omega) (by omega) hB
  rw [show ps.map ptr ++ [ptr q] = (ps ++ [q]).map ptr by rw [List.map_append]; rfl] at ho
  have HP := Lib.hid (⟨_, rfl, ho, Fr.of_grown hgb (fun k _ h => h), hnr⟩ : ∃ u, v' = u ∧ w'.ownsRow B 59 1 u (ps.length + 1) ((ps ++ [q]).map ptr) ∧ Fr (fun k => v.ownBlock = some k) w w' ∧ NewRow w v u)
  clear ho hgb hnr
  generalize (ps ++ [q]).map ptr = L at HP ⊢
  rcases hown.2 with ⟨rfl, h0⟩ | ⟨b, cap, cur, rfl, hb, hg, hc, hm, hcs, hcur⟩
  · rw [h0] at HP ⊢
    clear hV hinf hvb
    go_enter Try.func27, Try.ntmps27
    go_wp2_with (at_builtin; refine wpList_append_at rfl _ _ _ _ rfl _ _ rfl rfl hr ?_)
    go_ret
    obtain ⟨u, rfl, ho, hf, hn⟩ := HP.out
    exact ⟨_, rfl, ho, hf, hn⟩
  · obtain ⟨n, hn'⟩ : ∃ n, ps.length = n := ⟨_, rfl⟩
    rw [hn'] at hr HP hn hc hcur ⊢
    have hc63 : cap ≤ 9223372036854775807 := by unfold maxLen at hm; exact hm
    clear hV hinf hvb hown hg hcs hcur hm
    obtain ⟨u, hu, ho, hf, hnr⟩ := HP.out
    have HO := Lib.hid ho
    have HF := Lib.hid hf
    have HNR := Lib.hid hnr
    subst hu
    clear HP ho hf hnr
    by_cases hcn : cap = n
    · subst hcn
      go_enter Try.func27, Try.ntmps27
      go_wp2_with (at_builtin; refine wpList_append_at rfl _ _ _ _ rfl _ _ rfl rfl hr ?_)
      go_ret
      exact ⟨_, rfl, HO.out, HF.out, HNR.out⟩
    · go_enter Try.func27, Try.ntmps27
      go_wp2_with (at_builtin; refine wpList_append_at rfl _ _ _ _ rfl _ _ rfl rfl hr ?_)
      go_ret
      exact ⟨_, rfl, HO.out, HF.out, HNR.out⟩
set_option maxHeartbeats 4000000 in
set_option maxRecDepth 1000000 in
/-- one is put in ahead of others, where there is room: in place -/
theorem insert_int_room (B b cap : Nat) (cur : Array Value) (ps : List Nat) (n i : Nat) (q : Nat) (vb : Nat) (w : World) (hb : B ≤ b) (hg : w.heap[b]? = some (.cells cur 59 (0, 0))) (hm : cap ≤ maxLen) (hcs : cur.size = cap) (hcur : cur.toList.take (n * 1) = ps.map ptr) (hn' : ps.length = n) (hi : i < n) (hroom : n + 1 ≤ cap)
    (hvb : w.heap[vb]? = some (.cells #[ptr q] 59 (0, 0))) (hne : vb ≠ b) :
    Calls Try.prog 27 #[.slice (some ⟨b, 0, none⟩) n cap, .int .i64 (i : Int), .slice (some ⟨vb, 0, none⟩) 1 1] w fun e w' => ∃ v', e = .returned v' ∧ w'.ownsRow B 59 1 v' (n + 1) ((ps.take i ++ q :: ps.drop i).map ptr) ∧ Fr (fun k => k = b) w w' ∧ v'.ownBlock = some b := by
  have hsz : (Try.prog.info? 59).map (·.size) = some 1 := by kernel_rfl
  have hov : ∀ lb cb, (callFunc 33 #[.slice (some ⟨vb, 0, none⟩) 1 1, .slice (some ⟨b, i + 1, none⟩) lb cb]).run Try.prog w = .ok (.value (.bool false)) w := fun lb cb => by
    rw [run_callFunc_extern Try.func33 (by kernel_rfl) (by kernel_rfl) (by kernel_rfl) (e := Extern.SlicesOverlaps.overlaps #[54, 54] #[4]) (by kernel_rfl),
      Lib.run_overlaps_apart w 54 4 59 Try.underlying54 1 (fun w => by first | exact Try.sizeOf59 w | kernel_rfl) ⟨vb, 0, none⟩ ⟨b, i + 1, none⟩ 1 1 lb cb hne 59 59 1 cur.size (by unfold World.shape?; rw [hvb]; rfl) (by unfold World.shape?; rw [hg]) (by omega) (by simp [World.frozen?, hvb]) (by simp [World.frozen?, hvb])]
    rfl
  obtain ⟨cs, hcsd⟩ : ∃ cs, cs = (ps.drop i).map ptr := ⟨_, rfl⟩
  have hlen : cs.length = n - i := by rw [hcsd]; simp [hn']
  have hgd : w.drew.heap[b]? = some (.cells cur 59 (0, 0)) := hg
  obtain ⟨A1, hA1⟩ : ∃ A1, A1 = (cur.toList.take (i + 1) ++ cs ++ cur.toList.drop (i + 1 + cs.length)).toArray := ⟨_, rfl⟩
  have hs1 : A1.size = cap := by rw [hA1, splice_size cur (i + 1) cs (by omega), hcs]
  have he1 : ∀ j, A1[j]? = if i + 1 ≤ j ∧ j < i + 1 + cs.length then cs[j - (i + 1)]? else cur[j]? := fun j => by rw [hA1]; exact splice_at cur (i + 1) cs (by omega) j
  obtain ⟨W1, hW1⟩ : ∃ W1, W1 = w.drew.setRow b A1 := ⟨_, rfl⟩
  have hcp1 : ∀ ty dl dc sl sc, dl = n - i → n - i ≤ sl → (Builtin.copy_ #[54, 54] ty #[.slice (some ⟨b, i + 1, none⟩) dl dc, .slice (some ⟨b, i, none⟩) sl sc]).run Try.prog w.drew = .ok (goInt cs.length) W1 := fun ty dl dc sl sc h1 h2 => by
    rw [hW1, hA1]
    exact run_copy_row Try.prog w.drew _ _ ty 59 b (i + 1) dl dc ⟨b, i, none⟩ sl sc cur 59 cs Try.underlying54 hsz hgd (by rw [hlen]; simp only [Nat.min_def]; split <;> omega)
      (fun j v hj => by
        rw [Addr.add_lit, cell_of_row _ _ _ _ _ _ hgd]
        rw [hcsd, List.getElem?_map, List.getElem?_drop] at hj
        obtain ⟨p, hp, rfl⟩ := Option.map_eq_some_iff.1 hj
        exact cur_get hcur hp) (by omega) (by rw [hcsd]; exact ptr_one _)
  have g1 : W1.heap[b]? = some (.cells A1 59 (0, 0)) := by rw [hW1]; exact setRow_heap _ _ _ _ _ _ hgd
  have v1 : W1.heap[vb]? = some (.cells #[ptr q] 59 (0, 0)) := by rw [hW1, setRow_other _ _ _ _ hne]; exact hvb
  have f1 : Fr (fun k => k = b) w W1 := by rw [hW1]; exact Fr.setRow (S := fun k => k = b) (Fr.refl _ w).drew (fun _ => rfl) _
  obtain ⟨A2, hA2⟩ : ∃ A2, A2 = (A1.toList.take i ++ [ptr q] ++ A1.toList.drop (i + [ptr q].length)).toArray := ⟨_, rfl⟩
  have hs2 : A2.size = cap := by rw [hA2, splice_size A1 i [ptr q] (by simp; omega), hs1]
  have he2 : ∀ j, A2[j]? = if i ≤ j ∧ j < i + [ptr q].length then [ptr q][j - i]? else A1[j]? := fun j => by rw [hA2]; exact splice_at A1 i [ptr q] (by simp; omega) j
  obtain ⟨W2, hW2⟩ : ∃ W2, W2 = W1.setRow b A2 := ⟨_, rfl⟩
  have hcp2 : ∀ ty dl dc, 1 ≤ dl → (Builtin.copy_ #[54, 54] ty #[.slice (some ⟨b, i, none⟩) dl dc, .slice (some ⟨vb, 0, none⟩) 1 1]).run Try.prog W1 = .ok (goInt 1) W2 := fun ty dl dc h1 => by
    rw [hW2, hA2]
    exact run_copy_row Try.prog W1 _ _ ty 59 b i dl dc ⟨vb, 0, none⟩ 1 1 A1 59 [ptr q] Try.underlying54 hsz g1 (by simp only [Nat.min_def]; split <;> first | rfl | omega | (simp; omega))
      (fun j v hj => by
        rw [Addr.add_lit, cell_of_row _ _ _ _ _ _ v1]
        have hj0 : j = 0 := by have := (List.getElem?_eq_some_iff.1 hj).1; simp at this; exact this
        subst hj0
        simpa using hj) (by simp; omega) (ptr_one [q])
  have g2 : W2.heap[b]? = some (.cells A2 59 (0, 0)) := by rw [hW2]; exact setRow_heap _ _ _ _ _ _ g1
  have f2 : Fr (fun k => k = b) w W2 := by rw [hW2]; exact f1.setRow (fun _ => rfl) _
  have hfin : W2.ownsRow B 59 1 (.slice (some ⟨b, 0, none⟩) (n + 1) cap) (n + 1) ((ps.take i ++ q :: ps.drop i).map ptr) := by
    refine owns_of hb g2 (by simp; omega) hroom hm hs2 fun j p hp => ?_
    rw [ins_at (by omega)] at hp
    rw [he2 j]
    simp only [List.length_cons, List.length_nil]
    by_cases h1 : j < i
    · rw [if_pos h1] at hp
      rw [if_neg (by omega), he1 j, if_neg (by omega)]
      exact cur_get hcur hp
    · rw [if_neg h1] at hp
      by_cases h2 : j = i
      · subst h2
        rw [if_pos rfl] at hp
        cases hp
        rw [if_pos (by omega)]
        simp
      · rw [if_neg h2] at hp
        have hjl := (List.getElem?_eq_some_iff.1 hp).1
        rw [if_neg (by omega), he1 j, if_pos (by omega), hcsd, List.getElem?_map, List.getElem?_drop, show i + (j - (i + 1)) = j - 1 by omega, hp]
        rfl
  have HFIN := Lib.hid hfin
  have HF := Lib.hid f2
  have mixed : Try.prog.follows .mixedOrders = true := by kernel_rfl
  have hc63 : cap ≤ 9223372036854775807 := by unfold maxLen at hm; exact hm
  have w1 : IntKind.i64.wrap ((i : Int) + 1) = (i : Int) + 1 := by rw [IntKind.wrap_i64]; omega
  have w2 : IntKind.i64.wrap ((n : Int) + 1) = (n : Int) + 1 := by rw [IntKind.wrap_i64]; omega
  have a12 : (i : Int) + 1 ≤ (n : Int) + 1 := by omega
  have a1 : ¬ ((i : Int) = (n : Int)) := by omega
  have a2 : ¬ ((cap : Int) < (n : Int) + 1) := by omega
  have a3 : ¬ (cap = i) := by omega
  have a4 : ¬ (cap = i + 1) := by omega
  have a5 : (0 : Int) ≤ (i : Int) + 1 := by omega
  have a6 : ((i : Int) + 1).toNat = i + 1 := by omega
  have a7 : (i : Int) ≤ (n : Int) := by omega
  have a8 : (i : Int) ≤ (n : Int) + 1 := by omega
  have a9 : i ≤ n := by omega
  have a10 : (0 : Int) ≤ (n : Int) + 1 := by omega
  have a11 : ((n : Int) + 1).toNat = n + 1 := by omega
  clear hfin f2 g2 f1 v1 g1 hgd hg hvb hW1 hW2 hA1 hA2 hs1 hs2 he1 he2 hcs hcur hsz
  have HC1 := Lib.hid hcp1
  have hq := fun ty => hcp2 ty (n + 1 - i) (cap - i) (by omega)
  clear hcp1 hcp2
  go_enter Try.func27, Try.ntmps27
  go_wp2_with (simp only [hov])
  go_region_law_o (refine step_copy_at rfl _ _ 54 54 rfl (.slice (some ⟨b, i + 1, none⟩) (n - i) (cap - (i + 1))) (.slice (some ⟨b, i, none⟩) (n + 1 - i) (cap - i)) (by simp [Act.eval, Act.put]) (by simp [Act.eval, Act.put]) (HC1.out _ _ _ _ _ rfl (by omega)) ?_)
  go_wp2
  go_ret
  exact ⟨_, rfl, HFIN.out, HF.out, rfl⟩
set_option maxHeartbeats 4000000 in
set_option maxRecDepth 1000000 in
/-- one is put in ahead of others, where there is no room: a new row -/
theorem insert_int_grow (B b cap : Nat) (cur : Array Value) (ps : List Nat) (n i : Nat) (q : Nat) (vb : Nat) (w : World) (hB : B ≤ w.heap.size) (hg : w.heap[b]? = some (.cells cur 59 (0, 0))) (hcap : n ≤ cap) (hcur : cur.toList.take (n * 1) = ps.map ptr) (hn' : ps.length = n) (hi : i < n) (hn : n ≤ 4096) (hroom : cap < n + 1)
    (hvb : w.heap[vb]? = some (.cells #[ptr q] 59 (0, 0))) :
    Calls Try.prog 27 #[.slice (some ⟨b, 0, none⟩) n cap, .int .i64 (i : Int), .slice (some ⟨vb, 0, none⟩) 1 1] w fun e w' => ∃ v', e = .returned v' ∧ w'.ownsRow B 59 1 v' (n + 1) ((ps.take i ++ q :: ps.drop i).map ptr) ∧ Fr0 w w' ∧ v'.ownBlock = some w.heap.size := by
  have hinf : (Try.prog.info? 59).map (fun i => (i.zero, i.size, i.bytes)) = some (some (.pointer none), 1, 8) := by kernel_rfl
  obtain ⟨i0, hi1, hz0, hz1, hz2⟩ := info_parts hinf
  have hsz : (Try.prog.info? 59).map (·.size) = some 1 := by rw [hi1]; simp [hz1]
  have hbl := lt_of_heap hg
  have hvl := lt_of_heap hvb
  have hold : (Builtin.firstCells i0.size i (.slice (some ⟨b, 0, none⟩) i cap)).run Try.prog w.drew = .ok ((ps.take i).map ptr).toArray w.drew := by
    rw [hz1]
    exact run_firstCells_some w.drew 1 i ⟨b, 0, none⟩ i cap ((ps.take i).map ptr) (by simp; omega) (fun j v hj => by
      rw [Addr.add_lit, Nat.zero_add]
      show w.cell? _ = _
      rw [cell_of_row _ _ _ _ _ _ hg]
      rw [List.getElem?_map, List.getElem?_take] at hj
      split at hj
      · obtain ⟨p, hp, rfl⟩ := Option.map_eq_some_iff.1 hj
        exact cur_get hcur hp
      · cases hj)
  obtain ⟨G, hG⟩ : ∃ G, G = grownCap w (n + 1) cap 59 := ⟨_, rfl⟩
  have hGn : n + 1 ≤ G := by rw [hG]; exact grownCap_ge w _ _ _
  have hGm : G ≤ maxLen := by rw [hG]; exact grownCap_le_maxLen w (n + 1) cap 59 (by unfold maxLen; omega)
  obtain ⟨ROW, hROW⟩ : ∃ ROW : Array Value, ROW = ((ps.take i).map ptr).toArray ++ Builtin.zeroCells (Value.pointer none).cells (n + 1 - i) ++ Builtin.zeroCells (Value.pointer none).cells (G - (n + 1)) := ⟨_, rfl⟩
  obtain ⟨W1, hW1⟩ : ∃ W1, W1 = w.drew.alloc (.cells ROW 59) := ⟨_, rfl⟩
  have hrz : (Builtin.append_ #[54, 3] 54 #[.slice (some ⟨b, 0, none⟩) i cap, .int .i64 ((n : Int) + 1 - (i : Int))]).run Try.prog w = .ok (.slice (some ⟨w.heap.size, 0, none⟩) (n + 1) G) W1 := by
    have hik : i + (n + 1 - i) = n + 1 := by omega
    have h := Lib.run_append_grow_zeros w 54 3 54 59 i0 _ .i64 .i64 Try.underlying54 Try.underlying3 hi1 hz0 (some ⟨b, 0, none⟩) i cap ((ps.take i).map ptr) hold (n + 1 - i) (by omega) (by omega) (by omega) (by omega) (by rw [hz2]; omega) (by rw [hz2, hik]; exact growslice_fits hroom (by omega))
    rw [hik, ← hG, ← hROW, ← hW1] at h
    rw [show (n : Int) + 1 - (i : Int) = ((n + 1 - i : Nat) : Int) by omega]
    exact h
  have hRl : ROW.size = G := by
    rw [hROW]
    simp [Builtin.zeroCells, Value.cells, hn']
    omega
  have hRg : ∀ j p, j < i → ps[j]? = some p → ROW[j]? = some (ptr p) := fun j p hj hp => by
    rw [hROW]
    have hl : j < (((ps.take i).map ptr).toArray).size := by simp; omega
    rw [Array.append_assoc, Array.getElem?_append_left hl]
    simp [hj, hp]
  have g1 : W1.heap[w.heap.size]? = some (.cells ROW 59 (0, 0)) := by rw [hW1]; exact heap_alloc_new w.drew _
  have f1 : Fr0 w W1 := by rw [hW1]; exact (Fr.refl _ w).drew.alloc _
  obtain ⟨A1, hA1⟩ : ∃ A1, A1 = (ROW.toList.take i ++ [ptr q] ++ ROW.toList.drop (i + [ptr q].length)).toArray := ⟨_, rfl⟩
  have hs1 : A1.size = G := by rw [hA1, splice_size ROW i [ptr q] (by simp; omega), hRl]
  have he1 : ∀ j, A1[j]? = if i ≤ j ∧ j < i + [ptr q].length then [ptr q][j - i]? else ROW[j]? := fun j => by rw [hA1]; exact splice_at ROW i [ptr q] (by simp; omega) j
  have v1 : W1.heap[vb]? = some (.cells #[ptr q] 59 (0, 0)) := f1.heap hvb (fun f => f)
  obtain ⟨W2, hW2⟩ : ∃ W2, W2 = W1.setRow w.heap.size A1 := ⟨_, rfl⟩
  have hcp1 : ∀ ty, (Builtin.copy_ #[54, 54] ty #[.slice (some ⟨w.heap.size, i, none⟩) (n + 1 - i) (G - i), .slice (some ⟨vb, 0, none⟩) 1 1]).run Try.prog W1 = .ok (goInt 1) W2 := fun ty => by
    rw [hW2, hA1]
    exact run_copy_row Try.prog W1 _ _ ty 59 w.heap.size i (n + 1 - i) (G - i) ⟨vb, 0, none⟩ 1 1 ROW 59 [ptr q] Try.underlying54 hsz g1 (by simp only [Nat.min_def]; split <;> first | rfl | omega | (simp; omega))
      (fun j v hj => by
        rw [Addr.add_lit, cell_of_row _ _ _ _ _ _ v1]
        have hj0 : j = 0 := by have := (List.getElem?_eq_some_iff.1 hj).1; simp at this; exact this
        subst hj0
        simpa using hj) (by simp; omega) (ptr_one [q])
  have g2 : W2.drew.heap[w.heap.size]? = some (.cells A1 59 (0, 0)) := by show W2.heap[w.heap.size]? = _; rw [hW2]; exact setRow_heap _ _ _ _ _ _ g1
  have f2 : Fr0 w W2 := by rw [hW2]; exact f1.setRow (fun h => by omega) _
  have b2 : W2.drew.heap[b]? = some (.cells cur 59 (0, 0)) := f2.heap hg (fun f => f)
  obtain ⟨cs, hcsd⟩ : ∃ cs, cs = (ps.drop i).map ptr := ⟨_, rfl⟩
  have hlen : cs.length = n - i := by rw [hcsd]; simp [hn']
  obtain ⟨A2, hA2⟩ : ∃ A2, A2 = (A1.toList.take (i + 1) ++ cs ++ A1.toList.drop (i + 1 + cs.length)).toArray := ⟨_, rfl⟩
  have hs2 : A2.size = G := by rw [hA2, splice_size A1 (i + 1) cs (by omega), hs1]
  have he2 : ∀ j, A2[j]? = if i + 1 ≤ j ∧ j < i + 1 + cs.length then cs[j - (i + 1)]? else A1[j]? := fun j => by rw [hA2]; exact splice_at A1 (i + 1) cs (by omega) j
  obtain ⟨W3, hW3⟩ : ∃ W3, W3 = W2.drew.setRow w.heap.size A2 := ⟨_, rfl⟩
  have hcp2 : ∀ ty, (Builtin.copy_ #[54, 54] ty #[.slice (some ⟨w.heap.size, i + 1, none⟩) (n - i) (G - (i + 1)), .slice (some ⟨b, i, none⟩) (n - i) (cap - i)]).run Try.prog W2.drew = .ok (goInt cs.length) W3 := fun ty => by
    rw [hW3, hA2]
    exact run_copy_row Try.prog W2.drew _ _ ty 59 w.heap.size (i + 1) (n - i) (G - (i + 1)) ⟨b, i, none⟩ (n - i) (cap - i) A1 59 cs Try.underlying54 hsz g2 (by rw [hlen]; simp only [Nat.min_def]; split <;> omega)
      (fun j v hj => by
        rw [Addr.add_lit, cell_of_row _ _ _ _ _ _ b2]
        rw [hcsd, List.getElem?_map, List.getElem?_drop] at hj
        obtain ⟨p, hp, rfl⟩ := Option.map_eq_some_iff.1 hj
        exact cur_get hcur hp) (by omega) (by rw [hcsd]; exact ptr_one _)
  have g3 : W3.heap[w.heap.size]? = some (.cells A2 59 (0, 0)) := by rw [hW3]; exact setRow_heap _ _ _ _ _ _ g2
  have f3 : Fr0 w W3 := by rw [hW3]; exact Fr.setRow f2.drew (fun h => by omega) _
  have hfin : W3.ownsRow B 59 1 (.slice (some ⟨w.heap.size, 0, none⟩) (n + 1) G) (n + 1) ((ps.take i ++ q :: ps.drop i).map ptr) := by
    refine owns_of hB g3 (by simp; omega) hGn hGm hs2 fun j p hp => ?_
    rw [ins_at (by omega)] at hp
    rw [he2 j]
    by_cases h1 : j < i
    · rw [if_pos h1] at hp
      rw [if_neg (by omega), he1 j, if_neg (by omega)]
      exact hRg j p h1 hp
    · rw [if_neg h1] at hp
      by_cases h2 : j = i
      · subst h2
        rw [if_pos rfl] at hp
        cases hp
        rw [if_neg (by omega), he1 j, if_pos (by simp)]
        simp
      · rw [if_neg h2] at hp
        have hjl := (List.getElem?_eq_some_iff.1 hp).1
        rw [if_pos (by omega), hcsd, List.getElem?_map, List.getElem?_drop, show i + (j - (i + 1)) = j - 1 by omega, hp]
        rfl
  have HFIN := Lib.hid hfin
  have HF := Lib.hid f3
  have mixed : Try.prog.follows .mixedOrders = true := by kernel_rfl
  have hG63 : G ≤ 9223372036854775807 := by unfold maxLen at hGm; exact hGm
  have w1 : IntKind.i64.wrap ((i : Int) + 1) = (i : Int) + 1 := by rw [IntKind.wrap_i64]; omega
  have w2 : IntKind.i64.wrap ((n : Int) + 1) = (n : Int) + 1 := by rw [IntKind.wrap_i64]; omega
  have w3 : IntKind.i64.wrap ((n : Int) + 1 - (i : Int)) = (n : Int) + 1 - (i : Int) := by rw [IntKind.wrap_i64]; omega
  have a12 : (i : Int) + 1 ≤ (n : Int) + 1 := by omega
  have a1 : ¬ ((i : Int) = (n : Int)) := by omega
  have a2 : (cap : Int) < (n : Int) + 1 := by omega
  have a3 : ¬ (cap = i) := by omega
  have a4 : ¬ (G = i + 1) := by omega
  have a13 : ¬ (G = i) := by omega
  have a5 : (0 : Int) ≤ (i : Int) + 1 := by omega
  have a6 : ((i : Int) + 1).toNat = i + 1 := by omega
  have a7 : (i : Int) ≤ (n : Int) := by omega
  have a8 : (i : Int) ≤ (n : Int) + 1 := by omega
  have a9 : i ≤ n := by omega
  have a14 : i ≤ cap := by omega
  clear hfin f3 g3 b2 f2 g2 v1 f1 g1 hg hvb hW1 hW2 hW3 hA1 hA2 hs1 hs2 he1 he2 hcur hsz hRl hRg hROW hG hold hinf hz0 hz1 hz2 hi1
  go_enter Try.func27, Try.ntmps27
  go_wp2_with (at_builtin; refine wpList_append_at rfl _ _ _ _ rfl _ _ rfl rfl hrz ?_)
  go_region_law_o (refine step_copy_at rfl _ _ 54 54 rfl (.slice (some ⟨w.heap.size, i + 1, none⟩) (n - i) (G - (i + 1))) (.slice (some ⟨b, i, none⟩) (n - i) (cap - i)) (by simp [Act.eval, Act.put]) (by simp [Act.eval, Act.put]) (hcp2 _) ?_)
  go_wp2
  go_ret
  exact ⟨_, rfl, HFIN.out, HF.out, rfl⟩
/-- one is put in, wherever -/
theorem insert_int_row (B : Nat) (v : Value) (ps : List Nat) (n i : Nat) (q : Nat) (vb : Nat) (w : World) (hown : w.ownsRow B 59 1 v n (ps.map ptr)) (hi : i ≤ n) (hn : n ≤ 4096) (hB : B ≤ w.heap.size)
    (hvb : w.heap[vb]? = some (.cells #[ptr q] 59 (0, 0))) (hne : v.ownBlock ≠ some vb) :
    Calls Try.prog 27 #[v, .int .i64 (i : Int), .slice (some ⟨vb, 0, none⟩) 1 1] w fun e w' => ∃ v', e = .returned v' ∧ w'.ownsRow B 59 1 v' (n + 1) ((ps.take i ++ q :: ps.drop i).map ptr) ∧ Fr (fun k => v.ownBlock = some k) w w' ∧ NewRow w v v' := by
  have hl := hown.1
  rw [List.length_map, Nat.mul_one] at hl
  rcases Nat.lt_or_eq_of_le hi with hlt | rfl
  · rcases hown.2 with ⟨_, h0⟩ | ⟨b, cap, cur, rfl, hb, hg, hc, hm, hcs, hcur⟩
    · omega
    · rw [Nat.mul_one] at hcs
      by_cases hr : n + 1 ≤ cap
      · refine (insert_int_room B b cap cur ps n i q vb w hb hg hm hcs hcur hl hlt hr hvb (fun e => hne (by rw [e]; rfl))).mono ?_
        rintro e w' ⟨v', h1, h2, h3, h4⟩
        exact ⟨v', h1, h2, h3.mono (fun k _ hk => by have e : k = b := hk; subst e; rfl), .inl h4⟩
      · refine (insert_int_grow B b cap cur ps n i q vb w hB hg hc hcur hl hlt hn (by omega) hvb).mono ?_
        rintro e w' ⟨v', h1, h2, h3, h4⟩
        exact ⟨v', h1, h2, h3.zero, .inr fun k hk => by rw [h4] at hk; cases hk; exact Nat.le_refl _⟩
  · subst hl
    refine (insert_int_end B v ps q vb w hown hB hvb hn).mono ?_
    rintro e w' ⟨v', h1, h2, h3, h4⟩
    exact ⟨v', h1, by rw [List.take_length, List.drop_length]; exact h2, h3, h4⟩
/-- .. -/
theorem insert_int (B : Nat) (v : Value) (ps : List Nat) (n i : Nat) (q : Nat) (vb : Nat) (w : World) (hown : w.ownsRow B 59 1 v n (ps.map ptr)) (hi : i ≤ n) (hn : n ≤ 4096) (hB : B ≤ w.heap.size)
    (hvb : w.heap[vb]? = some (.cells #[ptr q] 59 (0, 0))) (hne : v.ownBlock ≠ some vb) :
    Calls Try.prog 27 #[v, .int .i64 (i : Int), .slice (some ⟨vb, 0, none⟩) 1 1] w fun e w' => ∃ v', e = .returned v' ∧ w'.ownsRow B 59 1 v' (n + 1) ((ps.take i ++ q :: ps.drop i).map ptr) ∧ Fr (fun k => v.ownBlock = some k) w w' :=
  (insert_int_row B v ps n i q vb w hown hi hn hB hvb hne).mono fun _ _ ⟨v', h1, h2, h3, _⟩ => ⟨v', h1, h2, h3⟩
end Go.Proofs.Ytnglmkombogheaa.Ord
