/-
  MacSame: compared either way round it is the same; alike just if all is: the walk.
-/
import Derived.Test.YtmmcnoapkdhgpaaDoorMacParts
import Derived.Deep.DeepCutAuto
namespace Go.Proofs.YtmmcnoapkdhgpaaDoor.Mac
open Go.RowKit Base Sha

theorem set_same (l : List UInt8) (i : Nat) (hi : i < l.length) (p : UInt8) : decide (l = l.set i (l.getD i 0 ^^^ p)) = ((p.toNat : Int) == 0) := by
  rw [Bool.eq_iff_iff, decide_eq_true_eq, beq_iff_eq]
  constructor
  · intro h
    have h1 := congrArg (fun l : List UInt8 => l.getD i 0) h
    simp only [List.getD_eq_getElem?_getD, List.getElem?_set_self hi, Option.getD_some] at h1
    have h2 := congrArg UInt8.toNat h1
    rw [UInt8.toNat_xor] at h2
    generalize (l[i]?.getD 0).toNat = X at h2
    have h3 : X ^^^ X = X ^^^ (X ^^^ p.toNat) := by rw [← h2]
    rw [← Nat.xor_assoc, Nat.xor_self, Nat.zero_xor] at h3
    omega
  · intro h
    have hp : p = 0 := by apply UInt8.toNat_inj.1; show p.toNat = 0; omega
    subst hp
    apply List.ext_getElem?
    intro j
    by_cases hj : j = i
    · subst hj
      rw [List.getElem?_set_self hi]
      simp [hi]
    · rw [List.getElem?_set_ne (Ne.symm hj)]
theorem same_flip (v0 v1 : Value) (la lb : List UInt8) (ha : la.length ≤ 9223372036854775807) (hb : lb.length ≤ 9223372036854775807) (d : Bool) (hd : decide (la = lb) = d) (w : World) (hA : BytesIs w v0 la) (hB : BytesIs w v1 lb) :
    (Calls Tryd.prog 22 #[v0, v1] w fun e w' => e = .returned (.bool d) ∧ Fr0 w w') ∧ (Calls Tryd.prog 22 #[v1, v0] w fun e w' => e = .returned (.bool d) ∧ Fr0 w w') ∧ (Calls Tryd.prog 22 #[v0, v0] w fun e w' => e = .returned (.bool true) ∧ Fr0 w w') := by
  subst hd
  refine ⟨same_any v0 v1 la lb ha hb w hA hB, ?_, ?_⟩
  · have := same_any v1 v0 lb la hb ha w hB hA
    rw [show decide (lb = la) = decide (la = lb) from by rw [decide_eq_decide]; exact eq_comm] at this
    exact this
  · have := same_any v0 v0 la la ha ha w hA hA
    simp only [decide_true] at this
    exact this
theorem str_beq (la lb : List UInt8) (d : Bool) (hd : decide (la = lb) = d) : (la == lb) = d := by
  subst hd
  rw [Bool.eq_iff_iff, beq_iff_eq, decide_eq_true_eq]
set_option maxHeartbeats 1000000 in
set_option maxRecDepth 100000 in
theorem macSame_walk (v0 v1 : Value) (x y : List UInt8) (at_ : Int) (by_ : Int) (hx : x.length ≤ 9223372036854775807) (hy : y.length ≤ 9223372036854775807) (hat : -9223372036854775808 ≤ at_ ∧ at_ ≤ 9223372036854775807) (hby : 0 ≤ by_ ∧ by_ ≤ 255) (w : World) (hA : BytesIs w v0 x) (hB : BytesIs w v1 y)
    (hK : Rounds w) (hg : 0 < w.heap.size) :
    Calls Tryd.prog 11 #[v0, v1, .int .i64 at_, .int .u8 by_] w fun e w' => e = .returned (.bool true) ∧ Fr0 w w' := by
  obtain ⟨p, rfl⟩ : ∃ p : UInt8, by_ = (p.toNat : Int) := ⟨UInt8.ofNat by_.toNat, by simp; omega⟩
  have HA := Lib.hid hA
  have HB := Lib.hid hB
  have HK := Lib.hid hK
  obtain ⟨a0, cap0, _, _, rfl, _⟩ := hA
  obtain ⟨a1, cap1, _, _, rfl, _⟩ := hB
  clear hK
  by_cases hbad : 500 < x.length ∨ 500 < y.length
  · go_enter Tryd.func11, Tryd.ntmps11
    go_wp2_with fail
    refine (awake_any _ HK.out hg).mono ?_
    rintro e w1 ⟨rfl, hF1⟩
    have HF1 := Lib.hid hF1
    clear hF1
    by_cases h1 : 500 < x.length
    · clear hbad
      go_wp2
      go_ret
      exact ⟨rfl, HF1.out⟩
    · have h2 : 500 < y.length := by omega
      clear hbad
      go_wp2
      go_ret
      exact ⟨rfl, HF1.out⟩
  · have h1 : ¬ 500 < x.length := by omega
    have h2 : ¬ 500 < y.length := by omega
    clear hbad
    go_enter Tryd.func11, Tryd.ntmps11
    go_wp2_with fail
    refine (awake_any _ HK.out hg).mono ?_
    rintro e w1 ⟨rfl, hF1⟩
    have HF1 := Lib.hid hF1
    have hs1 := hF1.size
    clear hF1
    go_wp2_with fail
    have HA1 := Lib.hid (HA.out.fr0 HF1.out)
    have HB1 := Lib.hid (HB.out.fr0 HF1.out)
    generalize hD : decide (x = y) = d
    have HD := Lib.hid hD
    clear hD
    have S := fun (wx : World) (h : Fr0 w1 wx) => same_flip (.slice a0 x.length cap0) (.slice a1 y.length cap1) x y hx hy d HD.out wx (HA1.out.fr0 h) (HB1.out.fr0 h)
    have SX := fun (wx : World) (h : Fr0 w1 wx) => (HA1.out.fr0 h).convert (P := Tryd.prog) 30 9 5 Tryd.underlying30 Tryd.underlying5 Tryd.underlying9
    have SY := fun (wx : World) (h : Fr0 w1 wx) => (HB1.out.fr0 h).convert (P := Tryd.prog) 30 9 5 Tryd.underlying30 Tryd.underlying5 Tryd.underlying9
    have hS := str_beq x y d HD.out
    have HS := Lib.hid hS
    have HSS := Lib.hid S
    have HSX := Lib.hid SX
    have HSY := Lib.hid SY
    clear hS S SX SY
    have hdd : (d != d) = false := by cases d <;> rfl
    refine region_held (Fr0 w1) (by kernel_rfl) (by kernel_rfl) ((Fr.refl _ _).drew) ?_
    refine heldVal (.slice a0 x.length cap0) rfl (fun wx h => by go_simp) ?_
    go_frame
    refine heldVal (.slice a1 y.length cap1) rfl (fun wx h => by go_simp) ?_
    go_frame
    refine heldCall 22 #[.slice a0 x.length cap0, .slice a1 y.length cap1] (.bool d) rfl (fun wx h => by go_simp) (fun wx h => ((HSS.out wx h).1).mono fun e w' ⟨he, hf⟩ => ⟨he, h.trans' hf⟩) ?_
    go_frame
    refine heldVal (.slice a1 y.length cap1) rfl (fun wx h => by go_simp) ?_
    go_frame
    refine heldVal (.slice a0 x.length cap0) rfl (fun wx h => by go_simp) ?_
    go_frame
    refine heldCall 22 #[.slice a1 y.length cap1, .slice a0 x.length cap0] (.bool d) rfl (fun wx h => by go_simp) (fun wx h => ((HSS.out wx h).2.1).mono fun e w' ⟨he, hf⟩ => ⟨he, h.trans' hf⟩) ?_
    go_frame
    refine heldVal (.bool false) rfl (fun wx h => by go_simp) ?_
    go_frame
    refine heldVal (.bool false) rfl (fun wx h => by go_simp) ?_
    go_frame
    refine heldVal (.slice a0 x.length cap0) rfl (fun wx h => by go_simp) ?_
    go_frame
    refine heldVal (.slice a0 x.length cap0) rfl (fun wx h => by go_simp) ?_
    go_frame
    refine heldCall 22 #[.slice a0 x.length cap0, .slice a0 x.length cap0] (.bool true) rfl (fun wx h => by go_simp) (fun wx h => ((HSS.out wx h).2.2).mono fun e w' ⟨he, hf⟩ => ⟨he, h.trans' hf⟩) ?_
    go_frame
    refine heldVal (.bool false) rfl (fun wx h => by go_simp) ?_
    go_frame
    refine heldVal (.bool false) rfl (fun wx h => by go_simp) ?_
    go_frame
    refine heldVal (.bool false) rfl (fun wx h => by go_simp) ?_
    go_frame
    refine heldVal (.slice a0 x.length cap0) rfl (fun wx h => by go_simp) ?_
    go_frame
    refine heldVal (.slice a1 y.length cap1) rfl (fun wx h => by go_simp) ?_
    go_frame
    refine heldCall 22 #[.slice a0 x.length cap0, .slice a1 y.length cap1] (.bool d) rfl (fun wx h => by go_simp) (fun wx h => ((HSS.out wx h).1).mono fun e w' ⟨he, hf⟩ => ⟨he, h.trans' hf⟩) ?_
    go_frame
    refine heldVal (.slice a0 x.length cap0) rfl (fun wx h => by go_simp) ?_
    go_frame
    refine heldVal (.string ⟨x.toArray⟩) rfl (fun wx h => by have := HSX.out wx h; go_simp) ?_
    go_frame
    refine heldVal (.slice a1 y.length cap1) rfl (fun wx h => by go_simp) ?_
    go_frame
    refine heldVal (.string ⟨y.toArray⟩) rfl (fun wx h => by have := HSY.out wx h; go_simp) ?_
    go_frame
    refine heldVal (.bool d) rfl (fun wx h => by go_simp; exact HS.out) ?_
    go_frame
    refine heldVal (.bool false) rfl (fun wx h => by go_simp) ?_
    go_frame
    refine heldVal (.bool false) rfl (fun wx h => by go_simp) ?_
    go_frame
    refine wpQuiet_nil ?_
    intro w2 hw2
    have HF2 : Hid (Fr0 w w2) := Lib.hid (HF1.out.trans' hw2)
    have hs2 := HF2.out.size
    clear hw2 hdd
    by_cases hlo : at_ < 0
    · go_wp2
      go_ret
      exact ⟨rfl, HF2.out⟩
    · obtain ⟨i, rfl⟩ := Int.eq_ofNat_of_zero_le (show 0 ≤ at_ by omega)
      by_cases hhi : (x.length : Int) ≤ (i : Int)
      · go_wp2
        go_ret
        exact ⟨rfl, HF2.out⟩
      · have hix : i < x.length := by omega
        go_wp2_with (at_builtin; refine wpList_append_bytes rfl (.tmp 52) (.tmp 53) 30 rfl w2.heap.size 5 Tryd.underlying30 infoU8 _ _ 0 [] x rfl rfl (owns_empty w2 w2.heap.size 5 (Nat.le_refl _) w2.heap.size rfl) (HA.out.fr0 (HF2.out.alloc _)) (by omega) (by simp) ?_)
        intro v3 w3 hown3 hgr3
        have hown3' : w3.ownsRow w2.heap.size 5 1 v3 x.length (bvals x) := by simpa using hown3
        have HF3 : Hid (Fr0 w2 w3) := Lib.hid (Fr.grown (Fr.alloc (Fr.refl _ _) _) hgr3 (fun q hq e => by simp [Value.ownBlock] at e; omega))
        obtain ⟨g, cap3, hv3, hgb, hglt⟩ := hown3'.form (by omega)
        subst hv3
        have hB3 := BytesIs.own hown3'
        have c0 : w3.cell? ⟨g, i, none⟩ = some (.int .u8 ((x.getD i 0).toNat : Int)) := by
          have := hown3'.cellAt i (by rw [Nat.mul_one]; exact hix)
          rw [this]; exact bvals_get x i hix
        have f0 : w3.frozen? ⟨g, i, none⟩ = false := by
          rcases hown3'.2 with ⟨h, _⟩ | ⟨g', cap', cur, h, _, hg', _⟩
          · cases h
          · cases h
            exact (rowIs_of_cells (f := fun j => cur[j]?.getD undef) hg' rfl (fun j hj => by simp [hj])).frozen i
        have hxx := (x.getD i 0).toNat_lt
        have hpp := p.toNat_lt
        have hxor := xor_byte (x.getD i 0) p
        have hB4 := BytesIs.set hB3 i hix (x.getD i 0 ^^^ p) (Value.int IntKind.u8 (bits .xor .u8 ((x.getD i 0).toNat : Int) (p.toNat : Int))) (by rw [hxor])
        have hss := set_same x i hix p
        have hl4 : (x.set i (x.getD i 0 ^^^ p)).length = x.length := List.length_set
        generalize x.set i (x.getD i 0 ^^^ p) = z at *
        have HB4 := Lib.hid hB4
        have HSS2 := Lib.hid hss
        have HL4 := Lib.hid hl4
        have HX := Lib.hid hxor
        generalize (x.getD i 0).toNat = X at *
        have hs3 := HF3.out.size
        clear hown3 hown3' hgr3 hB3 hB4 hss hl4 hxor HSS HSX HSY HS HD HA1 HB1
        go_upto_region 11 with fail
        go_name_world w4 hw4
        rw [hw4] at HB4
        have HF4 : Hid (Fr0 w w4) := Lib.hid (by rw [← hw4]; exact Fr.setCell (HF2.out.trans' HF3.out) (by intro h; exfalso; simp at h; omega) _)
        clear hw4 c0 f0
        go_wp2_with fail
        have hc := same_any (.slice a0 x.length cap0) (.slice (some ⟨g, 0, none⟩) x.length cap3) x z hx (by rw [HL4.out]; exact hx) w4 (HA.out.fr0 HF4.out) HB4.out
        rw [HSS2.out] at hc
        refine hc.mono ?_
        rintro e w5 ⟨rfl, hF5⟩
        have HF5 : Hid (Fr0 w w5) := Lib.hid (HF4.out.trans' hF5)
        clear hF5 hc
        go_wp2
        go_ret
        exact ⟨rfl, HF5.out⟩
end Go.Proofs.YtmmcnoapkdhgpaaDoor.Mac
