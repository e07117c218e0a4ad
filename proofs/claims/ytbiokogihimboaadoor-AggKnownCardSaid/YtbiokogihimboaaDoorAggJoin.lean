/-
  The program's Join.
-/
import Derived.Test.YtbiokogihimboaaDoorAggGo
import Derived.Test.YtbiokogihimboaaDoorMixS
namespace Go.Proofs.YtbiokogihimboaaDoor.Agg
open Go.RowKit Base _root_.Go.Proofs.YtbiokogihimboaaDoor.Tenant _root_.Go.Proofs.YtbiokogihimboaaDoor.Series _root_.Go.Proofs.YtbiokogihimboaaDoor.Pack

theorem Bx.third (t : TypeId) (w : World) (q : Ag) (o1 o2 : Obj) : Bx t (((w.alloc o1).alloc o2).alloc (.cells #[.int .i64 q.c, .int .i64 q.s, .int .i64 q.n, .int .i64 q.x, .int .i64 q.l, .bool q.o] t)) (w.heap.size + 1 + 1) q := by
  have h := Bx.new t ((w.alloc o1).alloc o2) q
  rwa [World.size_alloc, World.size_alloc] at h
theorem Bx.second (t : TypeId) (w : World) (q : Ag) (o1 o2 : Obj) : Bx t (((w.alloc o1).alloc (.cells #[.int .i64 q.c, .int .i64 q.s, .int .i64 q.n, .int .i64 q.x, .int .i64 q.l, .bool q.o] t)).alloc o2) (w.heap.size + 1) q := by
  have h := (Bx.new t (w.alloc o1) q).fr0 ((Fr.refl _ _).alloc o2)
  rwa [World.size_alloc] at h
theorem Bx.first (t : TypeId) (w : World) (q : Ag) (o1 o2 : Obj) : Bx t (((w.alloc (.cells #[.int .i64 q.c, .int .i64 q.s, .int .i64 q.n, .int .i64 q.x, .int .i64 q.l, .bool q.o] t)).alloc o1).alloc o2) w.heap.size q := ((Bx.new t w q).fr0 ((Fr.refl _ _).alloc o1)).fr0 ((Fr.refl _ _).alloc o2)
set_option maxRecDepth 100000 in
set_option maxHeartbeats 4000000 in
theorem pjoin_any (a b : Ag) (ha : SizedA a) (hb : SizedA b) (hc : Fit (a.c + b.c)) (w : World) :
    Calls Tryd.prog 13 #[.agg (a6 a), .agg (a6 b)] w fun e w' => e = .returned (.agg (a6 (joinOf a b))) ∧ Fr0 w w' := by
  rw [show a6 a = #[.int .i64 a.c, .int .i64 a.s, .int .i64 a.n, .int .i64 a.x, .int .i64 a.l, .bool a.o] from rfl, show a6 b = #[.int .i64 b.c, .int .i64 b.s, .int .i64 b.n, .int .i64 b.x, .int .i64 b.l, .bool b.o] from rfl]
  have hcw : wrap64 (a.c + b.c) = a.c + b.c := by unfold Fit at hc; simp only [wrap64]; omega
  by_cases h1 : a.c = 0
  · have HE : Hid (joinOf a b = b) := Lib.hid (if_pos h1)
    have hac : (a.c == 0) = true := by rw [h1]; rfl
    clear ha hb hc hcw h1
    generalize joinOf a b = r at *
    have HBX := Lib.hid (Bx.third 24 w b (.cells #[.int .i64 a.c, .int .i64 a.s, .int .i64 a.n, .int .i64 a.x, .int .i64 a.l, .bool a.o] 24) (.cells #[.int .i64 b.c, .int .i64 b.s, .int .i64 b.n, .int .i64 b.x, .int .i64 b.l, .bool b.o] 24))
    have HFX : Hid (Fr0 w (((w.alloc (.cells #[.int .i64 a.c, .int .i64 a.s, .int .i64 a.n, .int .i64 a.x, .int .i64 a.l, .bool a.o] 24)).alloc (.cells #[.int .i64 b.c, .int .i64 b.s, .int .i64 b.n, .int .i64 b.x, .int .i64 b.l, .bool b.o] 24)).alloc (.cells #[.int .i64 b.c, .int .i64 b.s, .int .i64 b.n, .int .i64 b.x, .int .i64 b.l, .bool b.o] 24))) := Lib.hid ((((Fr.refl _ _).alloc _).alloc _).alloc _)
    go_enter Tryd.func13, Tryd.ntmps13
    go_wp2_with fail
    exact bodyPost_ret (res1 rfl Tryd.underlying24 rfl infoG _ rfl HBX.out) rfl ⟨by rw [HE.out], HFX.out⟩
  by_cases h2 : b.c = 0
  · have HE : Hid (joinOf a b = a) := Lib.hid ((if_neg h1).trans (if_pos h2))
    have hac : (a.c == 0) = false := beq_eq_false_iff_ne.2 h1
    have hbc : (b.c == 0) = true := by rw [h2]; rfl
    clear ha hb hc hcw h1 h2
    generalize joinOf a b = r at *
    have HBX := Lib.hid (Bx.third 24 w a (.cells #[.int .i64 a.c, .int .i64 a.s, .int .i64 a.n, .int .i64 a.x, .int .i64 a.l, .bool a.o] 24) (.cells #[.int .i64 b.c, .int .i64 b.s, .int .i64 b.n, .int .i64 b.x, .int .i64 b.l, .bool b.o] 24))
    have HFX : Hid (Fr0 w (((w.alloc (.cells #[.int .i64 a.c, .int .i64 a.s, .int .i64 a.n, .int .i64 a.x, .int .i64 a.l, .bool a.o] 24)).alloc (.cells #[.int .i64 b.c, .int .i64 b.s, .int .i64 b.n, .int .i64 b.x, .int .i64 b.l, .bool b.o] 24)).alloc (.cells #[.int .i64 a.c, .int .i64 a.s, .int .i64 a.n, .int .i64 a.x, .int .i64 a.l, .bool a.o] 24))) := Lib.hid ((((Fr.refl _ _).alloc _).alloc _).alloc _)
    go_enter Tryd.func13, Tryd.ntmps13
    go_wp2_with fail
    exact bodyPost_ret (res1 rfl Tryd.underlying24 rfl infoG _ rfl HBX.out) rfl ⟨by rw [HE.out], HFX.out⟩
  have HJ : Hid (joinOf a b = ⟨a.c + b.c, if (a.o || b.o || !fits (a.s + b.s)) = true then 0 else a.s + b.s, if b.n < a.n then b.n else a.n, if a.x < b.x then b.x else a.x, b.l, a.o || b.o || !fits (a.s + b.s)⟩) := Lib.hid ((if_neg h1).trans (if_neg h2))
  have hac : (a.c == 0) = false := beq_eq_false_iff_ne.2 h1
  have hbc : (b.c == 0) = false := beq_eq_false_iff_ne.2 h2
  have HPF := Lib.hid (plus_fits ha.2.1 hb.2.1)
  clear ha hb hc h1 h2
  generalize joinOf a b = r at *
  by_cases hao : a.o = true
  · rw [hao] at HJ ⊢
    clear hao
    by_cases hn : b.n < a.n
    · by_cases hx : a.x < b.x
      · have HE : Hid (r = ⟨a.c + b.c, 0, b.n, b.x, b.l, true⟩) := Lib.hid (by rw [HJ.out, if_pos hn, if_pos hx]; rfl)
        have HBX := Lib.hid ((Bx.third 24 w ⟨a.c + b.c, 0, b.n, b.x, b.l, true⟩ (.cells #[.int .i64 a.c, .int .i64 a.s, .int .i64 a.n, .int .i64 a.x, .int .i64 a.l, .bool true] 24) (.cells #[.int .i64 b.c, .int .i64 b.s, .int .i64 b.n, .int .i64 b.x, .int .i64 b.l, .bool b.o] 24)).fr0 ((Fr.refl _ _).alloc (.cells #[.int .i64 (a.c + b.c), .int .i64 0, .int .i64 b.n, .int .i64 b.x, .int .i64 b.l, .bool true] 24)))
        have HFX : Hid (Fr0 w ((((w.alloc (.cells #[.int .i64 a.c, .int .i64 a.s, .int .i64 a.n, .int .i64 a.x, .int .i64 a.l, .bool true] 24)).alloc (.cells #[.int .i64 b.c, .int .i64 b.s, .int .i64 b.n, .int .i64 b.x, .int .i64 b.l, .bool b.o] 24)).alloc (.cells #[.int .i64 (a.c + b.c), .int .i64 0, .int .i64 b.n, .int .i64 b.x, .int .i64 b.l, .bool true] 24)).alloc (.cells #[.int .i64 (a.c + b.c), .int .i64 0, .int .i64 b.n, .int .i64 b.x, .int .i64 b.l, .bool true] 24))) := Lib.hid (((((Fr.refl _ _).alloc _).alloc _).alloc _).alloc _)
        clear HPF
        go_enter Tryd.func13, Tryd.ntmps13
        go_wp2_with fail
        exact bodyPost_ret (res1 rfl Tryd.underlying24 rfl infoG _ rfl HBX.out) rfl ⟨by rw [HE.out], HFX.out⟩
      · have HE : Hid (r = ⟨a.c + b.c, 0, b.n, a.x, b.l, true⟩) := Lib.hid (by rw [HJ.out, if_pos hn, if_neg hx]; rfl)
        have HBX := Lib.hid ((Bx.third 24 w ⟨a.c + b.c, 0, b.n, a.x, b.l, true⟩ (.cells #[.int .i64 a.c, .int .i64 a.s, .int .i64 a.n, .int .i64 a.x, .int .i64 a.l, .bool true] 24) (.cells #[.int .i64 b.c, .int .i64 b.s, .int .i64 b.n, .int .i64 b.x, .int .i64 b.l, .bool b.o] 24)).fr0 ((Fr.refl _ _).alloc (.cells #[.int .i64 (a.c + b.c), .int .i64 0, .int .i64 b.n, .int .i64 a.x, .int .i64 b.l, .bool true] 24)))
        have HFX : Hid (Fr0 w ((((w.alloc (.cells #[.int .i64 a.c, .int .i64 a.s, .int .i64 a.n, .int .i64 a.x, .int .i64 a.l, .bool true] 24)).alloc (.cells #[.int .i64 b.c, .int .i64 b.s, .int .i64 b.n, .int .i64 b.x, .int .i64 b.l, .bool b.o] 24)).alloc (.cells #[.int .i64 (a.c + b.c), .int .i64 0, .int .i64 b.n, .int .i64 a.x, .int .i64 b.l, .bool true] 24)).alloc (.cells #[.int .i64 (a.c + b.c), .int .i64 0, .int .i64 b.n, .int .i64 a.x, .int .i64 b.l, .bool true] 24))) := Lib.hid (((((Fr.refl _ _).alloc _).alloc _).alloc _).alloc _)
        clear HPF
        go_enter Tryd.func13, Tryd.ntmps13
        go_wp2_with fail
        exact bodyPost_ret (res1 rfl Tryd.underlying24 rfl infoG _ rfl HBX.out) rfl ⟨by rw [HE.out], HFX.out⟩
    · by_cases hx : a.x < b.x
      · have HE : Hid (r = ⟨a.c + b.c, 0, a.n, b.x, b.l, true⟩) := Lib.hid (by rw [HJ.out, if_neg hn, if_pos hx]; rfl)
        have HBX := Lib.hid ((Bx.third 24 w ⟨a.c + b.c, 0, a.n, b.x, b.l, true⟩ (.cells #[.int .i64 a.c, .int .i64 a.s, .int .i64 a.n, .int .i64 a.x, .int .i64 a.l, .bool true] 24) (.cells #[.int .i64 b.c, .int .i64 b.s, .int .i64 b.n, .int .i64 b.x, .int .i64 b.l, .bool b.o] 24)).fr0 ((Fr.refl _ _).alloc (.cells #[.int .i64 (a.c + b.c), .int .i64 0, .int .i64 a.n, .int .i64 b.x, .int .i64 b.l, .bool true] 24)))
        have HFX : Hid (Fr0 w ((((w.alloc (.cells #[.int .i64 a.c, .int .i64 a.s, .int .i64 a.n, .int .i64 a.x, .int .i64 a.l, .bool true] 24)).alloc (.cells #[.int .i64 b.c, .int .i64 b.s, .int .i64 b.n, .int .i64 b.x, .int .i64 b.l, .bool b.o] 24)).alloc (.cells #[.int .i64 (a.c + b.c), .int .i64 0, .int .i64 a.n, .int .i64 b.x, .int .i64 b.l, .bool true] 24)).alloc (.cells #[.int .i64 (a.c + b.c), .int .i64 0, .int .i64 a.n, .int .i64 b.x, .int .i64 b.l, .bool true] 24))) := Lib.hid (((((Fr.refl _ _).alloc _).alloc _).alloc _).alloc _)
        clear HPF
        go_enter Tryd.func13, Tryd.ntmps13
        go_wp2_with fail
        exact bodyPost_ret (res1 rfl Tryd.underlying24 rfl infoG _ rfl HBX.out) rfl ⟨by rw [HE.out], HFX.out⟩
      · have HE : Hid (r = ⟨a.c + b.c, 0, a.n, a.x, b.l, true⟩) := Lib.hid (by rw [HJ.out, if_neg hn, if_neg hx]; rfl)
        have HBX := Lib.hid ((Bx.third 24 w ⟨a.c + b.c, 0, a.n, a.x, b.l, true⟩ (.cells #[.int .i64 a.c, .int .i64 a.s, .int .i64 a.n, .int .i64 a.x, .int .i64 a.l, .bool true] 24) (.cells #[.int .i64 b.c, .int .i64 b.s, .int .i64 b.n, .int .i64 b.x, .int .i64 b.l, .bool b.o] 24)).fr0 ((Fr.refl _ _).alloc (.cells #[.int .i64 (a.c + b.c), .int .i64 0, .int .i64 a.n, .int .i64 a.x, .int .i64 b.l, .bool true] 24)))
        have HFX : Hid (Fr0 w ((((w.alloc (.cells #[.int .i64 a.c, .int .i64 a.s, .int .i64 a.n, .int .i64 a.x, .int .i64 a.l, .bool true] 24)).alloc (.cells #[.int .i64 b.c, .int .i64 b.s, .int .i64 b.n, .int .i64 b.x, .int .i64 b.l, .bool b.o] 24)).alloc (.cells #[.int .i64 (a.c + b.c), .int .i64 0, .int .i64 a.n, .int .i64 a.x, .int .i64 b.l, .bool true] 24)).alloc (.cells #[.int .i64 (a.c + b.c), .int .i64 0, .int .i64 a.n, .int .i64 a.x, .int .i64 b.l, .bool true] 24))) := Lib.hid (((((Fr.refl _ _).alloc _).alloc _).alloc _).alloc _)
        clear HPF
        go_enter Tryd.func13, Tryd.ntmps13
        go_wp2_with fail
        exact bodyPost_ret (res1 rfl Tryd.underlying24 rfl infoG _ rfl HBX.out) rfl ⟨by rw [HE.out], HFX.out⟩
  have hao' : a.o = false := by simpa using hao
  rw [hao'] at HJ ⊢
  clear hao hao'
  by_cases hbo : b.o = true
  · rw [hbo] at HJ ⊢
    clear hbo
    by_cases hn : b.n < a.n
    · by_cases hx : a.x < b.x
      · have HE : Hid (r = ⟨a.c + b.c, 0, b.n, b.x, b.l, true⟩) := Lib.hid (by rw [HJ.out, if_pos hn, if_pos hx]; rfl)
        have HBX := Lib.hid ((Bx.third 24 w ⟨a.c + b.c, 0, b.n, b.x, b.l, true⟩ (.cells #[.int .i64 a.c, .int .i64 a.s, .int .i64 a.n, .int .i64 a.x, .int .i64 a.l, .bool false] 24) (.cells #[.int .i64 b.c, .int .i64 b.s, .int .i64 b.n, .int .i64 b.x, .int .i64 b.l, .bool true] 24)).fr0 ((Fr.refl _ _).alloc (.cells #[.int .i64 (a.c + b.c), .int .i64 0, .int .i64 b.n, .int .i64 b.x, .int .i64 b.l, .bool true] 24)))
        have HFX : Hid (Fr0 w ((((w.alloc (.cells #[.int .i64 a.c, .int .i64 a.s, .int .i64 a.n, .int .i64 a.x, .int .i64 a.l, .bool false] 24)).alloc (.cells #[.int .i64 b.c, .int .i64 b.s, .int .i64 b.n, .int .i64 b.x, .int .i64 b.l, .bool true] 24)).alloc (.cells #[.int .i64 (a.c + b.c), .int .i64 0, .int .i64 b.n, .int .i64 b.x, .int .i64 b.l, .bool true] 24)).alloc (.cells #[.int .i64 (a.c + b.c), .int .i64 0, .int .i64 b.n, .int .i64 b.x, .int .i64 b.l, .bool true] 24))) := Lib.hid (((((Fr.refl _ _).alloc _).alloc _).alloc _).alloc _)
        clear HPF
        go_enter Tryd.func13, Tryd.ntmps13
        go_wp2_with fail
        exact bodyPost_ret (res1 rfl Tryd.underlying24 rfl infoG _ rfl HBX.out) rfl ⟨by rw [HE.out], HFX.out⟩
      · have HE : Hid (r = ⟨a.c + b.c, 0, b.n, a.x, b.l, true⟩) := Lib.hid (by rw [HJ.out, if_pos hn, if_neg hx]; rfl)
        have HBX := Lib.hid ((Bx.third 24 w ⟨a.c + b.c, 0, b.n, a.x, b.l, true⟩ (.cells #[.int .i64 a.c, .int .i64 a.s, .int .i64 a.n, .int .i64 a.x, .int .i64 a.l, .bool false] 24) (.cells #[.int .i64 b.c, .int .i64 b.s, .int .i64 b.n, .int .i64 b.x, .int .i64 b.l, .bool true] 24)).fr0 ((Fr.refl _ _).alloc (.cells #[.int .i64 (a.c + b.c), .int .i64 0, .int .i64 b.n, .int .i64 a.x, .int .i64 b.l, .bool true] 24)))
        have HFX : Hid (Fr0 w ((((w.alloc (.cells #[.int .i64 a.c, .int .i64 a.s, .int .i64 a.n, .int .i64 a.x, .int .i64 a.l, .bool false] 24)).alloc (.cells #[.int .i64 b.c, .int .i64 b.s, .int .i64 b.n, .int .i64 b.x, .int .i64 b.l, .bool true] 24)).alloc (.cells #[.int .i64 (a.c + b.c), .int .i64 0, .int .i64 b.n, .int .i64 a.x, .int .i64 b.l, .bool true] 24)).alloc (.cells #[.int .i64 (a.c + b.c), .int .i64 0, .int .i64 b.n, .int .i64 a.x, .int .i64 b.l, .bool true] 24))) := Lib.hid (((((Fr.refl _ _).alloc _).alloc _).alloc _).alloc _)
        clear HPF
        go_enter Tryd.func13, Tryd.ntmps13
        go_wp2_with fail
        exact bodyPost_ret (res1 rfl Tryd.underlying24 rfl infoG _ rfl HBX.out) rfl ⟨by rw [HE.out], HFX.out⟩
    · by_cases hx : a.x < b.x
      · have HE : Hid (r = ⟨a.c + b.c, 0, a.n, b.x, b.l, true⟩) := Lib.hid (by rw [HJ.out, if_neg hn, if_pos hx]; rfl)
        have HBX := Lib.hid ((Bx.third 24 w ⟨a.c + b.c, 0, a.n, b.x, b.l, true⟩ (.cells #[.int .i64 a.c, .int .i64 a.s, .int .i64 a.n, .int .i64 a.x, .int .i64 a.l, .bool false] 24) (.cells #[.int .i64 b.c, .int .i64 b.s, .int .i64 b.n, .int .i64 b.x, .int .i64 b.l, .bool true] 24)).fr0 ((Fr.refl _ _).alloc (.cells #[.int .i64 (a.c + b.c), .int .i64 0, .int .i64 a.n, .int .i64 b.x, .int .i64 b.l, .bool true] 24)))
        have HFX : Hid (Fr0 w ((((w.alloc (.cells #[.int .i64 a.c, .int .i64 a.s, .int .i64 a.n, .int .i64 a.x, .int .i64 a.l, .bool false] 24)).alloc (.cells #[.int .i64 b.c, .int .i64 b.s, .int .i64 b.n, .int .i64 b.x, .int .i64 b.l, .bool true] 24)).alloc (.cells #[.int .i64 (a.c + b.c), .int .i64 0, .int .i64 a.n, .int .i64 b.x, .int .i64 b.l, .bool true] 24)).alloc (.cells #[.int .i64 (a.c + b.c), .int .i64 0, .int .i64 a.n, .int .i64 b.x, .int .i64 b.l, .bool true] 24))) := Lib.hid (((((Fr.refl _ _).alloc _).alloc _).alloc _).alloc _)
        clear HPF
        go_enter Tryd.func13, Tryd.ntmps13
        go_wp2_with fail
        exact bodyPost_ret (res1 rfl Tryd.underlying24 rfl infoG _ rfl HBX.out) rfl ⟨by rw [HE.out], HFX.out⟩
      · have HE : Hid (r = ⟨a.c + b.c, 0, a.n, a.x, b.l, true⟩) := Lib.hid (by rw [HJ.out, if_neg hn, if_neg hx]; rfl)
        have HBX := Lib.hid ((Bx.third 24 w ⟨a.c + b.c, 0, a.n, a.x, b.l, true⟩ (.cells #[.int .i64 a.c, .int .i64 a.s, .int .i64 a.n, .int .i64 a.x, .int .i64 a.l, .bool false] 24) (.cells #[.int .i64 b.c, .int .i64 b.s, .int .i64 b.n, .int .i64 b.x, .int .i64 b.l, .bool true] 24)).fr0 ((Fr.refl _ _).alloc (.cells #[.int .i64 (a.c + b.c), .int .i64 0, .int .i64 a.n, .int .i64 a.x, .int .i64 b.l, .bool true] 24)))
        have HFX : Hid (Fr0 w ((((w.alloc (.cells #[.int .i64 a.c, .int .i64 a.s, .int .i64 a.n, .int .i64 a.x, .int .i64 a.l, .bool false] 24)).alloc (.cells #[.int .i64 b.c, .int .i64 b.s, .int .i64 b.n, .int .i64 b.x, .int .i64 b.l, .bool true] 24)).alloc (.cells #[.int .i64 (a.c + b.c), .int .i64 0, .int .i64 a.n, .int .i64 a.x, .int .i64 b.l, .bool true] 24)).alloc (.cells #[.int .i64 (a.c + b.c), .int .i64 0, .int .i64 a.n, .int .i64 a.x, .int .i64 b.l, .bool true] 24))) := Lib.hid (((((Fr.refl _ _).alloc _).alloc _).alloc _).alloc _)
        clear HPF
        go_enter Tryd.func13, Tryd.ntmps13
        go_wp2_with fail
        exact bodyPost_ret (res1 rfl Tryd.underlying24 rfl infoG _ rfl HBX.out) rfl ⟨by rw [HE.out], HFX.out⟩
  have hbo' : b.o = false := by simpa using hbo
  rw [hbo'] at HJ ⊢
  clear hbo hbo'
  have HW : Hid (∀ n x : Int, withSum ⟨a.c + b.c, 0, n, x, b.l, false⟩ (plusS a.s b.s) (plusK a.s b.s) = ⟨a.c + b.c, if (false || false || !fits (a.s + b.s)) = true then 0 else a.s + b.s, n, x, b.l, false || false || !fits (a.s + b.s)⟩) := Lib.hid (fun n x => by
    unfold withSum
    by_cases hk : plusK a.s b.s = 0
    · obtain ⟨h1, h2⟩ := HPF.out.1 hk
      rw [if_pos hk, h1, h2]
      rfl
    · rw [if_neg hk, HPF.out.2 hk]
      rfl)
  by_cases hn : b.n < a.n
  · by_cases hx : a.x < b.x
    · have hj := HJ.out
      rw [if_pos hn, if_pos hx] at hj
      have HE : Hid (withSum ⟨a.c + b.c, 0, b.n, b.x, b.l, false⟩ (plusS a.s b.s) (plusK a.s b.s) = r) := Lib.hid (by rw [hj]; exact HW.out b.n b.x)
      clear hj HW HJ HPF
      have hws := withSum_any ⟨a.c + b.c, 0, b.n, b.x, b.l, false⟩ (plusS a.s b.s) (plusK a.s b.s)
      rw [HE.out, show a6 ⟨a.c + b.c, 0, b.n, b.x, b.l, false⟩ = #[.int .i64 (a.c + b.c), .int .i64 0, .int .i64 b.n, .int .i64 b.x, .int .i64 b.l, .bool false] from rfl, show a6 r = #[.int .i64 r.c, .int .i64 r.s, .int .i64 r.n, .int .i64 r.x, .int .i64 r.l, .bool r.o] from rfl] at hws
      have HWS := Lib.hid hws
      have HPL := Lib.hid (plus_any a.s b.s)
      have HBZ : Hid (Bx 24 ((((w.alloc (.cells #[.int .i64 a.c, .int .i64 a.s, .int .i64 a.n, .int .i64 a.x, .int .i64 a.l, .bool false] 24)).alloc (.cells #[.int .i64 b.c, .int .i64 b.s, .int .i64 b.n, .int .i64 b.x, .int .i64 b.l, .bool false] 24)).alloc (.cells #[.int .i64 0, .int .i64 0, .int .i64 0, .int .i64 0, .int .i64 0, .bool false] 24)).alloc (.cells #[.int .i64 (a.c + b.c), .int .i64 0, .int .i64 b.n, .int .i64 b.x, .int .i64 b.l, .bool false] 24)) (w.heap.size + 1 + 1) zeroA) := Lib.hid ((Bx.third 24 w zeroA (.cells #[.int .i64 a.c, .int .i64 a.s, .int .i64 a.n, .int .i64 a.x, .int .i64 a.l, .bool false] 24) (.cells #[.int .i64 b.c, .int .i64 b.s, .int .i64 b.n, .int .i64 b.x, .int .i64 b.l, .bool false] 24)).fr0 ((Fr.refl _ _).alloc (.cells #[.int .i64 (a.c + b.c), .int .i64 0, .int .i64 b.n, .int .i64 b.x, .int .i64 b.l, .bool false] 24)))
      have hbq := Bx.new 24 (((w.alloc (.cells #[.int .i64 a.c, .int .i64 a.s, .int .i64 a.n, .int .i64 a.x, .int .i64 a.l, .bool false] 24)).alloc (.cells #[.int .i64 b.c, .int .i64 b.s, .int .i64 b.n, .int .i64 b.x, .int .i64 b.l, .bool false] 24)).alloc (.cells #[.int .i64 0, .int .i64 0, .int .i64 0, .int .i64 0, .int .i64 0, .bool false] 24)) ⟨a.c + b.c, 0, b.n, b.x, b.l, false⟩
      rw [World.size_alloc, World.size_alloc, World.size_alloc] at hbq
      have HBQ := Lib.hid hbq
      have HAS : Hid (((((w.alloc (.cells #[.int .i64 a.c, .int .i64 a.s, .int .i64 a.n, .int .i64 a.x, .int .i64 a.l, .bool false] 24)).alloc (.cells #[.int .i64 b.c, .int .i64 b.s, .int .i64 b.n, .int .i64 b.x, .int .i64 b.l, .bool false] 24)).alloc (.cells #[.int .i64 0, .int .i64 0, .int .i64 0, .int .i64 0, .int .i64 0, .bool false] 24)).alloc (.cells #[.int .i64 (a.c + b.c), .int .i64 0, .int .i64 b.n, .int .i64 b.x, .int .i64 b.l, .bool false] 24)).cell? ⟨w.heap.size, 1, none⟩ = some (.int .i64 a.s)) := Lib.hid (((Bx.first 24 w ⟨a.c, a.s, a.n, a.x, a.l, false⟩ (.cells #[.int .i64 b.c, .int .i64 b.s, .int .i64 b.n, .int .i64 b.x, .int .i64 b.l, .bool false] 24) (.cells #[.int .i64 0, .int .i64 0, .int .i64 0, .int .i64 0, .int .i64 0, .bool false] 24)).fr0 ((Fr.refl _ _).alloc (.cells #[.int .i64 (a.c + b.c), .int .i64 0, .int .i64 b.n, .int .i64 b.x, .int .i64 b.l, .bool false] 24))).cells.2.1)
      have HBS : Hid (((((w.alloc (.cells #[.int .i64 a.c, .int .i64 a.s, .int .i64 a.n, .int .i64 a.x, .int .i64 a.l, .bool false] 24)).alloc (.cells #[.int .i64 b.c, .int .i64 b.s, .int .i64 b.n, .int .i64 b.x, .int .i64 b.l, .bool false] 24)).alloc (.cells #[.int .i64 0, .int .i64 0, .int .i64 0, .int .i64 0, .int .i64 0, .bool false] 24)).alloc (.cells #[.int .i64 (a.c + b.c), .int .i64 0, .int .i64 b.n, .int .i64 b.x, .int .i64 b.l, .bool false] 24)).cell? ⟨w.heap.size + 1, 1, none⟩ = some (.int .i64 b.s)) := Lib.hid (((Bx.second 24 w ⟨b.c, b.s, b.n, b.x, b.l, false⟩ (.cells #[.int .i64 a.c, .int .i64 a.s, .int .i64 a.n, .int .i64 a.x, .int .i64 a.l, .bool false] 24) (.cells #[.int .i64 0, .int .i64 0, .int .i64 0, .int .i64 0, .int .i64 0, .bool false] 24)).fr0 ((Fr.refl _ _).alloc (.cells #[.int .i64 (a.c + b.c), .int .i64 0, .int .i64 b.n, .int .i64 b.x, .int .i64 b.l, .bool false] 24))).cells.2.1)
      have HFX : Hid (Fr0 w ((((w.alloc (.cells #[.int .i64 a.c, .int .i64 a.s, .int .i64 a.n, .int .i64 a.x, .int .i64 a.l, .bool false] 24)).alloc (.cells #[.int .i64 b.c, .int .i64 b.s, .int .i64 b.n, .int .i64 b.x, .int .i64 b.l, .bool false] 24)).alloc (.cells #[.int .i64 0, .int .i64 0, .int .i64 0, .int .i64 0, .int .i64 0, .bool false] 24)).alloc (.cells #[.int .i64 (a.c + b.c), .int .i64 0, .int .i64 b.n, .int .i64 b.x, .int .i64 b.l, .bool false] 24))) := Lib.hid (((((Fr.refl _ _).alloc _).alloc _).alloc _).alloc _)
      clear hws hbq
      go_enter Tryd.func13, Tryd.ntmps13
      go_wp2_with fail
      have HGE : Hid (w.heap.size ≤ w.heap.size) := Lib.hid (Nat.le_refl _)
      generalize ((((w.alloc (.cells #[.int .i64 a.c, .int .i64 a.s, .int .i64 a.n, .int .i64 a.x, .int .i64 a.l, .bool false] 24)).alloc (.cells #[.int .i64 b.c, .int .i64 b.s, .int .i64 b.n, .int .i64 b.x, .int .i64 b.l, .bool false] 24)).alloc (.cells #[.int .i64 0, .int .i64 0, .int .i64 0, .int .i64 0, .int .i64 0, .bool false] 24)).alloc (.cells #[.int .i64 (a.c + b.c), .int .i64 0, .int .i64 b.n, .int .i64 b.x, .int .i64 b.l, .bool false] 24)) = W0 at *
      generalize hg : w.heap.size = g at *
      have HCL : Hid (∀ X, Fr0 W0 X → Fr0 W0 X ∧ X.cell? ⟨g, 1, none⟩ = some (.int .i64 a.s) ∧ X.cell? ⟨g + 1, 1, none⟩ = some (.int .i64 b.s)) := Lib.hid (fun X h => ⟨h, (h.cell (p := ⟨g, 1, none⟩) (World.block_lt_of_cell? W0 _ HAS.out) (fun f => f)).trans HAS.out, (h.cell (p := ⟨g + 1, 1, none⟩) (World.block_lt_of_cell? W0 _ HBS.out) (fun f => f)).trans HBS.out⟩)
      refine Mix.law (fun X => Fr0 W0 X ∧ X.cell? ⟨g, 1, none⟩ = some (.int .i64 a.s) ∧ X.cell? ⟨g + 1, 1, none⟩ = some (.int .i64 b.s)) [(.sure, 0), (.sure, 1), (.sure, 2), (.sure, 3), (.sure, 4), (.turn, 5), (.sure, 6), (.sure, 7), (.turn, 8), (.last, 9)] (by kernel_rfl) (by kernel_rfl) (HCL.out _ (Fr.refl _ _).drew) ?_
      simp only [List.map_cons, List.map_nil, Mix.nth_zero, Mix.nth_succ]
      have HX0 := Lib.hid ((Fr.refl (fun _ => False) W0).drew)
      generalize W0.drew = x0 at *
      refine Mix.go_sure_row (by first | exact Mix.wanted_none rfl | exact Mix.wanted_yes rfl rfl rfl) 24 _ rfl (g + 1 + 1 + 1) rfl 24 _ (0, 0) _ (fun w1 hC1 => hC1.1.heap HBQ.out.heap (fun f => f)) Tryd.underlying24 rfl (by kernel_rfl) ?_
      go_frame
      repeat (first
        | ((with_reducible refine Mix.go_skipS ?_ ?_); (focus (first | exact Mix.wanted_no rfl rfl rfl rfl | exact Mix.wanted_void rfl rfl rfl)); go_frame)
        | ((with_reducible refine Mix.go_skipL ?_ ?_); (focus (first | exact Mix.wanted_no rfl rfl rfl rfl | exact Mix.wanted_void rfl rfl rfl)); go_frame)
        | (refine Mix.go_move (by first | exact Mix.wanted_none rfl | exact Mix.wanted_yes rfl rfl rfl) _ rfl _ (by first | (go_simp; done) | (go_simp; rfl)) ?_; go_frame)
        | (refine Mix.go_assign (by first | exact Mix.wanted_none rfl | exact Mix.wanted_yes rfl rfl rfl) _ rfl _ (by first | (go_simp; done) | (go_simp; rfl)) ?_; go_frame)
        | (refine Mix.go_sureW (by first | exact Mix.wanted_none rfl | exact Mix.wanted_yes rfl rfl rfl) _ (by rfl) (by rfl) _ (fun w' ⟨hC1, hC2, hC3⟩ => by go_wp2_with fail; refine Mix.stays ?_; go_frame; rfl) ?_; go_frame)
        | (refine Mix.go_lookW (by first | exact Mix.wanted_none rfl | exact Mix.wanted_yes rfl rfl rfl) _ (by rfl) (by rfl) _ (by go_wp2_with fail; refine Mix.stays ?_; go_frame; rfl) ?_; go_frame))
      refine Mix.go_turn ?_
      go_wp2_with fail
      refine (HPL.out _).mono ?_
      rintro e x1 ⟨rfl, rfl⟩
      go_wp2
      refine Mix.then_go (HCL.out _ HX0.out) ?_
      repeat (first
        | ((with_reducible refine Mix.go_skipS ?_ ?_); (focus (first | exact Mix.wanted_no rfl rfl rfl rfl | exact Mix.wanted_void rfl rfl rfl)); go_frame)
        | ((with_reducible refine Mix.go_skipL ?_ ?_); (focus (first | exact Mix.wanted_no rfl rfl rfl rfl | exact Mix.wanted_void rfl rfl rfl)); go_frame)
        | (refine Mix.go_move (by first | exact Mix.wanted_none rfl | exact Mix.wanted_yes rfl rfl rfl) _ rfl _ (by first | (go_simp; done) | (go_simp; rfl)) ?_; go_frame)
        | (refine Mix.go_assign (by first | exact Mix.wanted_none rfl | exact Mix.wanted_yes rfl rfl rfl) _ rfl _ (by first | (go_simp; done) | (go_simp; rfl)) ?_; go_frame)
        | (refine Mix.go_sureW (by first | exact Mix.wanted_none rfl | exact Mix.wanted_yes rfl rfl rfl) _ (by rfl) (by rfl) _ (fun w' ⟨hC1, hC2, hC3⟩ => by go_wp2_with fail; refine Mix.stays ?_; go_frame; rfl) ?_; go_frame)
        | (refine Mix.go_lookW (by first | exact Mix.wanted_none rfl | exact Mix.wanted_yes rfl rfl rfl) _ (by rfl) (by rfl) _ (by go_wp2_with fail; refine Mix.stays ?_; go_frame; rfl) ?_; go_frame))
      refine Mix.go_turn ?_
      go_wp2_with fail
      refine (HWS.out _).mono ?_
      rintro e x1 ⟨rfl, hF⟩
      have HX1 := Lib.hid (HX0.out.trans' hF)
      clear hF
      go_wp2
      refine Mix.then_go (HCL.out _ HX1.out) ?_
      refine Mix.go_last ?_
      have HZ1 := Lib.hid (HBZ.out.fr0 HX1.out)
      have HR := Lib.hid (HZ1.out.setRow r)
      have HRF := Lib.hid (Fr.setRow (g := g + 1 + 1) (HFX.out.trans' HX1.out) (fun h => by have := HGE.out; omega) #[.int .i64 r.c, .int .i64 r.s, .int .i64 r.n, .int .i64 r.x, .int .i64 r.l, .bool r.o])
      go_wp2_with ((with_reducible change wpList _ _ _ (⟨_, Op.store 24 _ _, _, _, _, _⟩ :: _) _ _); refine wpList_store_row rfl 24 _ _ rfl (g + 1 + 1) #[.int .i64 r.c, .int .i64 r.s, .int .i64 r.n, .int .i64 r.x, .int .i64 r.l, .bool r.o] rfl rfl 24 _ HZ1.out.heap infoG rfl (a6_one ⟨r.c, r.s, r.n, r.x, r.l, r.o⟩) ?_)
      refine Mix.then_go trivial ?_
      refine Mix.go_end ?_
      go_wp2
      exact bodyPost_ret (res1 rfl Tryd.underlying24 rfl infoG _ rfl HR.out) rfl ⟨rfl, HRF.out⟩
    · have hj := HJ.out
      rw [if_pos hn, if_neg hx] at hj
      have HE : Hid (withSum ⟨a.c + b.c, 0, b.n, a.x, b.l, false⟩ (plusS a.s b.s) (plusK a.s b.s) = r) := Lib.hid (by rw [hj]; exact HW.out b.n a.x)
      clear hj HW HJ HPF
      have hws := withSum_any ⟨a.c + b.c, 0, b.n, a.x, b.l, false⟩ (plusS a.s b.s) (plusK a.s b.s)
      rw [HE.out, show a6 ⟨a.c + b.c, 0, b.n, a.x, b.l, false⟩ = #[.int .i64 (a.c + b.c), .int .i64 0, .int .i64 b.n, .int .i64 a.x, .int .i64 b.l, .bool false] from rfl, show a6 r = #[.int .i64 r.c, .int .i64 r.s, .int .i64 r.n, .int .i64 r.x, .int .i64 r.l, .bool r.o] from rfl] at hws
      have HWS := Lib.hid hws
      have HPL := Lib.hid (plus_any a.s b.s)
      have HBZ : Hid (Bx 24 ((((w.alloc (.cells #[.int .i64 a.c, .int .i64 a.s, .int .i64 a.n, .int .i64 a.x, .int .i64 a.l, .bool false] 24)).alloc (.cells #[.int .i64 b.c, .int .i64 b.s, .int .i64 b.n, .int .i64 b.x, .int .i64 b.l, .bool false] 24)).alloc (.cells #[.int .i64 0, .int .i64 0, .int .i64 0, .int .i64 0, .int .i64 0, .bool false] 24)).alloc (.cells #[.int .i64 (a.c + b.c), .int .i64 0, .int .i64 b.n, .int .i64 a.x, .int .i64 b.l, .bool false] 24)) (w.heap.size + 1 + 1) zeroA) := Lib.hid ((Bx.third 24 w zeroA (.cells #[.int .i64 a.c, .int .i64 a.s, .int .i64 a.n, .int .i64 a.x, .int .i64 a.l, .bool false] 24) (.cells #[.int .i64 b.c, .int .i64 b.s, .int .i64 b.n, .int .i64 b.x, .int .i64 b.l, .bool false] 24)).fr0 ((Fr.refl _ _).alloc (.cells #[.int .i64 (a.c + b.c), .int .i64 0, .int .i64 b.n, .int .i64 a.x, .int .i64 b.l, .bool false] 24)))
      have hbq := Bx.new 24 (((w.alloc (.cells #[.int .i64 a.c, .int .i64 a.s, .int .i64 a.n, .int .i64 a.x, .int .i64 a.l, .bool false] 24)).alloc (.cells #[.int .i64 b.c, .int .i64 b.s, .int .i64 b.n, .int .i64 b.x, .int .i64 b.l, .bool false] 24)).alloc (.cells #[.int .i64 0, .int .i64 0, .int .i64 0, .int .i64 0, .int .i64 0, .bool false] 24)) ⟨a.c + b.c, 0, b.n, a.x, b.l, false⟩
      rw [World.size_alloc, World.size_alloc, World.size_alloc] at hbq
      have HBQ := Lib.hid hbq
      have HAS : Hid (((((w.alloc (.cells #[.int .i64 a.c, .int .i64 a.s, .int .i64 a.n, .int .i64 a.x, .int .i64 a.l, .bool false] 24)).alloc (.cells #[.int .i64 b.c, .int .i64 b.s, .int .i64 b.n, .int .i64 b.x, .int .i64 b.l, .bool false] 24)).alloc (.cells #[.int .i64 0, .int .i64 0, .int .i64 0, .int .i64 0, .int .i64 0, .bool false] 24)).alloc (.cells #[.int .i64 (a.c + b.c), .int .i64 0, .int .i64 b.n, .int .i64 a.x, .int .i64 b.l, .bool false] 24)).cell? ⟨w.heap.size, 1, none⟩ = some (.int .i64 a.s)) := Lib.hid (((Bx.first 24 w ⟨a.c, a.s, a.n, a.x, a.l, false⟩ (.cells #[.int .i64 b.c, .int .i64 b.s, .int .i64 b.n, .int .i64 b.x, .int .i64 b.l, .bool false] 24) (.cells #[.int .i64 0, .int .i64 0, .int .i64 0, .int .i64 0, .int .i64 0, .bool false] 24)).fr0 ((Fr.refl _ _).alloc (.cells #[.int .i64 (a.c + b.c), .int .i64 0, .int .i64 b.n, .int .i64 a.x, .int .i64 b.l, .bool false] 24))).cells.2.1)
      have HBS : Hid (((((w.alloc (.cells #[.int .i64 a.c, .int .i64 a.s, .int .i64 a.n, .int .i64 a.x, .int .i64 a.l, .bool false] 24)).alloc (.cells #[.int .i64 b.c, .int .i64 b.s, .int .i64 b.n, .int .i64 b.x, .int .i64 b.l, .bool false] 24)).alloc (.cells #[.int .i64 0, .int .i64 0, .int .i64 0, .int .i64 0, .int .i64 0, .bool false] 24)).alloc (.cells #[.int .i64 (a.c + b.c), .int .i64 0, .int .i64 b.n, .int .i64 a.x, .int .i64 b.l, .bool false] 24)).cell? ⟨w.heap.size + 1, 1, none⟩ = some (.int .i64 b.s)) := Lib.hid (((Bx.second 24 w ⟨b.c, b.s, b.n, b.x, b.l, false⟩ (.cells #[.int .i64 a.c, .int .i64 a.s, .int .i64 a.n, .int .i64 a.x, .int .i64 a.l, .bool false] 24) (.cells #[.int .i64 0, .int .i64 0, .int .i64 0, .int .i64 0, .int .i64 0, .bool false] 24)).fr0 ((Fr.refl _ _).alloc (.cells #[.int .i64 (a.c + b.c), .int .i64 0, .int .i64 b.n, .int .i64 a.x, .int .i64 b.l, .bool false] 24))).cells.2.1)
      have HFX : Hid (Fr0 w ((((w.alloc (.cells #[.int .i64 a.c, .int .i64 a.s, .int .i64 a.n, .int .i64 a.x, .int .i64 a.l, .bool false] 24)).alloc (.cells #[.int .i64 b.c, .int .i64 b.s, .int .i64 b.n, .int .i64 b.x, .int .i64 b.l, .bool false] 24)).alloc (.cells #[.int .i64 0, .int .i64 0, .int .i64 0, .int .i64 0, .int .i64 0, .bool false] 24)).alloc (.cells #[.int .i64 (a.c + b.c), .int .i64 0, .int .i64 b.n, .int .i64 a.x, .int .i64 b.l, .bool false] 24))) := Lib.hid (((((Fr.refl _ _).alloc _).alloc _).alloc _).alloc _)
      clear hws hbq
      go_enter Tryd.func13, Tryd.ntmps13
      go_wp2_with fail
      have HGE : Hid (w.heap.size ≤ w.heap.size) := Lib.hid (Nat.le_refl _)
      generalize ((((w.alloc (.cells #[.int .i64 a.c, .int .i64 a.s, .int .i64 a.n, .int .i64 a.x, .int .i64 a.l, .bool false] 24)).alloc (.cells #[.int .i64 b.c, .int .i64 b.s, .int .i64 b.n, .int .i64 b.x, .int .i64 b.l, .bool false] 24)).alloc (.cells #[.int .i64 0, .int .i64 0, .int .i64 0, .int .i64 0, .int .i64 0, .bool false] 24)).alloc (.cells #[.int .i64 (a.c + b.c), .int .i64 0, .int .i64 b.n, .int .i64 a.x, .int .i64 b.l, .bool false] 24)) = W0 at *
      generalize hg : w.heap.size = g at *
      have HCL : Hid (∀ X, Fr0 W0 X → Fr0 W0 X ∧ X.cell? ⟨g, 1, none⟩ = some (.int .i64 a.s) ∧ X.cell? ⟨g + 1, 1, none⟩ = some (.int .i64 b.s)) := Lib.hid (fun X h => ⟨h, (h.cell (p := ⟨g, 1, none⟩) (World.block_lt_of_cell? W0 _ HAS.out) (fun f => f)).trans HAS.out, (h.cell (p := ⟨g + 1, 1, none⟩) (World.block_lt_of_cell? W0 _ HBS.out) (fun f => f)).trans HBS.out⟩)
      refine Mix.law (fun X => Fr0 W0 X ∧ X.cell? ⟨g, 1, none⟩ = some (.int .i64 a.s) ∧ X.cell? ⟨g + 1, 1, none⟩ = some (.int .i64 b.s)) [(.sure, 0), (.sure, 1), (.sure, 2), (.sure, 3), (.sure, 4), (.turn, 5), (.sure, 6), (.sure, 7), (.turn, 8), (.last, 9)] (by kernel_rfl) (by kernel_rfl) (HCL.out _ (Fr.refl _ _).drew) ?_
      simp only [List.map_cons, List.map_nil, Mix.nth_zero, Mix.nth_succ]
      have HX0 := Lib.hid ((Fr.refl (fun _ => False) W0).drew)
      generalize W0.drew = x0 at *
      refine Mix.go_sure_row (by first | exact Mix.wanted_none rfl | exact Mix.wanted_yes rfl rfl rfl) 24 _ rfl (g + 1 + 1 + 1) rfl 24 _ (0, 0) _ (fun w1 hC1 => hC1.1.heap HBQ.out.heap (fun f => f)) Tryd.underlying24 rfl (by kernel_rfl) ?_
      go_frame
      repeat (first
        | ((with_reducible refine Mix.go_skipS ?_ ?_); (focus (first | exact Mix.wanted_no rfl rfl rfl rfl | exact Mix.wanted_void rfl rfl rfl)); go_frame)
        | ((with_reducible refine Mix.go_skipL ?_ ?_); (focus (first | exact Mix.wanted_no rfl rfl rfl rfl | exact Mix.wanted_void rfl rfl rfl)); go_frame)
        | (refine Mix.go_move (by first | exact Mix.wanted_none rfl | exact Mix.wanted_yes rfl rfl rfl) _ rfl _ (by first | (go_simp; done) | (go_simp; rfl)) ?_; go_frame)
        | (refine Mix.go_assign (by first | exact Mix.wanted_none rfl | exact Mix.wanted_yes rfl rfl rfl) _ rfl _ (by first | (go_simp; done) | (go_simp; rfl)) ?_; go_frame)
        | (refine Mix.go_sureW (by first | exact Mix.wanted_none rfl | exact Mix.wanted_yes rfl rfl rfl) _ (by rfl) (by rfl) _ (fun w' ⟨hC1, hC2, hC3⟩ => by go_wp2_with fail; refine Mix.stays ?_; go_frame; rfl) ?_; go_frame)
        | (refine Mix.go_lookW (by first | exact Mix.wanted_none rfl | exact Mix.wanted_yes rfl rfl rfl) _ (by rfl) (by rfl) _ (by go_wp2_with fail; refine Mix.stays ?_; go_frame; rfl) ?_; go_frame))
      refine Mix.go_turn ?_
      go_wp2_with fail
      refine (HPL.out _).mono ?_
      rintro e x1 ⟨rfl, rfl⟩
      go_wp2
      refine Mix.then_go (HCL.out _ HX0.out) ?_
      repeat (first
        | ((with_reducible refine Mix.go_skipS ?_ ?_); (focus (first | exact Mix.wanted_no rfl rfl rfl rfl | exact Mix.wanted_void rfl rfl rfl)); go_frame)
        | ((with_reducible refine Mix.go_skipL ?_ ?_); (focus (first | exact Mix.wanted_no rfl rfl rfl rfl | exact Mix.wanted_void rfl rfl rfl)); go_frame)
        | (refine Mix.go_move (by first | exact Mix.wanted_none rfl | exact Mix.wanted_yes rfl rfl rfl) _ rfl _ (by first | (go_simp; done) | (go_simp; rfl)) ?_; go_frame)
        | (refine Mix.go_assign (by first | exact Mix.wanted_none rfl | exact Mix.wanted_yes rfl rfl rfl) _ rfl _ (by first | (go_simp; done) | (go_simp; rfl)) ?_; go_frame)
        | (refine Mix.go_sureW (by first | exact Mix.wanted_none rfl | exact Mix.wanted_yes rfl rfl rfl) _ (by rfl) (by rfl) _ (fun w' ⟨hC1, hC2, hC3⟩ => by go_wp2_with fail; refine Mix.stays ?_; go_frame; rfl) ?_; go_frame)
        | (refine Mix.go_lookW (by first | exact Mix.wanted_none rfl | exact Mix.wanted_yes rfl rfl rfl) _ (by rfl) (by rfl) _ (by go_wp2_with fail; refine Mix.stays ?_; go_frame; rfl) ?_; go_frame))
      refine Mix.go_turn ?_
      go_wp2_with fail
      refine (HWS.out _).mono ?_
      rintro e x1 ⟨rfl, hF⟩
      have HX1 := Lib.hid (HX0.out.trans' hF)
      clear hF
      go_wp2
      refine Mix.then_go (HCL.out _ HX1.out) ?_
      refine Mix.go_last ?_
      have HZ1 := Lib.hid (HBZ.out.fr0 HX1.out)
      have HR := Lib.hid (HZ1.out.setRow r)
      have HRF := Lib.hid (Fr.setRow (g := g + 1 + 1) (HFX.out.trans' HX1.out) (fun h => by have := HGE.out; omega) #[.int .i64 r.c, .int .i64 r.s, .int .i64 r.n, .int .i64 r.x, .int .i64 r.l, .bool r.o])
      go_wp2_with ((with_reducible change wpList _ _ _ (⟨_, Op.store 24 _ _, _, _, _, _⟩ :: _) _ _); refine wpList_store_row rfl 24 _ _ rfl (g + 1 + 1) #[.int .i64 r.c, .int .i64 r.s, .int .i64 r.n, .int .i64 r.x, .int .i64 r.l, .bool r.o] rfl rfl 24 _ HZ1.out.heap infoG rfl (a6_one ⟨r.c, r.s, r.n, r.x, r.l, r.o⟩) ?_)
      refine Mix.then_go trivial ?_
      refine Mix.go_end ?_
      go_wp2
      exact bodyPost_ret (res1 rfl Tryd.underlying24 rfl infoG _ rfl HR.out) rfl ⟨rfl, HRF.out⟩
  · by_cases hx : a.x < b.x
    · have hj := HJ.out
      rw [if_neg hn, if_pos hx] at hj
      have HE : Hid (withSum ⟨a.c + b.c, 0, a.n, b.x, b.l, false⟩ (plusS a.s b.s) (plusK a.s b.s) = r) := Lib.hid (by rw [hj]; exact HW.out a.n b.x)
      clear hj HW HJ HPF
      have hws := withSum_any ⟨a.c + b.c, 0, a.n, b.x, b.l, false⟩ (plusS a.s b.s) (plusK a.s b.s)
      rw [HE.out, show a6 ⟨a.c + b.c, 0, a.n, b.x, b.l, false⟩ = #[.int .i64 (a.c + b.c), .int .i64 0, .int .i64 a.n, .int .i64 b.x, .int .i64 b.l, .bool false] from rfl, show a6 r = #[.int .i64 r.c, .int .i64 r.s, .int .i64 r.n, .int .i64 r.x, .int .i64 r.l, .bool r.o] from rfl] at hws
      have HWS := Lib.hid hws
      have HPL := Lib.hid (plus_any a.s b.s)
      have HBZ : Hid (Bx 24 ((((w.alloc (.cells #[.int .i64 a.c, .int .i64 a.s, .int .i64 a.n, .int .i64 a.x, .int .i64 a.l, .bool false] 24)).alloc (.cells #[.int .i64 b.c, .int .i64 b.s, .int .i64 b.n, .int .i64 b.x, .int .i64 b.l, .bool false] 24)).alloc (.cells #[.int .i64 0, .int .i64 0, .int .i64 0, .int .i64 0, .int .i64 0, .bool false] 24)).alloc (.cells #[.int .i64 (a.c + b.c), .int .i64 0, .int .i64 a.n, .int .i64 b.x, .int .i64 b.l, .bool false] 24)) (w.heap.size + 1 + 1) zeroA) := Lib.hid ((Bx.third 24 w zeroA (.cells #[.int .i64 a.c, .int .i64 a.s, .int .i64 a.n, .int .i64 a.x, .int .i64 a.l, .bool false] 24) (.cells #[.int .i64 b.c, .int .i64 b.s, .int .i64 b.n, .int .i64 b.x, .int .i64 b.l, .bool false] 24)).fr0 ((Fr.refl _ _).alloc (.cells #[.int .i64 (a.c + b.c), .int .i64 0, .int .i64 a.n, .int .i64 b.x, .int .i64 b.l, .bool false] 24)))
      have hbq := Bx.new 24 (((w.alloc (.cells #[.int .i64 a.c, .int .i64 a.s, .int .i64 a.n, .int .i64 a.x, .int .i64 a.l, .bool false] 24)).alloc (.cells #[.int .i64 b.c, .int .i64 b.s, .int .i64 b.n, .int .i64 b.x, .int .i64 b.l, .bool false] 24)).alloc (.cells #[.int .i64 0, .int .i64 0, .int .i64 0, .int .i64 0, .int .i64 0, .bool false] 24)) ⟨a.c + b.c, 0, a.n, b.x, b.l, false⟩
      rw [World.size_alloc, World.size_alloc, World.size_alloc] at hbq
      have HBQ := Lib.hid hbq
      have HAS : Hid (((((w.alloc (.cells #[.int .i64 a.c, .int .i64 a.s, .int .i64 a.n, .int .i64 a.x, .int .i64 a.l, .bool false] 24)).alloc (.cells #[.int .i64 b.c, .int .i64 b.s, .int .i64 b.n, .int .i64 b.x, .int .i64 b.l, .bool false] 24)).alloc (.cells #[.int .i64 0, .int .i64 0, .int .i64 0, .int .i64 0, .int .i64 0, .bool false] 24)).alloc (.cells #[.int .i64 (a.c + b.c), .int .i64 0, .int .i64 a.n, .int .i64 b.x, .int .i64 b.l, .bool false] 24)).cell? ⟨w.heap.size, 1, none⟩ = some (.int .i64 a.s)) := Lib.hid (((Bx.first 24 w ⟨a.c, a.s, a.n, a.x, a.l, false⟩ (.cells #[.int .i64 b.c, .int .i64 b.s, .int .i64 b.n, .int .i64 b.x, .int .i64 b.l, .bool false] 24) (.cells #[.int .i64 0, .int .i64 0, .int .i64 0, .int .i64 0, .int .i64 0, .bool false] 24)).fr0 ((Fr.refl _ _).alloc (.cells #[.int .i64 (a.c + b.c), .int .i64 0, .int .i64 a.n, .int .i64 b.x, .int .i64 b.l, .bool false] 24))).cells.2.1)
      have HBS : Hid (((((w.alloc (.cells #[.int .i64 a.c, .int .i64 a.s, .int .i64 a.n, .int .i64 a.x, .int .i64 a.l, .bool false] 24)).alloc (.cells #[.int .i64 b.c, .int .i64 b.s, .int .i64 b.n, .int .i64 b.x, .int .i64 b.l, .bool false] 24)).alloc (.cells #[.int .i64 0, .int .i64 0, .int .i64 0, .int .i64 0, .int .i64 0, .bool false] 24)).alloc (.cells #[.int .i64 (a.c + b.c), .int .i64 0, .int .i64 a.n, .int .i64 b.x, .int .i64 b.l, .bool false] 24)).cell? ⟨w.heap.size + 1, 1, none⟩ = some (.int .i64 b.s)) := Lib.hid (((Bx.second 24 w ⟨b.c, b.s, b.n, b.x, b.l, false⟩ (.cells #[.int .i64 a.c, .int .i64 a.s, .int .i64 a.n, .int .i64 a.x, .int .i64 a.l, .bool false] 24) (.cells #[.int .i64 0, .int .i64 0, .int .i64 0, .int .i64 0, .int .i64 0, .bool false] 24)).fr0 ((Fr.refl _ _).alloc (.cells #[.int .i64 (a.c + b.c), .int .i64 0, .int .i64 a.n, .int .i64 b.x, .int .i64 b.l, .bool false] 24))).cells.2.1)
      have HFX : Hid (Fr0 w ((((w.alloc (.cells #[.int .i64 a.c, .int .i64 a.s, .int .i64 a.n, .int .i64 a.x, .int .i64 a.l, .bool false] 24)).alloc (.cells #[.int .i64 b.c, .int .i64 b.s, .int .i64 b.n, .int .i64 b.x, .int .i64 b.l, .bool false] 24)).alloc (.cells #[.int .i64 0, .int .i64 0, .int .i64 0, .int .i64 0, .int .i64 0, .bool false] 24)).alloc (.cells #[.int .i64 (a.c + b.c), .int .i64 0, .int .i64 a.n, .int .i64 b.x, .int .i64 b.l, .bool false] 24))) := Lib.hid (((((Fr.refl _ _).alloc _).alloc _).alloc _).alloc _)
      clear hws hbq
      go_enter Tryd.func13, Tryd.ntmps13
      go_wp2_with fail
      have HGE : Hid (w.heap.size ≤ w.heap.size) := Lib.hid (Nat.le_refl _)
      generalize ((((w.alloc (.cells #[.int .i64 a.c, .int .i64 a.s, .int .i64 a.n, .int .i64 a.x, .int .i64 a.l, .bool false] 24)).alloc (.cells #[.int .i64 b.c, .int .i64 b.s, .int .i64 b.n, .int .i64 b.x, .int .i64 b.l, .bool false] 24)).alloc (.cells #[.int .i64 0, .int .i64 0, .int .i64 0, .int .i64 0, .int .i64 0, .bool false] 24)).alloc (.cells #[.int .i64 (a.c + b.c), .int .i64 0, .int .i64 a.n, .int .i64 b.x, .int .i64 b.l, .bool false] 24)) = W0 at *
      generalize hg : w.heap.size = g at *
      have HCL : Hid (∀ X, Fr0 W0 X → Fr0 W0 X ∧ X.cell? ⟨g, 1, none⟩ = some (.int .i64 a.s) ∧ X.cell? ⟨g + 1, 1, none⟩ = some (.int .i64 b.s)) := Lib.hid (fun X h => ⟨h, (h.cell (p := ⟨g, 1, none⟩) (World.block_lt_of_cell? W0 _ HAS.out) (fun f => f)).trans HAS.out, (h.cell (p := ⟨g + 1, 1, none⟩) (World.block_lt_of_cell? W0 _ HBS.out) (fun f => f)).trans HBS.out⟩)
      refine Mix.law (fun X => Fr0 W0 X ∧ X.cell? ⟨g, 1, none⟩ = some (.int .i64 a.s) ∧ X.cell? ⟨g + 1, 1, none⟩ = some (.int .i64 b.s)) [(.sure, 0), (.sure, 1), (.sure, 2), (.sure, 3), (.sure, 4), (.turn, 5), (.sure, 6), (.sure, 7), (.turn, 8), (.last, 9)] (by kernel_rfl) (by kernel_rfl) (HCL.out _ (Fr.refl _ _).drew) ?_
      simp only [List.map_cons, List.map_nil, Mix.nth_zero, Mix.nth_succ]
      have HX0 := Lib.hid ((Fr.refl (fun _ => False) W0).drew)
      generalize W0.drew = x0 at *
      refine Mix.go_sure_row (by first | exact Mix.wanted_none rfl | exact Mix.wanted_yes rfl rfl rfl) 24 _ rfl (g + 1 + 1 + 1) rfl 24 _ (0, 0) _ (fun w1 hC1 => hC1.1.heap HBQ.out.heap (fun f => f)) Tryd.underlying24 rfl (by kernel_rfl) ?_
      go_frame
      repeat (first
        | ((with_reducible refine Mix.go_skipS ?_ ?_); (focus (first | exact Mix.wanted_no rfl rfl rfl rfl | exact Mix.wanted_void rfl rfl rfl)); go_frame)
        | ((with_reducible refine Mix.go_skipL ?_ ?_); (focus (first | exact Mix.wanted_no rfl rfl rfl rfl | exact Mix.wanted_void rfl rfl rfl)); go_frame)
        | (refine Mix.go_move (by first | exact Mix.wanted_none rfl | exact Mix.wanted_yes rfl rfl rfl) _ rfl _ (by first | (go_simp; done) | (go_simp; rfl)) ?_; go_frame)
        | (refine Mix.go_assign (by first | exact Mix.wanted_none rfl | exact Mix.wanted_yes rfl rfl rfl) _ rfl _ (by first | (go_simp; done) | (go_simp; rfl)) ?_; go_frame)
        | (refine Mix.go_sureW (by first | exact Mix.wanted_none rfl | exact Mix.wanted_yes rfl rfl rfl) _ (by rfl) (by rfl) _ (fun w' ⟨hC1, hC2, hC3⟩ => by go_wp2_with fail; refine Mix.stays ?_; go_frame; rfl) ?_; go_frame)
        | (refine Mix.go_lookW (by first | exact Mix.wanted_none rfl | exact Mix.wanted_yes rfl rfl rfl) _ (by rfl) (by rfl) _ (by go_wp2_with fail; refine Mix.stays ?_; go_frame; rfl) ?_; go_frame))
      refine Mix.go_turn ?_
      go_wp2_with fail
      refine (HPL.out _).mono ?_
      rintro e x1 ⟨rfl, rfl⟩
      go_wp2
      refine Mix.then_go (HCL.out _ HX0.out) ?_
      repeat (first
        | ((with_reducible refine Mix.go_skipS ?_ ?_); (focus (first | exact Mix.wanted_no rfl rfl rfl rfl | exact Mix.wanted_void rfl rfl rfl)); go_frame)
        | ((with_reducible refine Mix.go_skipL ?_ ?_); (focus (first | exact Mix.wanted_no rfl rfl rfl rfl | exact Mix.wanted_void rfl rfl rfl)); go_frame)
        | (refine Mix.go_move (by first | exact Mix.wanted_none rfl | exact Mix.wanted_yes rfl rfl rfl) _ rfl _ (by first | (go_simp; done) | (go_simp; rfl)) ?_; go_frame)
        | (refine Mix.go_assign (by first | exact Mix.wanted_none rfl | exact Mix.wanted_yes rfl rfl rfl) _ rfl _ (by first | (go_simp; done) | (go_simp; rfl)) ?_; go_frame)
        | (refine Mix.go_sureW (by first | exact Mix.wanted_none rfl | exact Mix.wanted_yes rfl rfl rfl) _ (by rfl) (by rfl) _ (fun w' ⟨hC1, hC2, hC3⟩ => by go_wp2_with fail; refine Mix.stays ?_; go_frame; rfl) ?_; go_frame)
        | (refine Mix.go_lookW (by first | exact Mix.wanted_none rfl | exact Mix.wanted_yes rfl rfl rfl) _ (by rfl) (by rfl) _ (by go_wp2_with fail; refine Mix.stays ?_; go_frame; rfl) ?_; go_frame))
      refine Mix.go_turn ?_
      go_wp2_with fail
      refine (HWS.out _).mono ?_
      rintro e x1 ⟨rfl, hF⟩
      have HX1 := Lib.hid (HX0.out.trans' hF)
      clear hF
      go_wp2
      refine Mix.then_go (HCL.out _ HX1.out) ?_
      refine Mix.go_last ?_
      have HZ1 := Lib.hid (HBZ.out.fr0 HX1.out)
      have HR := Lib.hid (HZ1.out.setRow r)
      have HRF := Lib.hid (Fr.setRow (g := g + 1 + 1) (HFX.out.trans' HX1.out) (fun h => by have := HGE.out; omega) #[.int .i64 r.c, .int .i64 r.s, .int .i64 r.n, .int .i64 r.x, .int .i64 r.l, .bool r.o])
      go_wp2_with ((with_reducible change wpList _ _ _ (⟨_, Op.store 24 _ _, _, _, _, _⟩ :: _) _ _); refine wpList_store_row rfl 24 _ _ rfl (g + 1 + 1) #[.int .i64 r.c, .int .i64 r.s, .int .i64 r.n, .int .i64 r.x, .int .i64 r.l, .bool r.o] rfl rfl 24 _ HZ1.out.heap infoG rfl (a6_one ⟨r.c, r.s, r.n, r.x, r.l, r.o⟩) ?_)
      refine Mix.then_go trivial ?_
      refine Mix.go_end ?_
      go_wp2
      exact bodyPost_ret (res1 rfl Tryd.underlying24 rfl infoG _ rfl HR.out) rfl ⟨rfl, HRF.out⟩
    · have hj := HJ.out
      rw [if_neg hn, if_neg hx] at hj
      have HE : Hid (withSum ⟨a.c + b.c, 0, a.n, a.x, b.l, false⟩ (plusS a.s b.s) (plusK a.s b.s) = r) := Lib.hid (by rw [hj]; exact HW.out a.n a.x)
      clear hj HW HJ HPF
      have hws := withSum_any ⟨a.c + b.c, 0, a.n, a.x, b.l, false⟩ (plusS a.s b.s) (plusK a.s b.s)
      rw [HE.out, show a6 ⟨a.c + b.c, 0, a.n, a.x, b.l, false⟩ = #[.int .i64 (a.c + b.c), .int .i64 0, .int .i64 a.n, .int .i64 a.x, .int .i64 b.l, .bool false] from rfl, show a6 r = #[.int .i64 r.c, .int .i64 r.s, .int .i64 r.n, .int .i64 r.x, .int .i64 r.l, .bool r.o] from rfl] at hws
      have HWS := Lib.hid hws
      have HPL := Lib.hid (plus_any a.s b.s)
      have HBZ : Hid (Bx 24 ((((w.alloc (.cells #[.int .i64 a.c, .int .i64 a.s, .int .i64 a.n, .int .i64 a.x, .int .i64 a.l, .bool false] 24)).alloc (.cells #[.int .i64 b.c, .int .i64 b.s, .int .i64 b.n, .int .i64 b.x, .int .i64 b.l, .bool false] 24)).alloc (.cells #[.int .i64 0, .int .i64 0, .int .i64 0, .int .i64 0, .int .i64 0, .bool false] 24)).alloc (.cells #[.int .i64 (a.c + b.c), .int .i64 0, .int .i64 a.n, .int .i64 a.x, .int .i64 b.l, .bool false] 24)) (w.heap.size + 1 + 1) zeroA) := Lib.hid ((Bx.third 24 w zeroA (.cells #[.int .i64 a.c, .int .i64 a.s, .int .i64 a.n, .int .i64 a.x, .int .i64 a.l, .bool false] 24) (.cells #[.int .i64 b.c, .int .i64 b.s, .int .i64 b.n, .int .i64 b.x, .int .i64 b.l, .bool false] 24)).fr0 ((Fr.refl _ _).alloc (.cells #[.int .i64 (a.c + b.c), .int .i64 0, .int .i64 a.n, .int .i64 a.x, .int .i64 b.l, .bool false] 24)))
      have hbq := Bx.new 24 (((w.alloc (.cells #[.int .i64 a.c, .int .i64 a.s, .int .i64 a.n, .int .i64 a.x, .int .i64 a.l, .bool false] 24)).alloc (.cells #[.int .i64 b.c, .int .i64 b.s, .int .i64 b.n, .int .i64 b.x, .int .i64 b.l, .bool false] 24)).alloc (.cells #[.int .i64 0, .int .i64 0, .int .i64 0, .int .i64 0, .int .i64 0, .bool false] 24)) ⟨a.c + b.c, 0, a.n, a.x, b.l, false⟩
      rw [World.size_alloc, World.size_alloc, World.size_alloc] at hbq
      have HBQ := Lib.hid hbq
      have HAS : Hid (((((w.alloc (.cells #[.int .i64 a.c, .int .i64 a.s, .int .i64 a.n, .int .i64 a.x, .int .i64 a.l, .bool false] 24)).alloc (.cells #[.int .i64 b.c, .int .i64 b.s, .int .i64 b.n, .int .i64 b.x, .int .i64 b.l, .bool false] 24)).alloc (.cells #[.int .i64 0, .int .i64 0, .int .i64 0, .int .i64 0, .int .i64 0, .bool false] 24)).alloc (.cells #[.int .i64 (a.c + b.c), .int .i64 0, .int .i64 a.n, .int .i64 a.x, .int .i64 b.l, .bool false] 24)).cell? ⟨w.heap.size, 1, none⟩ = some (.int .i64 a.s)) := Lib.hid (((Bx.first 24 w ⟨a.c, a.s, a.n, a.x, a.l, false⟩ (.cells #[.int .i64 b.c, .int .i64 b.s, .int .i64 b.n, .int .i64 b.x, .int .i64 b.l, .bool false] 24) (.cells #[.int .i64 0, .int .i64 0, .int .i64 0, .int .i64 0, .int .i64 0, .bool false] 24)).fr0 ((Fr.refl _ _).alloc (.cells #[.int .i64 (a.c + b.c), .int .i64 0, .int .i64 a.n, .int .i64 a.x, .int .i64 b.l, .bool false] 24))).cells.2.1)
      have HBS : Hid (((((w.alloc (.cells #[.int .i64 a.c, .int .i64 a.s, .int .i64 a.n, .int .i64 a.x, .int .i64 a.l, .bool false] 24)).alloc (.cells #[.int .i64 b.c, .int .i64 b.s, .int .i64 b.n, .int .i64 b.x, .int .i64 b.l, .bool false] 24)).alloc (.cells #[.int .i64 0, .int .i64 0, .int .i64 0, .int .i64 0, .int .i64 0, .bool false] 24)).alloc (.cells #[.int .i64 (a.c + b.c), .int .i64 0, .int .i64 a.n, .int .i64 a.x, .int .i64 b.l, .bool false] 24)).cell? ⟨w.heap.size + 1, 1, none⟩ = some (.int .i64 b.s)) := Lib.hid (((Bx.second 24 w ⟨b.c, b.s, b.n, b.x, b.l, false⟩ (.cells #[.int .i64 a.c, .int .i64 a.s, .int .i64 a.n, .int .i64 a.x, .int .i64 a.l, .bool false] 24) (.cells #[.int .i64 0, .int .i64 0, .int .i64 0, .int .i64 0, .int .i64 0, .bool false] 24)).fr0 ((Fr.refl _ _).alloc (.cells #[.int .i64 (a.c + b.c), .int .i64 0, .int .i64 a.n, .int .i64 a.x, .int .i64 b.l, .bool false] 24))).cells.2.1)
      have HFX : Hid (Fr0 w ((((w.alloc (.cells #[.int .i64 a.c, .int .i64 a.s, .int .i64 a.n, .int .i64 a.x, .int .i64 a.l, .bool false] 24)).alloc (.cells #[.int .i64 b.c, .int .i64 b.s, .int .i64 b.n, .int .i64 b.x, .int .i64 b.l, .bool false] 24)).alloc (.cells #[.int .i64 0, .int .i64 0, .int .i64 0, .int .i64 0, .int .i64 0, .bool false] 24)).alloc (.cells #[.int .i64 (a.c + b.c), .int .i64 0, .int .i64 a.n, .int .i64 a.x, .int .i64 b.l, .bool false] 24))) := Lib.hid (((((Fr.refl _ _).alloc _).alloc _).alloc _).alloc _)
      clear hws hbq
      go_enter Tryd.func13, Tryd.ntmps13
      go_wp2_with fail
      have HGE : Hid (w.heap.size ≤ w.heap.size) := Lib.hid (Nat.le_refl _)
      generalize ((((w.alloc (.cells #[.int .i64 a.c, .int .i64 a.s, .int .i64 a.n, .int .i64 a.x, .int .i64 a.l, .bool false] 24)).alloc (.cells #[.int .i64 b.c, .int .i64 b.s, .int .i64 b.n, .int .i64 b.x, .int .i64 b.l, .bool false] 24)).alloc (.cells #[.int .i64 0, .int .i64 0, .int .i64 0, .int .i64 0, .int .i64 0, .bool false] 24)).alloc (.cells #[.int .i64 (a.c + b.c), .int .i64 0, .int .i64 a.n, .int .i64 a.x, .int .i64 b.l, .bool false] 24)) = W0 at *
      generalize hg : w.heap.size = g at *
      have HCL : Hid (∀ X, Fr0 W0 X → Fr0 W0 X ∧ X.cell? ⟨g, 1, none⟩ = some (.int .i64 a.s) ∧ X.cell? ⟨g + 1, 1, none⟩ = some (.int .i64 b.s)) := Lib.hid (fun X h => ⟨h, (h.cell (p := ⟨g, 1, none⟩) (World.block_lt_of_cell? W0 _ HAS.out) (fun f => f)).trans HAS.out, (h.cell (p := ⟨g + 1, 1, none⟩) (World.block_lt_of_cell? W0 _ HBS.out) (fun f => f)).trans HBS.out⟩)
      refine Mix.law (fun X => Fr0 W0 X ∧ X.cell? ⟨g, 1, none⟩ = some (.int .i64 a.s) ∧ X.cell? ⟨g + 1, 1, none⟩ = some (.int .i64 b.s)) [(.sure, 0), (.sure, 1), (.sure, 2), (.sure, 3), (.sure, 4), (.turn, 5), (.sure, 6), (.sure, 7), (.turn, 8), (.last, 9)] (by kernel_rfl) (by kernel_rfl) (HCL.out _ (Fr.refl _ _).drew) ?_
      simp only [List.map_cons, List.map_nil, Mix.nth_zero, Mix.nth_succ]
      have HX0 := Lib.hid ((Fr.refl (fun _ => False) W0).drew)
      generalize W0.drew = x0 at *
      refine Mix.go_sure_row (by first | exact Mix.wanted_none rfl | exact Mix.wanted_yes rfl rfl rfl) 24 _ rfl (g + 1 + 1 + 1) rfl 24 _ (0, 0) _ (fun w1 hC1 => hC1.1.heap HBQ.out.heap (fun f => f)) Tryd.underlying24 rfl (by kernel_rfl) ?_
      go_frame
      repeat (first
        | ((with_reducible refine Mix.go_skipS ?_ ?_); (focus (first | exact Mix.wanted_no rfl rfl rfl rfl | exact Mix.wanted_void rfl rfl rfl)); go_frame)
        | ((with_reducible refine Mix.go_skipL ?_ ?_); (focus (first | exact Mix.wanted_no rfl rfl rfl rfl | exact Mix.wanted_void rfl rfl rfl)); go_frame)
        | (refine Mix.go_move (by first | exact Mix.wanted_none rfl | exact Mix.wanted_yes rfl rfl rfl) _ rfl _ (by first | (go_simp; done) | (go_simp; rfl)) ?_; go_frame)
        | (refine Mix.go_assign (by first | exact Mix.wanted_none rfl | exact Mix.wanted_yes rfl rfl rfl) _ rfl _ (by first | (go_simp; done) | (go_simp; rfl)) ?_; go_frame)
        | (refine Mix.go_sureW (by first | exact Mix.wanted_none rfl | exact Mix.wanted_yes rfl rfl rfl) _ (by rfl) (by rfl) _ (fun w' ⟨hC1, hC2, hC3⟩ => by go_wp2_with fail; refine Mix.stays ?_; go_frame; rfl) ?_; go_frame)
        | (refine Mix.go_lookW (by first | exact Mix.wanted_none rfl | exact Mix.wanted_yes rfl rfl rfl) _ (by rfl) (by rfl) _ (by go_wp2_with fail; refine Mix.stays ?_; go_frame; rfl) ?_; go_frame))
      refine Mix.go_turn ?_
      go_wp2_with fail
      refine (HPL.out _).mono ?_
      rintro e x1 ⟨rfl, rfl⟩
      go_wp2
      refine Mix.then_go (HCL.out _ HX0.out) ?_
      repeat (first
        | ((with_reducible refine Mix.go_skipS ?_ ?_); (focus (first | exact Mix.wanted_no rfl rfl rfl rfl | exact Mix.wanted_void rfl rfl rfl)); go_frame)
        | ((with_reducible refine Mix.go_skipL ?_ ?_); (focus (first | exact Mix.wanted_no rfl rfl rfl rfl | exact Mix.wanted_void rfl rfl rfl)); go_frame)
        | (refine Mix.go_move (by first | exact Mix.wanted_none rfl | exact Mix.wanted_yes rfl rfl rfl) _ rfl _ (by first | (go_simp; done) | (go_simp; rfl)) ?_; go_frame)
        | (refine Mix.go_assign (by first | exact Mix.wanted_none rfl | exact Mix.wanted_yes rfl rfl rfl) _ rfl _ (by first | (go_simp; done) | (go_simp; rfl)) ?_; go_frame)
        | (refine Mix.go_sureW (by first | exact Mix.wanted_none rfl | exact Mix.wanted_yes rfl rfl rfl) _ (by rfl) (by rfl) _ (fun w' ⟨hC1, hC2, hC3⟩ => by go_wp2_with fail; refine Mix.stays ?_; go_frame; rfl) ?_; go_frame)
        | (refine Mix.go_lookW (by first | exact Mix.wanted_none rfl | exact Mix.wanted_yes rfl rfl rfl) _ (by rfl) (by rfl) _ (by go_wp2_with fail; refine Mix.stays ?_; go_frame; rfl) ?_; go_frame))
      refine Mix.go_turn ?_
      go_wp2_with fail
      refine (HWS.out _).mono ?_
      rintro e x1 ⟨rfl, hF⟩
      have HX1 := Lib.hid (HX0.out.trans' hF)
      clear hF
      go_wp2
      refine Mix.then_go (HCL.out _ HX1.out) ?_
      refine Mix.go_last ?_
      have HZ1 := Lib.hid (HBZ.out.fr0 HX1.out)
      have HR := Lib.hid (HZ1.out.setRow r)
      have HRF := Lib.hid (Fr.setRow (g := g + 1 + 1) (HFX.out.trans' HX1.out) (fun h => by have := HGE.out; omega) #[.int .i64 r.c, .int .i64 r.s, .int .i64 r.n, .int .i64 r.x, .int .i64 r.l, .bool r.o])
      go_wp2_with ((with_reducible change wpList _ _ _ (⟨_, Op.store 24 _ _, _, _, _, _⟩ :: _) _ _); refine wpList_store_row rfl 24 _ _ rfl (g + 1 + 1) #[.int .i64 r.c, .int .i64 r.s, .int .i64 r.n, .int .i64 r.x, .int .i64 r.l, .bool r.o] rfl rfl 24 _ HZ1.out.heap infoG rfl (a6_one ⟨r.c, r.s, r.n, r.x, r.l, r.o⟩) ?_)
      refine Mix.then_go trivial ?_
      refine Mix.go_end ?_
      go_wp2
      exact bodyPost_ret (res1 rfl Tryd.underlying24 rfl infoG _ rfl HR.out) rfl ⟨rfl, HRF.out⟩
end Go.Proofs.YtbiokogihimboaaDoor.Agg
