/-
  The laws' own, same.
-/
import Derived.Test.YtjefddliebokaaaReplyMem
import Derived.Test.YtjefddliebokaaaChecked
import Derived.Lib.Hide
import Derived.WalkKit
import Derived.KernelRfl
namespace Go.Proofs.Ytjefddliebokaaa.ReplyL
open Go.RowKit Base Pack _root_.Go.Proofs.Ytjefddliebokaaa.Reply

theorem infoR : (Try.prog.info? 38).map (·.size) = some 4 := by kernel_rfl
theorem results_r {fn : Func} {p : Tmp} (h : fn.results = #[.cell p 38]) (tmps : Array Value) (w : World) (g : Nat) (cs : Array Value) (hp : tmps.getD p undef = .pointer (some ⟨g, 0, none⟩)) (hg : w.heap[g]? = some (.cells cs 38 (0, 0))) (hi : (Try.prog.info? 38).map (·.size) = some cs.size) :
    (results fn tmps).run Try.prog w = .ok (.agg cs) w := by
  have hp' : tmps[p]?.getD undef = .pointer (some ⟨g, 0, none⟩) := by simpa using hp
  simp [results, h, hp', asAddr, run_loadVar_row w g 38 38 cs (0, 0) _ hg Try.underlying38 rfl hi]
set_option maxHeartbeats 2000000 in
theorem own_any (A : Option Addr) (n C : Nat) (r : Rp) (w : World) :
    Calls Try.prog 15 #[.agg (rp4 (.slice A n C) r)] w fun e w' => e = .returned (.agg (rp4 (.slice A n C) r)) ∧ Fr0 w w' := by
  obtain ⟨W1, hW1⟩ : ∃ W1, W1 = (w.alloc (.cells #[.int .i64 r.st, .bool r.hit, .int .u32 (r.slot : Int), .slice A n C] 27)).alloc (.cells #[.int .i64 0, .bool false, .int .u32 0, .slice none 0 0] 38) := ⟨_, rfl⟩
  have hb := (Bx.new 27 w (.slice A n C) r).fr0 ((Fr.refl (fun _ => False) _).alloc (.cells #[.int .i64 0, .bool false, .int .u32 0, .slice none 0 0] 38))
  have hz := heap_alloc_new (w.alloc (.cells #[.int .i64 r.st, .bool r.hit, .int .u32 (r.slot : Int), .slice A n C] 27)) (.cells #[.int .i64 0, .bool false, .int .u32 0, .slice none 0 0] 38)
  rw [show (w.alloc (.cells #[.int .i64 r.st, .bool r.hit, .int .u32 (r.slot : Int), .slice A n C] 27)).heap.size = w.heap.size + 1 by simp] at hz
  have HZ := Lib.hid hz
  have HF1 : Hid (Fr0 w W1) := Lib.hid (by rw [hW1]; exact ((Fr.refl _ _).alloc _).alloc _)
  obtain ⟨c0, c1, c2, c3⟩ := hb.cells
  rw [← hW1] at hz
  have HZ1 := Lib.hid hz
  have HW1 := Lib.hid hW1
  clear hb hz hW1
  unfold rp4
  go_enter Try.func15, Try.ntmps15
  go_wp2_with (refine wpList_store_row rfl 38 _ _ rfl (w.heap.size + 1) #[.int .i64 r.st, .bool r.hit, .int .u32 (r.slot : Int), .slice A n C] rfl rfl 38 _ HZ.out infoR rfl (rp4_one _ _ rfl) ?_; rw [← HW1.out])
  have hz2 := setRow_heap W1 (w.heap.size + 1) _ #[.int .i64 r.st, .bool r.hit, .int .u32 (r.slot : Int), .slice A n C] _ _ HZ1.out
  have hfe : Fr0 w (W1.setRow (w.heap.size + 1) #[.int .i64 r.st, .bool r.hit, .int .u32 (r.slot : Int), .slice A n C]) := Fr.setRow HF1.out (fun h => absurd h (by omega)) _
  (try simp only [Exit.inBlock, Exit.then])
  exact bodyPost_ret (results_r rfl _ _ (w.heap.size + 1) _ rfl hz2 infoR) rfl ⟨rfl, hfe⟩
set_option maxRecDepth 100000 in
set_option maxHeartbeats 2000000 in
theorem same_any (A B : Option Addr) (C D : Nat) (a b : Rp) (w : World) (hA : BytesIs w (.slice A a.body.length C) a.body) (hB : BytesIs w (.slice B b.body.length D) b.body) :
    Calls Try.prog 19 #[.agg (rp4 (.slice A a.body.length C) a), .agg (rp4 (.slice B b.body.length D) b)] w fun e w' => e = .returned (.bool (sameR a b)) ∧ Fr0 w w' := by
  obtain ⟨x, hx⟩ : ∃ x, x = sameR a b := ⟨_, rfl⟩
  rw [← hx]
  have HNS := Lib.hid (fun h => hx.trans (sameR_ne (fun r => r.st) h))
  have HNH := Lib.hid (fun h => hx.trans (sameR_ne (fun r => r.hit) h))
  have HNL := Lib.hid (fun h => hx.trans (sameR_ne (fun r => r.slot) h))
  have HNB := Lib.hid (fun h => hx.trans (sameR_ne (fun r => r.body) h))
  have HY : Hid (a.st = b.st → a.hit = b.hit → a.slot = b.slot → a.body = b.body → x = true) := Lib.hid (fun h1 h2 h3 h4 => hx.trans (decide_eq_true ⟨h1, h2, h3, h4⟩))
  (try simp only at HNS HNH HNL HNB)
  have hf0 : Fr0 w ((w.alloc (.cells #[.int .i64 a.st, .bool a.hit, .int .u32 (a.slot : Int), .slice A a.body.length C] 38)).alloc (.cells #[.int .i64 b.st, .bool b.hit, .int .u32 (b.slot : Int), .slice B b.body.length D] 38)) := ((Fr.refl _ _).alloc _).alloc _
  have ha := (Bx.new 38 w (.slice A a.body.length C) a).fr0 ((Fr.refl (fun _ => False) _).alloc (.cells #[.int .i64 b.st, .bool b.hit, .int .u32 (b.slot : Int), .slice B b.body.length D] 38))
  have hb := Bx.new 38 (w.alloc (.cells #[.int .i64 a.st, .bool a.hit, .int .u32 (a.slot : Int), .slice A a.body.length C] 38)) (.slice B b.body.length D) b
  rw [show (w.alloc (.cells #[.int .i64 a.st, .bool a.hit, .int .u32 (a.slot : Int), .slice A a.body.length C] 38)).heap.size = w.heap.size + 1 by simp] at hb
  obtain ⟨c0, c1, c2, c3⟩ := ha.cells
  obtain ⟨d0, d1, d2, d3⟩ := hb.cells
  have hv1 := (hA.fr0 hf0).convert (P := Try.prog) 25 9 5 Try.underlying25 Try.underlying5 Try.underlying9
  have hv2 := (hB.fr0 hf0).convert (P := Try.prog) 25 9 5 Try.underlying25 Try.underlying5 Try.underlying9
  have HF := Lib.hid hf0
  clear hx ha hb hA hB hf0
  unfold rp4
  generalize a.st = s1 at *
  generalize b.st = s2 at *
  generalize a.hit = h1 at *
  generalize b.hit = h2 at *
  generalize a.slot = t1 at *
  generalize b.slot = t2 at *
  generalize a.body.length = l1 at *
  generalize b.body.length = l2 at *
  generalize a.body = x1 at *
  generalize b.body = x2 at *
  by_cases hs : s1 = s2
  · by_cases hh : h1 = h2
    · by_cases ht : t1 = t2
      · by_cases hb : x1 = x2
        ·
          have HR := Lib.hid (HY.out hs hh ht hb)
          subst hs hh ht hb
          cases h1
          all_goals (
            go_enter Try.func19, Try.ntmps19
            go_wp2
            go_ret
            exact ⟨by rw [HR.out]; rfl, HF.out⟩)
        ·
          have HR := Lib.hid (HNB.out hb)
          subst hs hh ht
          have zn : (x1 == x2) = false := beq_eq_false_iff_ne.2 hb
          clear hb
          cases h1
          all_goals (
            go_enter Try.func19, Try.ntmps19
            go_wp2
            go_ret
            exact ⟨by rw [HR.out]; rfl, HF.out⟩)
      ·
        have HR := Lib.hid (HNL.out ht)
        subst hs hh
        have zt : ((t1 : Int) == (t2 : Int)) = false := beq_eq_false_iff_ne.2 (by omega)
        cases h1
        all_goals (
          go_enter Try.func19, Try.ntmps19
          go_wp2
          go_ret
          exact ⟨by rw [HR.out]; rfl, HF.out⟩)
    ·
      have HR := Lib.hid (HNH.out hh)
      subst hs
      cases h1 <;> cases h2
      all_goals first
        | exact absurd rfl hh
        | (clear hh
           go_enter Try.func19, Try.ntmps19
           go_wp2
           go_ret
           exact ⟨by rw [HR.out]; rfl, HF.out⟩)
  ·
    have zs : (s1 == s2) = false := beq_eq_false_iff_ne.2 hs
    have HR := Lib.hid (HNS.out hs)
    go_enter Try.func19, Try.ntmps19
    go_wp2
    go_ret
    exact ⟨by rw [HR.out]; rfl, HF.out⟩
end Go.Proofs.Ytjefddliebokaaa.ReplyL
