/-
  AskSizes walked.
-/
import Derived.Test.YtemfohccnpopfaaAskAwake
namespace Go.Proofs.Ytemfohccnpopfaa.AskL
open Go.RowKit Base Pack _root_.Go.Proofs.Ytemfohccnpopfaa.Ask

/-- where a request that came in lies once it is boxed -/
structure Boxed (W : World) (g : Nat) (sv : Value) (a : Rq) : Prop where
  heap : W.heap[g]? = some (.cells #[.int .i64 a.k, .string ⟨a.n.toArray⟩, sv, .int .i64 a.f, .int .i64 a.t, .int .i64 a.wn] 27 (0, 0))
  row : W.rowIs g 27 6 (ask6 a.k ⟨a.n.toArray⟩ sv a.f a.t a.wn)
theorem Boxed.fr0 {W W' : World} {g : Nat} {sv : Value} {a : Rq} (h : Boxed W g sv a) (hf : Fr0 W W') : Boxed W' g sv a := ⟨hf.heap h.heap (fun f => f), hf.row h.row (fun f => f)⟩
theorem Boxed.new (w : World) (sv : Value) (a : Rq) : Boxed (w.alloc (.cells #[.int .i64 a.k, .string ⟨a.n.toArray⟩, sv, .int .i64 a.f, .int .i64 a.t, .int .i64 a.wn] 27)) w.heap.size sv a :=
  ⟨heap_alloc_new w _, rowIs_new w #[.int .i64 a.k, .string ⟨a.n.toArray⟩, sv, .int .i64 a.f, .int .i64 a.t, .int .i64 a.wn] 27 6 _ rfl (fun i hi => by
    match i, hi with
    | 0, _ => rfl
    | 1, _ => rfl
    | 2, _ => rfl
    | 3, _ => rfl
    | 4, _ => rfl
    | 5, _ => rfl)⟩
theorem Boxed.cells {W : World} {g : Nat} {sv : Value} {a : Rq} (h : Boxed W g sv a) : W.cell? ⟨g, 0, none⟩ = some (.int .i64 a.k) ∧ W.cell? ⟨g, 1, none⟩ = some (.string ⟨a.n.toArray⟩) ∧ W.cell? ⟨g, 2, none⟩ = some sv ∧ W.cell? ⟨g, 3, none⟩ = some (.int .i64 a.f) ∧ W.cell? ⟨g, 4, none⟩ = some (.int .i64 a.t) ∧ W.cell? ⟨g, 5, none⟩ = some (.int .i64 a.wn) :=
  ⟨h.row.cell (i := 0) (by decide), h.row.cell (i := 1) (by decide), h.row.cell (i := 2) (by decide), h.row.cell (i := 3) (by decide), h.row.cell (i := 4) (by decide), h.row.cell (i := 5) (by decide)⟩
set_option maxRecDepth 100000 in
set_option maxHeartbeats 4000000 in
theorem askSizes_walk (a : Rq) (v : Value) (hsz : Sized a) (w : World) (hI : In w a v) :
    Calls Try.prog 7 #[v] w fun e w' => e = .returned (.bool true) ∧ Fr0 w w' := by
  obtain ⟨A, C, rfl, hP⟩ := hI
  have HP := Lib.hid hP
  have HSZ := Lib.hid hsz
  have HB := Lib.hid (Boxed.new w (.slice A a.s.length C) a)
  have HF := Lib.hid ((Fr.refl (fun _ => False) w).alloc (.cells #[.int .i64 a.k, .string ⟨a.n.toArray⟩, .slice A a.s.length C, .int .i64 a.f, .int .i64 a.t, .int .i64 a.wn] 27))
  clear hP hsz
  unfold rv
  go_enter Try.func7, Try.ntmps7
  go_wp2_with fail
  refine (awake_any _).mono ?_
  rintro e W1 ⟨rfl, hF1⟩
  have HB1 := Lib.hid (HB.out.fr0 hF1)
  have HF1 : Hid (Fr0 w W1) := Lib.hid (HF.out.trans' hF1)
  clear hF1 HB HF
  have hput := pput_any A C a HSZ.out.1 W1 (HP.out.fr0 HF1.out)
  go_wp2_with (refine wpList_load_row rfl 27 _ rfl w.heap.size rfl 27 _ (0, 0) _ HB1.out.heap Try.underlying27 rfl (by kernel_rfl) ?_)
  refine hput.mono ?_
  clear hput
  rintro e W2 ⟨v2, rfl, hB2, hF2⟩
  have HF2 := Lib.hid (HF1.out.trans' hF2)
  have HB2 := Lib.hid (HB1.out.fr0 hF2)
  clear hF2
  cases hg : good a with
  | false =>
    have he := (putErr_no hg).1
    rw [he]
    have hgd := pgood_any A C a HSZ.out.1 W2
    rw [hg] at hgd
    clear hB2 he hg
    go_wp2_with (refine wpList_load_row rfl 27 _ rfl w.heap.size rfl 27 _ (0, 0) _ HB2.out.heap Try.underlying27 rfl (by kernel_rfl) ?_)
    refine hgd.mono ?_
    clear hgd
    rintro e W3 ⟨rfl, hF3⟩
    have HF3 := Lib.hid (HF2.out.trans' hF3)
    clear hF3
    go_wp2
    go_ret
    exact ⟨rfl, HF3.out⟩
  | true =>
    obtain ⟨he, ho⟩ := putErr_ok hg
    have hl := putB_length a hg
    have hn := good_name hg
    have hk := good_kind hg
    rw [he]
    rw [ho] at hB2
    obtain ⟨A2, C2, rfl⟩ := hB2.form
    obtain ⟨k0, k1, k2, _⟩ := HB2.out.cells
    have hst := size_str a.n
    clear hB2 he ho hg
    generalize (putB a).length = Z at *
    rcases hk with ⟨h1, h2⟩ | ⟨h1, h2⟩
    · rw [if_pos h1] at hl
      have hz : ((Z : Int) == 4 + (a.n.length : Int) + 16 * (a.s.length : Int)) = true := beq_iff_eq.2 (by omega)
      rw [h1] at k0
      obtain ⟨h3, h4, _⟩ := h2
      have x1 : wrap64 (16 * (a.s.length : Int)) = 16 * (a.s.length : Int) := by simp only [wrap64]; omega
      have x2 : wrap64 (4 + (a.n.length : Int) + 16 * (a.s.length : Int)) = 4 + (a.n.length : Int) + 16 * (a.s.length : Int) := by simp only [wrap64]; omega
      clear hl h1
      go_wp2
      go_ret
      exact ⟨rfl, HF2.out⟩
    · rw [if_neg (by omega)] at hl
      have hz : ((Z : Int) == 20 + (a.n.length : Int)) = true := beq_iff_eq.2 (by omega)
      rw [h1] at k0
      clear hl h1 h2
      go_wp2
      go_ret
      exact ⟨rfl, HF2.out⟩
end Go.Proofs.Ytemfohccnpopfaa.AskL
