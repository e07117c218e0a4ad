/-
  The program's Good, Add, Range, Last.
-/
import Derived.Test.YtbiokogihimboaaDoorSerRef
import Derived.Test.YtbiokogihimboaaDoorAppMakeN
namespace Go.Proofs.YtbiokogihimboaaDoor.Series
open Go.RowKit Base _root_.Go.Proofs.YtbiokogihimboaaDoor.Tenant

theorem infoS : (Tryd.prog.info? 44).map (fun i => (i.zero, i.size, i.bytes)) = some (some (.agg #[.int .i64 0, .int .i64 0]), 2, 16) := by kernel_rfl
theorem sizeS : (Tryd.prog.info? 44).map (·.size) = some 2 := by kernel_rfl
theorem flat2 (l m : List Sm) : [l, m].flatten = l ++ m := by simp
/-- .. and what is told is new -/
def AddNew (l m : List Sm) (r : Int) (w : World) (e : Ending) (w' : World) : Prop := ∃ v, e = .returned (.tuple #[v, .int .i64 (addErr l m r)]) ∧ PairsIs w' v (addOut l m r) ∧ Fr0 w w' ∧ ∀ a n c, v = .slice (some a) n c → 0 < (addOut l m r).length → w.heap.size ≤ a.block
theorem AddNew.none {l m : List Sm} {r : Int} {w w' : World} (h : addOut l m r = []) (hf : Fr0 w w') : AddNew l m r w (.returned (.tuple #[.slice none 0 0, .int .i64 (addErr l m r)])) w' := ⟨_, rfl, by rw [h]; exact pairs_nil _, hf, fun a n c hv => by cases hv⟩
/-- what Last tells, in its result's cell -/
theorem resS {P : Program} {fn : Func} {p u : Tmp} {t : TypeId} {d : TypeDesc} (h : fn.results = #[.cell p t, .tmp u]) (hu : P.underlying t = some d) (hd : (match d with | .struct _ | .array _ _ => true | _ => false) = true) (hi : (P.info? t).map (·.size) = some 2) (tmps : Array Value) {w : World} {g : Nat} {x y : Int} (v : Value) (hp : tmps.getD p undef = .pointer (some ⟨g, 0, none⟩)) (hv : tmps.getD u undef = v) (hg : w.heap[g]? = some (.cells #[.int .i64 x, .int .i64 y] t)) :
    (results fn tmps).run P w = .ok (.tuple #[.agg #[.int .i64 x, .int .i64 y], v]) w := by
  have hp' : tmps[p]?.getD undef = .pointer (some ⟨g, 0, none⟩) := by simpa using hp
  have hq' : tmps[u]?.getD undef = v := by simpa using hv
  simp [results, h, hp', hq', asAddr, run_loadVar_row w g t t _ (0, 0) d hg hu hd hi]
set_option maxRecDepth 100000 in
set_option maxHeartbeats 4000000 in
theorem plast_any (v : Value) (l : List Sm) (hl : l.length ≤ 1000000) (w : World) (hP : PairsIs w v l) :
    Calls Tryd.prog 20 #[v] w fun e w' => e = .returned (.tuple #[.agg #[.int .i64 (lastOf l).1, .int .i64 (lastOf l).2], .bool (decide (0 < l.length))]) ∧ Fr0 w w' := by
  obtain ⟨A, C, rfl⟩ := pairs_form hP
  by_cases h0 : l.length = 0
  · obtain rfl : l = [] := List.eq_nil_of_length_eq_zero h0
    clear hP hl h0
    have HF := Lib.hid ((Fr.refl (fun _ => False) w).alloc (.cells #[.int .i64 0, .int .i64 0] 44))
    have HE := Lib.hid (heap_alloc_new w (.cells #[.int .i64 0, .int .i64 0] 44))
    go_enter Tryd.func20, Tryd.ntmps20
    go_wp2
    exact bodyPost_ret (resS rfl Tryd.underlying44 rfl sizeS _ _ rfl rfl HE.out) rfl ⟨rfl, HF.out⟩
  · obtain ⟨pb, po, rfl, hc⟩ := pairs_at hP (l.length - 1) (by omega)
    have HF := Lib.hid ((Fr.refl (fun _ => False) w).alloc (.cells #[.int .i64 0, .int .i64 0] 44))
    obtain ⟨d0, d1⟩ := hc _ HF.out
    have HLO : Hid (lastOf l = l.getD (l.length - 1) (0, 0)) := Lib.hid rfl
    have HD : Hid (decide (0 < l.length) = true) := Lib.hid (decide_eq_true (by omega))
    generalize l.getD (l.length - 1) (0, 0) = q at *
    obtain ⟨x, y⟩ := q
    have HE := Lib.hid (heap_alloc_new w (.cells #[.int .i64 x, .int .i64 y] 44))
    have HF2 := Lib.hid ((Fr.refl (fun _ => False) w).alloc (.cells #[.int .i64 x, .int .i64 y] 44))
    clear hP hc
    obtain ⟨k, hk⟩ : ∃ k, k = l.length - 1 := ⟨_, rfl⟩
    rw [← hk] at d0 d1
    generalize l.length = N at *
    have h1 : (N : Int) - 1 = (k : Int) := by omega
    have h2 : (k : Int) < (N : Int) := by omega
    have h3 : 0 ≤ (k : Int) := by omega
    have h4 : ((N : Int) == 0) = false := beq_eq_false_iff_ne.2 (by omega)
    clear hk h0
    go_enter Tryd.func20, Tryd.ntmps20
    go_wp2
    exact bodyPost_ret (resS rfl Tryd.underlying44 rfl sizeS _ _ rfl rfl HE.out) rfl ⟨by rw [HLO.out, HD.out]; rfl, HF2.out⟩
end Go.Proofs.YtbiokogihimboaaDoor.Series
