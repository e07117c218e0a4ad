/-
  What the laws of frame ask first; a Feed within a law.
-/
import Derived.Test.YtggdpmfghbnhcaaDoorFrameFeed
import Derived.Lib.SlBytesConst
namespace Go.Proofs.YtggdpmfghbnhcaaDoor.Frame
open Go.RowKit Base Pack Crc

/-- a literal of bytes, or a constant text turned into bytes -/
theorem bytes_mark (w : World) (l : List UInt8) (c : Array Value) (t : TypeId) (fr : Nat × Nat) (n : Nat) (hn : n = l.length) (cap : Nat) (hcap : n ≤ cap) (hc : bvals l = c.toList) (N : Nat) (hN : N = w.heap.size) :
    BytesIs (w.alloc (.cells c t fr)) (.slice (some ⟨N, 0, none⟩) n cap) l := by
  subst hn hN
  refine ⟨_, cap, w.heap.size, 0, rfl, hcap, fun _ => rfl, fun j hj => ?_⟩
  rw [cell_of_row _ _ _ _ _ _ (heap_alloc_new w _), Nat.zero_add]
  have := bvals_get l j hj
  rw [hc] at this
  simpa using this
theorem Pieces.next {w w' w'' : World} {g : Nat} {q' q'' : Option Nat} {v : Value} {L : List Pc} (h : Pieces w' (fun k => k < w.heap.size ∨ q' = some k) v L) (hg : g < w.heap.size) (hf : Fr (V g q') w' w'') (hn : NewQ w' q' q'') : Pieces w'' (fun k => k < w.heap.size ∨ q'' = some k) v L := by
  refine h.keep hf (fun k _ e => ?_) (fun k hk e => ?_)
  · rcases e with rfl | e
    · exact .inl hg
    · exact .inr e
  · rcases e with e | e
    · exact .inl e
    · rcases hn with rfl | hn
      · exact .inr e
      · have := hn k e; omega
/-- a cutter that a law made, w0 the law's start -/
structure Mine (w0 w : World) (g : Nat) (q : Option Nat) (l : List UInt8) (d : Bool) : Prop where
  at_ : CutAt w g q l d
  ok : Ok l d
  g0 : w0.heap.size ≤ g
  q0 : ∀ k, q = some k → w0.heap.size ≤ k
theorem Mine.fr0 {w0 w w' : World} {g : Nat} {q : Option Nat} {l : List UInt8} {d : Bool} (h : Mine w0 w g q l d) (hf : Fr0 w w') : Mine w0 w' g q l d := ⟨h.at_.fr0 hf, h.ok, h.g0, h.q0⟩
theorem Mine.fr {S : Nat → Prop} {w0 w w' : World} {g : Nat} {q : Option Nat} {l : List UInt8} {d : Bool} (h : Mine w0 w g q l d) (hf : Fr S w w') (hs : ∀ k, V g q k → ¬ S k) : Mine w0 w' g q l d := ⟨h.at_.fr hf hs, h.ok, h.g0, h.q0⟩
theorem Mine.v0 {w0 w : World} {g : Nat} {q : Option Nat} {l : List UInt8} {d : Bool} (h : Mine w0 w g q l d) : ∀ k, V g q k → w0.heap.size ≤ k := fun k hk => by
  rcases hk with rfl | hk
  · exact h.g0
  · exact h.q0 k hk
/-- a part of a [][]byte that came in -/
theorem parts_at {w : World} {a1 : Option Addr} {n cap : Nat} {ps : List (List UInt8)} (h : PartsIs w (.slice a1 n cap) ps) (j : Nat) (hj : j < ps.length) : ∃ pb po sa sc, a1 = some ⟨pb, po, none⟩ ∧ (∀ wr, Fr0 w wr → wr.cell? ⟨pb, po + j, none⟩ = some (.slice sa (ps.getD j []).length sc)) ∧ BytesIs w (.slice sa (ps.getD j []).length sc) (ps.getD j []) := by
  obtain ⟨A1, C1, pb, po, hv1, _, _, hpa, hpc⟩ := h
  simp only [Value.slice.injEq] at hv1
  obtain ⟨rfl, _, rfl⟩ := hv1
  obtain ⟨pv, c0, hB⟩ := hpc j hj
  obtain ⟨sa, sc, rfl⟩ := hB.form
  exact ⟨pb, po, sa, sc, hpa (by omega), fun wr hf => (hf.cell (p := ⟨pb, po + j, none⟩) (World.block_lt_of_cell? w _ c0) (fun f => f)).trans c0, hB⟩
def FedPost (w0 w : World) (g : Nat) (q : Option Nat) (l : List UInt8) (d : Bool) (b : List UInt8) (e : Ending) (w' : World) : Prop := ∃ v q', e = .returned v ∧ Mine w0 w' g q' (feed l d b).w (feed l d b).d ∧ NewQ w q q' ∧ Pieces w' (fun k => k < w.heap.size ∨ q' = some k) v (feed l d b).l ∧ Fr (V g q) w w' ∧ Fr0 w0 w'
theorem fed_any (w0 w : World) (g : Nat) (q : Option Nat) (l : List UInt8) (d : Bool) (b : List UInt8) (v : Value) (hM : Mine w0 w g q l d) (hF : Fr0 w0 w) (hR : Rests w0) (hbl : b.length ≤ 1000000000) (hB : BytesIs w v b) (hc : Clear (V g q) v b) :
    Calls Tryd.prog 12 #[ptr g, v] w (FedPost w0 w g q l d b) := by
  refine (feed_any g q l d b v w hM.ok hM.at_ hbl hB hc (hR.fr hF (fun f => f)) (fun h => ?_)).mono fun e w' h => ?_
  · have := hM.v0 _ h; have := hR.lt; omega
  · obtain ⟨v', q', rfl, hC, hn, hP, hf⟩ := h
    refine ⟨v', q', rfl, ⟨hC, feed_ok l d b, hM.g0, fun k hk => ?_⟩, hn, hP, hf, hF.trans hf (fun k hk e => by have := hM.v0 k e; omega)⟩
    rcases hn with rfl | hn
    · exact hM.q0 k hk
    · have := hn k hk; have := hF.size; omega
/-- what is old, or lies elsewhere, is clear of it -/
theorem Mine.old {w0 w : World} {g : Nat} {q : Option Nat} {l : List UInt8} {d : Bool} (h : Mine w0 w g q l d) {v : Value} {b : List UInt8} (hB : BytesIs w0 v b) : Clear (V g q) v b := fun a n c hv hl e => by
  have := h.v0 _ e; have := bytes_lt hB a n c hv hl; omega
theorem Mine.new {w0 w w1 : World} {g : Nat} {q : Option Nat} {l : List UInt8} {d : Bool} (h : Mine w0 w1 g q l d) {v : Value} {b : List UInt8} (hv : ∀ a n c, v = .slice (some a) n c → w1.heap.size ≤ a.block) : Clear (V g q) v b := fun a n c hv' hl e => by
  have := h.at_.v_lt _ e; have := hv a n c hv'; omega
theorem made (w0 w : World) (hF : Fr0 w0 w) : Calls Tryd.prog 11 #[] w fun e w' => ∃ g, e = .returned (ptr g) ∧ w.heap.size ≤ g ∧ Mine w0 w' g none [] false ∧ Fr0 w w' := (new_any w).mono fun e w' ⟨g, h1, h2, h3, h4⟩ => ⟨g, h1, h2, ⟨h3, by unfold Ok; simpa using fro_nil, Nat.le_trans hF.size h2, fun k h => by cases h⟩, h4⟩
set_option maxRecDepth 100000 in
set_option maxHeartbeats 1000000 in
theorem awake_any (w : World) (hR : Rests w) : Calls Tryd.prog 9 #[] w fun e w' => e = .returned (.bool true) ∧ Fr0 w w' := by
  have HR := Lib.hid hR
  have kc := fun (w : World) (C : Array Value) (n c : Nat) => Lib.run_convert_bytes_const (P := Tryd.prog) w 23 5 C n c Tryd.underlying23 Tryd.underlying5
  clear hR
  go_enter Tryd.func9, Tryd.ntmps9
  go_wp2_with fail
  refine (put_any _ [97] (by decide) _ (bytes_mark w [97] #[.int .u8 97] 5 (1, 2) 1 rfl 1 (Nat.le_refl _) rfl w.heap.size rfl) (HR.out.fr (S := fun _ => False) ((Fr.refl _ _).alloc _) (fun f => f))).mono ?_
  rintro e w1 ⟨v1, rfl, hB1, hF1⟩
  rw [show putOut [97] = frameOf [97] from rfl] at hB1
  obtain ⟨a1, c1, hv⟩ := hB1.form
  rw [show (frameOf [97]).length = 7 from frameOf_length _] at hv
  subst hv
  rw [show putErr [97] = 0 from rfl]
  have HB1 := Lib.hid hB1
  have HF1 : Hid (Fr0 w w1) := Lib.hid (((Fr.refl _ _).alloc _).trans' hF1)
  clear hB1 hF1 kc
  go_wp2_with fail
  refine (made w w1 HF1.out).mono ?_
  rintro e w2 ⟨g, rfl, hg, hM, hF2⟩
  have HM2 := Lib.hid hM
  have HF2 : Hid (Fr0 w w2) := Lib.hid (HF1.out.trans' hF2)
  have HB2 := Lib.hid (HB1.out.fr0 hF2)
  have HC2 : Hid (Clear (V g none) (.slice a1 7 c1) (frameOf [97])) := Lib.hid (fun a n c hv hl e => by
    have := bytes_lt HB1.out a n c hv hl
    rcases e with e | e
    · omega
    · cases e)
  clear hM hF2 HB1 hg
  have hfd := fed_any w w2 g none [] false (frameOf [97]) _ HM2.out HF2.out HR.out (by rw [frameOf_length]; decide) HB2.out HC2.out
  unfold ptr at *
  go_wp2_with fail
  refine hfd.mono ?_
  clear hfd
  rintro e w3 ⟨v3, q3, rfl, hM3, _, hP3, _, hF3⟩
  have hF : feed [] false (frameOf [97]) = ⟨[⟨[97], 0⟩], [], false⟩ := by
    have := cut_frame [97] [] (by decide)
    rw [List.append_nil, cut_nil] at this
    exact this
  rw [hF] at hM3 hP3
  obtain ⟨a3, c3, rfl⟩ := hP3.form
  obtain ⟨pb, po, rfl, hat⟩ := (hP3.at).2 (by decide)
  obtain ⟨sv, k0, k1, hb, _⟩ := hat 0 (by decide)
  obtain ⟨sa, sc, rfl⟩ := hb.form
  have hb' : BytesIs w3 (.slice sa 1 sc) [97] := hb
  have k0 : w3.cell? ⟨pb, po, none⟩ = some (.slice sa 1 sc) := by simpa using k0
  have k1 : w3.cell? ⟨pb, po + 1, none⟩ = some (.int .i64 0) := by simpa using k1
  have hcv := hb'.convert (P := Tryd.prog) 23 9 5 Tryd.underlying23 Tryd.underlying5 Tryd.underlying9
  have HM3 := Lib.hid hM3
  have HF3 := Lib.hid hF3
  have hwt := waits_any g q3 [] false w3 hM3.at_
  unfold ptr at hwt
  clear hM3 hP3 hF3 hat hb hb' hF
  go_wp2_with fail
  refine hwt.mono ?_
  rintro e w4 ⟨rfl, rfl⟩
  go_wp2
  go_ret
  exact ⟨rfl, HF3.out⟩
end Go.Proofs.YtggdpmfghbnhcaaDoor.Frame
