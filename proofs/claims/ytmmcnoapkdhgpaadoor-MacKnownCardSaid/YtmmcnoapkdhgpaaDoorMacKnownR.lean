/-
  MacKnown's last statement, by facts (made by wip/tools/mkknown2.py).
-/
import Derived.Test.YtmmcnoapkdhgpaaDoorMacParts
import Derived.Test.YtmmcnoapkdhgpaaDoorFactKinds
import Derived.Test.YtmmcnoapkdhgpaaDoorMacKnownA
namespace Go.Proofs.YtmmcnoapkdhgpaaDoor.Mac
open Go.RowKit Base Sha

noncomputable def kOps : List Oper := (((Tryd.f7.body.bind (regionOps 6))).getD #[]).toList
structure KCtx (a : Act) (w w5 : World) (HX HN HM : Array Value) (b1 b2 b3 : Nat) : Prop where
  hn : a.tmps.size = 100
  h1 : a.eval (.tmp 1) = .slice (some ⟨b1, 0, none⟩) 65 65
  h2 : a.eval (.tmp 2) = .pointer (some ⟨b2, 0, none⟩)
  h3 : a.eval (.tmp 3) = .pointer (some ⟨b3, 0, none⟩)
  HF5w : Fr0 w w5
  HBL5 : BytesIs w5 (.slice (some ⟨b1, 0, none⟩) 65 65) long
  HBS5 : BytesIs w5 (.slice (some ⟨b2, 0, none⟩) 32 32) (digest long)
  HB5 : w5.heap[b3]? = some (.cells HM 24 (0, 0))
  HMI : (Tryd.prog.info? 24).map (·.size) = some HM.size
  HXE : HX = (bvals (hmac long [120])).toArray
  HNE : HN = (bvals (hmac [] [])).toArray
  HME : HM = (bvals (hmac [107] [97, 98])).toArray
  HMAC : ∀ (k m : List UInt8) (H : Array Value), H = (bvals (hmac k m)).toArray → k.length ≤ 100 → m.length ≤ 100 → ∀ (W : World) (vk v : Value) (ps : List (List UInt8)), Fr0 w W → BytesIs W vk k → PartsIs W v ps → ps.length ≤ 100 → ps.flatten = m → Calls Tryd.prog 20 #[vk, v] W fun e w' => e = .returned (.agg H) ∧ Fr0 W w'
  HCHK : ∀ (k m s : List UInt8) (S : Array Value) (d : Bool), S = (bvals s).toArray → s.length = 32 → decide (hmac k m = s) = d → k.length ≤ 100 → m.length ≤ 100 → ∀ (W : World) (vk v : Value) (ps : List (List UInt8)), Fr0 w W → BytesIs W vk k → PartsIs W v ps → ps.length ≤ 100 → ps.flatten = m → Calls Tryd.prog 21 #[vk, .agg S, v] W fun e w' => e = .returned (.bool d) ∧ Fr0 W w'
def kF (N : Nat) (HX HN HM : Array Value) : Nat → Fact
  | 0 => Fact.is (.bool true)
  | 18 => Fact.bytes long
  | 19 => Fact.raw N 5 [120]
  | 20 => Fact.bytes [120]
  | 21 => Fact.parts [[120]]
  | 22 => Fact.is (.agg HX)
  | 23 => Fact.bytes (digest long)
  | 24 => Fact.raw N 5 [120]
  | 25 => Fact.bytes [120]
  | 26 => Fact.parts [[120]]
  | 27 => Fact.is (.agg HX)
  | 28 => Fact.is (.bool true)
  | 29 => Fact.is (.bool true)
  | 30 => Fact.is (.agg HN)
  | 31 => Fact.bytes (List.replicate 64 0)
  | 32 => Fact.is (.agg HN)
  | 33 => Fact.is (.bool true)
  | 34 => Fact.is (.bool true)
  | 35 => Fact.is (.bool true)
  | 36 => Fact.is (.agg HM)
  | 37 => Fact.raw N 5 [107]
  | 38 => Fact.bytes [107]
  | 39 => Fact.raw N 5 [97, 98]
  | 40 => Fact.bytes [97, 98]
  | 41 => Fact.parts [[97, 98]]
  | 42 => Fact.is (.agg HM)
  | 43 => Fact.is (.bool true)
  | 44 => Fact.is (.bool true)
  | 45 => Fact.is (.bool true)
  | 46 => Fact.raw N 5 [107]
  | 47 => Fact.bytes [107]
  | 48 => Fact.is (.agg HM)
  | 49 => Fact.raw N 5 [97, 98]
  | 50 => Fact.bytes [97, 98]
  | 51 => Fact.parts [[97, 98]]
  | 52 => Fact.is (.bool true)
  | 53 => Fact.is (.bool true)
  | 54 => Fact.is (.bool true)
  | 55 => Fact.raw N 5 [108]
  | 56 => Fact.bytes [108]
  | 57 => Fact.is (.agg HM)
  | 58 => Fact.raw N 5 [97, 98]
  | 59 => Fact.bytes [97, 98]
  | 60 => Fact.parts [[97, 98]]
  | 61 => Fact.is (.bool false)
  | 62 => Fact.is (.bool true)
  | 63 => Fact.is (.bool true)
  | 64 => Fact.is (.bool true)
  | 65 => Fact.raw N 5 [107]
  | 66 => Fact.bytes [107]
  | 67 => Fact.is (.agg HM)
  | 68 => Fact.raw N 5 [98, 97]
  | 69 => Fact.bytes [98, 97]
  | 70 => Fact.parts [[98, 97]]
  | 71 => Fact.is (.bool false)
  | 72 => Fact.is (.bool true)
  | 73 => Fact.is (.bool true)
  | 74 => Fact.is (.bool true)
  | 75 => Fact.raw N 5 []
  | 76 => Fact.is (.bool true)
  | 77 => Fact.is (.bool true)
  | 78 => Fact.is (.bool true)
  | 79 => Fact.raw N 5 [0]
  | 80 => Fact.is (.bool false)
  | 81 => Fact.is (.bool true)
  | 82 => Fact.is (.bool true)
  | 83 => Fact.is (.bool true)
  | 84 => Fact.raw N 5 [1, 2]
  | 85 => Fact.raw N 5 [1, 2]
  | 86 => Fact.is (.bool true)
  | 87 => Fact.is (.bool true)
  | 88 => Fact.is (.bool true)
  | 89 => Fact.raw N 5 [1, 2]
  | 90 => Fact.raw N 5 [1, 3]
  | 91 => Fact.is (.bool false)
  | 92 => Fact.is (.bool true)
  | 93 => Fact.is (.bool true)
  | 94 => Fact.is (.bool true)
  | 95 => Fact.raw N 5 [2, 2]
  | 96 => Fact.raw N 5 [1, 2]
  | 97 => Fact.is (.bool false)
  | 98 => Fact.is (.bool true)
  | 99 => Fact.is (.bool true)
  | _ => Fact.any
theorem kst0 {Q : Exit → Act → World → Prop} {a : Act} {w w5 : World} {HX HN HM : Array Value} {b1 b2 b3 : Nat} (K : KCtx a w w5 HX HN HM b1 b2 b3) (o : Oper) (ho : kOps[0]? = some o) : FStep Tryd.prog kOps Q (kF w5.drew.heap.size HX HN HM) a w5.drew o := by
  obtain ⟨hd, hop, hg⟩ := op_of ho (show _ = some (some 18, .move (.tmp 1), none) by kernel_rfl)
  exact fs_old (Want.plain hg) 18 1 hd hop (by kernel_rfl) _ K.h1 (fun w' h => K.HBL5.fr0 (Fr.trans' ((Fr.refl _ _).drew) h))
theorem kst1 {Q : Exit → Act → World → Prop} {a : Act} {w w5 : World} {HX HN HM : Array Value} {b1 b2 b3 : Nat} (K : KCtx a w w5 HX HN HM b1 b2 b3) (o : Oper) (ho : kOps[1]? = some o) : FStep Tryd.prog kOps Q (kF w5.drew.heap.size HX HN HM) a w5.drew o := by
  obtain ⟨hd, hop, hg⟩ := op_of ho (show _ = some (some 19, .buildSlice 30 1 #[(0, .const (.int .u8 120))], none) by kernel_rfl)
  exact fs_raw (Want.plain hg) 19 hd 5 [120] rfl (fun vals w' => by unfold execOp; simp only [hop]; first | (go_simp; done) | (go_simp; rfl))
theorem kst2 {Q : Exit → Act → World → Prop} {a : Act} {w w5 : World} {HX HN HM : Array Value} {b1 b2 b3 : Nat} (K : KCtx a w w5 HX HN HM b1 b2 b3) (o : Oper) (ho : kOps[2]? = some o) : FStep Tryd.prog kOps Q (kF w5.drew.heap.size HX HN HM) a w5.drew o := by
  obtain ⟨hd, hop, hg⟩ := op_of ho (show _ = some (some 20, .convert 30 30 (.tmp 19), none) by kernel_rfl)
  exact fs_conv (Want.plain hg) 20 19 hd 30 5 hop Tryd.underlying30 Tryd.underlying5 (Dep.at K.hn ho (by kernel_rfl)).mem (Dep.at K.hn ho (by kernel_rfl)).lt (Dep.at K.hn ho (by kernel_rfl)).dep [120] rfl rfl
theorem kst3 {Q : Exit → Act → World → Prop} {a : Act} {w w5 : World} {HX HN HM : Array Value} {b1 b2 b3 : Nat} (K : KCtx a w w5 HX HN HM b1 b2 b3) (o : Oper) (ho : kOps[3]? = some o) : FStep Tryd.prog kOps Q (kF w5.drew.heap.size HX HN HM) a w5.drew o := by
  obtain ⟨hd, hop, hg⟩ := op_of ho (show _ = some (some 21, .buildSlice 37 1 #[(0, .tmp 20)], none) by kernel_rfl)
  exact fs_part1 (Want.plain hg) 21 20 hd 37 30 hop Tryd.underlying37 (by kernel_rfl) (Dep.at K.hn ho (by kernel_rfl)) [120] (fun _ _ h => h) rfl
theorem kst4 {Q : Exit → Act → World → Prop} {a : Act} {w w5 : World} {HX HN HM : Array Value} {b1 b2 b3 : Nat} (K : KCtx a w w5 HX HN HM b1 b2 b3) (o : Oper) (ho : kOps[4]? = some o) : FStep Tryd.prog kOps Q (kF w5.drew.heap.size HX HN HM) a w5.drew o := by
  obtain ⟨hd, hop, hg⟩ := op_of ho (show _ = some (some 22, .call { callee := .value (.func 20), args := #[.tmp 18, .tmp 21], argTypes := #[30, 37] }, none) by kernel_rfl)
  exact fs_call (Want.plain hg) 22 hd 20 _ _ hop _ Tryd.func20 (by kernel_rfl) (by kernel_rfl) (fun vals w' hF hv => ⟨.agg HX, by rw [map2 (Dep.at K.hn ho (by kernel_rfl)).eval (Dep.at K.hn ho (by kernel_rfl)).eval]; exact K.HMAC long [120] HX K.HXE (by decide) (by decide) w' _ _ [[120]] (K.HF5w.trans' (Fr.trans' ((Fr.refl _ _).drew) hF)) (hv 18 (Dep.at K.hn ho (by kernel_rfl)).dep) (hv 21 (Dep.at K.hn ho (by kernel_rfl)).dep) (by decide) (by decide), fun _ _ => rfl⟩)
theorem kst5 {Q : Exit → Act → World → Prop} {a : Act} {w w5 : World} {HX HN HM : Array Value} {b1 b2 b3 : Nat} (K : KCtx a w w5 HX HN HM b1 b2 b3) (o : Oper) (ho : kOps[5]? = some o) : FStep Tryd.prog kOps Q (kF w5.drew.heap.size HX HN HM) a w5.drew o := by
  obtain ⟨hd, hop, hg⟩ := op_of ho (show _ = some (some 23, .slice 24 (.tmp 2) none none none, none) by kernel_rfl)
  exact fs_pure_old (Want.plain hg) 23 hd (.slice (some ⟨b2, 0, none⟩) 32 32) (fun vals w' => by have e := frm_eval_old a (dsts kOps) vals 2 (by kernel_rfl); unfold execOp; simp only [hop, e, K.h2]; go_simp) (fun w' h => K.HBS5.fr0 (Fr.trans' ((Fr.refl _ _).drew) h))
theorem kst6 {Q : Exit → Act → World → Prop} {a : Act} {w w5 : World} {HX HN HM : Array Value} {b1 b2 b3 : Nat} (K : KCtx a w w5 HX HN HM b1 b2 b3) (o : Oper) (ho : kOps[6]? = some o) : FStep Tryd.prog kOps Q (kF w5.drew.heap.size HX HN HM) a w5.drew o := by
  obtain ⟨hd, hop, hg⟩ := op_of ho (show _ = some (some 24, .buildSlice 30 1 #[(0, .const (.int .u8 120))], none) by kernel_rfl)
  exact fs_raw (Want.plain hg) 24 hd 5 [120] rfl (fun vals w' => by unfold execOp; simp only [hop]; first | (go_simp; done) | (go_simp; rfl))
theorem kst7 {Q : Exit → Act → World → Prop} {a : Act} {w w5 : World} {HX HN HM : Array Value} {b1 b2 b3 : Nat} (K : KCtx a w w5 HX HN HM b1 b2 b3) (o : Oper) (ho : kOps[7]? = some o) : FStep Tryd.prog kOps Q (kF w5.drew.heap.size HX HN HM) a w5.drew o := by
  obtain ⟨hd, hop, hg⟩ := op_of ho (show _ = some (some 25, .convert 30 30 (.tmp 24), none) by kernel_rfl)
  exact fs_conv (Want.plain hg) 25 24 hd 30 5 hop Tryd.underlying30 Tryd.underlying5 (Dep.at K.hn ho (by kernel_rfl)).mem (Dep.at K.hn ho (by kernel_rfl)).lt (Dep.at K.hn ho (by kernel_rfl)).dep [120] rfl rfl
theorem kst8 {Q : Exit → Act → World → Prop} {a : Act} {w w5 : World} {HX HN HM : Array Value} {b1 b2 b3 : Nat} (K : KCtx a w w5 HX HN HM b1 b2 b3) (o : Oper) (ho : kOps[8]? = some o) : FStep Tryd.prog kOps Q (kF w5.drew.heap.size HX HN HM) a w5.drew o := by
  obtain ⟨hd, hop, hg⟩ := op_of ho (show _ = some (some 26, .buildSlice 37 1 #[(0, .tmp 25)], none) by kernel_rfl)
  exact fs_part1 (Want.plain hg) 26 25 hd 37 30 hop Tryd.underlying37 (by kernel_rfl) (Dep.at K.hn ho (by kernel_rfl)) [120] (fun _ _ h => h) rfl
theorem kst9 {Q : Exit → Act → World → Prop} {a : Act} {w w5 : World} {HX HN HM : Array Value} {b1 b2 b3 : Nat} (K : KCtx a w w5 HX HN HM b1 b2 b3) (o : Oper) (ho : kOps[9]? = some o) : FStep Tryd.prog kOps Q (kF w5.drew.heap.size HX HN HM) a w5.drew o := by
  obtain ⟨hd, hop, hg⟩ := op_of ho (show _ = some (some 27, .call { callee := .value (.func 20), args := #[.tmp 23, .tmp 26], argTypes := #[30, 37] }, none) by kernel_rfl)
  exact fs_call (Want.plain hg) 27 hd 20 _ _ hop _ Tryd.func20 (by kernel_rfl) (by kernel_rfl) (fun vals w' hF hv => ⟨.agg HX, by rw [map2 (Dep.at K.hn ho (by kernel_rfl)).eval (Dep.at K.hn ho (by kernel_rfl)).eval]; exact K.HMAC (digest long) [120] HX (by rw [K.HXE, long_key]) (by decide) (by decide) w' _ _ [[120]] (K.HF5w.trans' (Fr.trans' ((Fr.refl _ _).drew) hF)) (hv 23 (Dep.at K.hn ho (by kernel_rfl)).dep) (hv 26 (Dep.at K.hn ho (by kernel_rfl)).dep) (by decide) (by decide), fun _ _ => rfl⟩)
theorem kst10 {Q : Exit → Act → World → Prop} {a : Act} {w w5 : World} {HX HN HM : Array Value} {b1 b2 b3 : Nat} (K : KCtx a w w5 HX HN HM b1 b2 b3) (o : Oper) (ho : kOps[10]? = some o) : FStep Tryd.prog kOps Q (kF w5.drew.heap.size HX HN HM) a w5.drew o := by
  obtain ⟨hd, hop, hg⟩ := op_of ho (show _ = some (some 28, .binOp .eql 24 (.tmp 22) (.tmp 27) 24, none) by kernel_rfl)
  exact fs_eql (Want.plain hg) 28 22 27 _ _ hd hop (Dep.at K.hn ho (by kernel_rfl)) (Dep.at K.hn ho (by kernel_rfl)) (.agg HX) (.agg HX) true rfl rfl rfl (fun w' => by have := eqH HX _ K.HXE (hmac_len _ _) w'; go_simp)
theorem kst11 {Q : Exit → Act → World → Prop} {a : Act} {w w5 : World} {HX HN HM : Array Value} {b1 b2 b3 : Nat} (K : KCtx a w w5 HX HN HM b1 b2 b3) (o : Oper) (ho : kOps[11]? = some o) : FStep Tryd.prog kOps Q (kF w5.drew.heap.size HX HN HM) a w5.drew o := by
  obtain ⟨hd, hop, hg⟩ := op_of ho (show _ = some (some 29, .move (.tmp 28), none) by kernel_rfl)
  exact fs_move (Want.plain hg) 29 28 hd hop (Dep.at K.hn ho (by kernel_rfl)).mem (Dep.at K.hn ho (by kernel_rfl)).lt (Dep.at K.hn ho (by kernel_rfl)).dep (fun _ _ h => h)
theorem kst12 {Q : Exit → Act → World → Prop} {a : Act} {w w5 : World} {HX HN HM : Array Value} {b1 b2 b3 : Nat} (K : KCtx a w w5 HX HN HM b1 b2 b3) (o : Oper) (ho : kOps[12]? = some o) : FStep Tryd.prog kOps Q (kF w5.drew.heap.size HX HN HM) a w5.drew o := by
  obtain ⟨hd, hop, hg⟩ := op_of ho (show _ = some (some 30, .call { callee := .value (.func 20), args := #[.const (.slice none 0 0), .const (.slice none 0 0)], argTypes := #[30, 37] }, some (11, true)) by kernel_rfl)
  exact fs_call (Want.dep 11 true 29 hg (by kernel_rfl) (Dep.at K.hn ho (by kernel_rfl)) rfl) 30 hd 20 _ _ hop _ Tryd.func20 (by kernel_rfl) (by kernel_rfl) (fun vals w' hF hv => ⟨.agg HN, by rw [map2 rfl rfl]; exact K.HMAC [] [] HN K.HNE (by decide) (by decide) w' _ _ [] (K.HF5w.trans' (Fr.trans' ((Fr.refl _ _).drew) hF)) (BytesIs.nil _) (parts_none _) (by decide) (by decide), fun _ _ => rfl⟩)
theorem kst13 {Q : Exit → Act → World → Prop} {a : Act} {w w5 : World} {HX HN HM : Array Value} {b1 b2 b3 : Nat} (K : KCtx a w w5 HX HN HM b1 b2 b3) (o : Oper) (ho : kOps[13]? = some o) : FStep Tryd.prog kOps Q (kF w5.drew.heap.size HX HN HM) a w5.drew o := by
  obtain ⟨hd, hop, hg⟩ := op_of ho (show _ = some (some 31, .makeSlice 30 (.const (.int .i64 64)) (.const (.int .i64 64)), some (11, true)) by kernel_rfl)
  exact FStep.mk (Want.dep 11 true 29 hg (by kernel_rfl) (Dep.at K.hn ho (by kernel_rfl)) rfl) fun vals w' hF hv => run_value (.slice (some ⟨w'.heap.size, 0, none⟩) 64 64) (w'.alloc (.cells noArr 5)) (by have := mk64 w'; unfold execOp; simp only [hop]; go_simp) ⟨_, rfl, fun d' hd' => (by rw [hd] at hd'; cases hd'; exact BytesIs.block (heap_alloc_new w' _) 64 64 (by decide) (by decide)), Gr.of_fr0 ((Fr.refl _ _).alloc _), hF.alloc _⟩
theorem kst14 {Q : Exit → Act → World → Prop} {a : Act} {w w5 : World} {HX HN HM : Array Value} {b1 b2 b3 : Nat} (K : KCtx a w w5 HX HN HM b1 b2 b3) (o : Oper) (ho : kOps[14]? = some o) : FStep Tryd.prog kOps Q (kF w5.drew.heap.size HX HN HM) a w5.drew o := by
  obtain ⟨hd, hop, hg⟩ := op_of ho (show _ = some (some 32, .call { callee := .value (.func 20), args := #[.tmp 31, .const (.slice none 0 0)], argTypes := #[30, 37] }, some (11, true)) by kernel_rfl)
  exact fs_call (Want.dep 11 true 29 hg (by kernel_rfl) (Dep.at K.hn ho (by kernel_rfl)) rfl) 32 hd 20 _ _ hop _ Tryd.func20 (by kernel_rfl) (by kernel_rfl) (fun vals w' hF hv => ⟨.agg HN, by rw [map2 (Dep.at K.hn ho (by kernel_rfl)).eval rfl]; exact K.HMAC (List.replicate 64 0) [] HN (by rw [K.HNE, no_key]) (by decide) (by decide) w' _ _ [] (K.HF5w.trans' (Fr.trans' ((Fr.refl _ _).drew) hF)) (hv 31 (Dep.at K.hn ho (by kernel_rfl)).dep) (parts_none _) (by decide) (by decide), fun _ _ => rfl⟩)
theorem kst15 {Q : Exit → Act → World → Prop} {a : Act} {w w5 : World} {HX HN HM : Array Value} {b1 b2 b3 : Nat} (K : KCtx a w w5 HX HN HM b1 b2 b3) (o : Oper) (ho : kOps[15]? = some o) : FStep Tryd.prog kOps Q (kF w5.drew.heap.size HX HN HM) a w5.drew o := by
  obtain ⟨hd, hop, hg⟩ := op_of ho (show _ = some (some 33, .binOp .eql 24 (.tmp 30) (.tmp 32) 24, some (11, true)) by kernel_rfl)
  exact fs_eql (Want.dep 11 true 29 hg (by kernel_rfl) (Dep.at K.hn ho (by kernel_rfl)) rfl) 33 30 32 _ _ hd hop (Dep.at K.hn ho (by kernel_rfl)) (Dep.at K.hn ho (by kernel_rfl)) (.agg HN) (.agg HN) true rfl rfl rfl (fun w' => by have := eqH HN _ K.HNE (hmac_len _ _) w'; go_simp)
theorem kst16 {Q : Exit → Act → World → Prop} {a : Act} {w w5 : World} {HX HN HM : Array Value} {b1 b2 b3 : Nat} (K : KCtx a w w5 HX HN HM b1 b2 b3) (o : Oper) (ho : kOps[16]? = some o) : FStep Tryd.prog kOps Q (kF w5.drew.heap.size HX HN HM) a w5.drew o := by
  obtain ⟨hd, hop, hg⟩ := op_of ho (show _ = some (some 34, .pick (.tmp 29) (.tmp 33) (.const (.bool false)), none) by kernel_rfl)
  exact fs_pick (Want.plain hg) 34 29 33 _ hd hop (Dep.at K.hn ho (by kernel_rfl)) (Dep.at K.hn ho (by kernel_rfl)) rfl rfl rfl
theorem kst17 {Q : Exit → Act → World → Prop} {a : Act} {w w5 : World} {HX HN HM : Array Value} {b1 b2 b3 : Nat} (K : KCtx a w w5 HX HN HM b1 b2 b3) (o : Oper) (ho : kOps[17]? = some o) : FStep Tryd.prog kOps Q (kF w5.drew.heap.size HX HN HM) a w5.drew o := by
  obtain ⟨hd, hop, hg⟩ := op_of ho (show _ = some (some 35, .move (.tmp 34), none) by kernel_rfl)
  exact fs_move (Want.plain hg) 35 34 hd hop (Dep.at K.hn ho (by kernel_rfl)).mem (Dep.at K.hn ho (by kernel_rfl)).lt (Dep.at K.hn ho (by kernel_rfl)).dep (fun _ _ h => h)
theorem kst18 {Q : Exit → Act → World → Prop} {a : Act} {w w5 : World} {HX HN HM : Array Value} {b1 b2 b3 : Nat} (K : KCtx a w w5 HX HN HM b1 b2 b3) (o : Oper) (ho : kOps[18]? = some o) : FStep Tryd.prog kOps Q (kF w5.drew.heap.size HX HN HM) a w5.drew o := by
  obtain ⟨hd, hop, hg⟩ := op_of ho (show _ = some (some 36, .load 24 (.tmp 3), some (17, true)) by kernel_rfl)
  exact fs_load_old (Want.dep 17 true 35 hg (by kernel_rfl) (Dep.at K.hn ho (by kernel_rfl)) rfl) 36 3 _ hd hop (by kernel_rfl) b3 K.h3 24 HM (0, 0) _ K.HB5 Tryd.underlying24 rfl K.HMI rfl
theorem kst19 {Q : Exit → Act → World → Prop} {a : Act} {w w5 : World} {HX HN HM : Array Value} {b1 b2 b3 : Nat} (K : KCtx a w w5 HX HN HM b1 b2 b3) (o : Oper) (ho : kOps[19]? = some o) : FStep Tryd.prog kOps Q (kF w5.drew.heap.size HX HN HM) a w5.drew o := by
  obtain ⟨hd, hop, hg⟩ := op_of ho (show _ = some (some 37, .buildSlice 30 1 #[(0, .const (.int .u8 107))], some (17, true)) by kernel_rfl)
  exact fs_raw (Want.dep 17 true 35 hg (by kernel_rfl) (Dep.at K.hn ho (by kernel_rfl)) rfl) 37 hd 5 [107] rfl (fun vals w' => by unfold execOp; simp only [hop]; first | (go_simp; done) | (go_simp; rfl))
theorem kst20 {Q : Exit → Act → World → Prop} {a : Act} {w w5 : World} {HX HN HM : Array Value} {b1 b2 b3 : Nat} (K : KCtx a w w5 HX HN HM b1 b2 b3) (o : Oper) (ho : kOps[20]? = some o) : FStep Tryd.prog kOps Q (kF w5.drew.heap.size HX HN HM) a w5.drew o := by
  obtain ⟨hd, hop, hg⟩ := op_of ho (show _ = some (some 38, .convert 30 30 (.tmp 37), some (17, true)) by kernel_rfl)
  exact fs_conv (Want.dep 17 true 35 hg (by kernel_rfl) (Dep.at K.hn ho (by kernel_rfl)) rfl) 38 37 hd 30 5 hop Tryd.underlying30 Tryd.underlying5 (Dep.at K.hn ho (by kernel_rfl)).mem (Dep.at K.hn ho (by kernel_rfl)).lt (Dep.at K.hn ho (by kernel_rfl)).dep [107] rfl rfl
theorem kst21 {Q : Exit → Act → World → Prop} {a : Act} {w w5 : World} {HX HN HM : Array Value} {b1 b2 b3 : Nat} (K : KCtx a w w5 HX HN HM b1 b2 b3) (o : Oper) (ho : kOps[21]? = some o) : FStep Tryd.prog kOps Q (kF w5.drew.heap.size HX HN HM) a w5.drew o := by
  obtain ⟨hd, hop, hg⟩ := op_of ho (show _ = some (some 39, .buildSlice 30 2 #[(0, .const (.int .u8 97)), (1, .const (.int .u8 98))], some (17, true)) by kernel_rfl)
  exact fs_raw (Want.dep 17 true 35 hg (by kernel_rfl) (Dep.at K.hn ho (by kernel_rfl)) rfl) 39 hd 5 [97, 98] rfl (fun vals w' => by unfold execOp; simp only [hop]; first | (go_simp; done) | (go_simp; rfl))
theorem kst22 {Q : Exit → Act → World → Prop} {a : Act} {w w5 : World} {HX HN HM : Array Value} {b1 b2 b3 : Nat} (K : KCtx a w w5 HX HN HM b1 b2 b3) (o : Oper) (ho : kOps[22]? = some o) : FStep Tryd.prog kOps Q (kF w5.drew.heap.size HX HN HM) a w5.drew o := by
  obtain ⟨hd, hop, hg⟩ := op_of ho (show _ = some (some 40, .convert 30 30 (.tmp 39), some (17, true)) by kernel_rfl)
  exact fs_conv (Want.dep 17 true 35 hg (by kernel_rfl) (Dep.at K.hn ho (by kernel_rfl)) rfl) 40 39 hd 30 5 hop Tryd.underlying30 Tryd.underlying5 (Dep.at K.hn ho (by kernel_rfl)).mem (Dep.at K.hn ho (by kernel_rfl)).lt (Dep.at K.hn ho (by kernel_rfl)).dep [97, 98] rfl rfl
theorem kst23 {Q : Exit → Act → World → Prop} {a : Act} {w w5 : World} {HX HN HM : Array Value} {b1 b2 b3 : Nat} (K : KCtx a w w5 HX HN HM b1 b2 b3) (o : Oper) (ho : kOps[23]? = some o) : FStep Tryd.prog kOps Q (kF w5.drew.heap.size HX HN HM) a w5.drew o := by
  obtain ⟨hd, hop, hg⟩ := op_of ho (show _ = some (some 41, .buildSlice 37 1 #[(0, .tmp 40)], some (17, true)) by kernel_rfl)
  exact fs_part1 (Want.dep 17 true 35 hg (by kernel_rfl) (Dep.at K.hn ho (by kernel_rfl)) rfl) 41 40 hd 37 30 hop Tryd.underlying37 (by kernel_rfl) (Dep.at K.hn ho (by kernel_rfl)) [97, 98] (fun _ _ h => h) rfl
theorem kst24 {Q : Exit → Act → World → Prop} {a : Act} {w w5 : World} {HX HN HM : Array Value} {b1 b2 b3 : Nat} (K : KCtx a w w5 HX HN HM b1 b2 b3) (o : Oper) (ho : kOps[24]? = some o) : FStep Tryd.prog kOps Q (kF w5.drew.heap.size HX HN HM) a w5.drew o := by
  obtain ⟨hd, hop, hg⟩ := op_of ho (show _ = some (some 42, .call { callee := .value (.func 20), args := #[.tmp 38, .tmp 41], argTypes := #[30, 37] }, some (17, true)) by kernel_rfl)
  exact fs_call (Want.dep 17 true 35 hg (by kernel_rfl) (Dep.at K.hn ho (by kernel_rfl)) rfl) 42 hd 20 _ _ hop _ Tryd.func20 (by kernel_rfl) (by kernel_rfl) (fun vals w' hF hv => ⟨.agg HM, by rw [map2 (Dep.at K.hn ho (by kernel_rfl)).eval (Dep.at K.hn ho (by kernel_rfl)).eval]; exact K.HMAC [107] [97, 98] HM K.HME (by decide) (by decide) w' _ _ [[97, 98]] (K.HF5w.trans' (Fr.trans' ((Fr.refl _ _).drew) hF)) (hv 38 (Dep.at K.hn ho (by kernel_rfl)).dep) (hv 41 (Dep.at K.hn ho (by kernel_rfl)).dep) (by decide) (by decide), fun _ _ => rfl⟩)
theorem kst25 {Q : Exit → Act → World → Prop} {a : Act} {w w5 : World} {HX HN HM : Array Value} {b1 b2 b3 : Nat} (K : KCtx a w w5 HX HN HM b1 b2 b3) (o : Oper) (ho : kOps[25]? = some o) : FStep Tryd.prog kOps Q (kF w5.drew.heap.size HX HN HM) a w5.drew o := by
  obtain ⟨hd, hop, hg⟩ := op_of ho (show _ = some (some 43, .binOp .eql 24 (.tmp 36) (.tmp 42) 24, some (17, true)) by kernel_rfl)
  exact fs_eql (Want.dep 17 true 35 hg (by kernel_rfl) (Dep.at K.hn ho (by kernel_rfl)) rfl) 43 36 42 _ _ hd hop (Dep.at K.hn ho (by kernel_rfl)) (Dep.at K.hn ho (by kernel_rfl)) (.agg HM) (.agg HM) true rfl rfl rfl (fun w' => by have := eqH HM _ K.HME (hmac_len _ _) w'; go_simp)
theorem kst26 {Q : Exit → Act → World → Prop} {a : Act} {w w5 : World} {HX HN HM : Array Value} {b1 b2 b3 : Nat} (K : KCtx a w w5 HX HN HM b1 b2 b3) (o : Oper) (ho : kOps[26]? = some o) : FStep Tryd.prog kOps Q (kF w5.drew.heap.size HX HN HM) a w5.drew o := by
  obtain ⟨hd, hop, hg⟩ := op_of ho (show _ = some (some 44, .pick (.tmp 35) (.tmp 43) (.const (.bool false)), none) by kernel_rfl)
  exact fs_pick (Want.plain hg) 44 35 43 _ hd hop (Dep.at K.hn ho (by kernel_rfl)) (Dep.at K.hn ho (by kernel_rfl)) rfl rfl rfl
theorem kst27 {Q : Exit → Act → World → Prop} {a : Act} {w w5 : World} {HX HN HM : Array Value} {b1 b2 b3 : Nat} (K : KCtx a w w5 HX HN HM b1 b2 b3) (o : Oper) (ho : kOps[27]? = some o) : FStep Tryd.prog kOps Q (kF w5.drew.heap.size HX HN HM) a w5.drew o := by
  obtain ⟨hd, hop, hg⟩ := op_of ho (show _ = some (some 45, .move (.tmp 44), none) by kernel_rfl)
  exact fs_move (Want.plain hg) 45 44 hd hop (Dep.at K.hn ho (by kernel_rfl)).mem (Dep.at K.hn ho (by kernel_rfl)).lt (Dep.at K.hn ho (by kernel_rfl)).dep (fun _ _ h => h)
theorem kst28 {Q : Exit → Act → World → Prop} {a : Act} {w w5 : World} {HX HN HM : Array Value} {b1 b2 b3 : Nat} (K : KCtx a w w5 HX HN HM b1 b2 b3) (o : Oper) (ho : kOps[28]? = some o) : FStep Tryd.prog kOps Q (kF w5.drew.heap.size HX HN HM) a w5.drew o := by
  obtain ⟨hd, hop, hg⟩ := op_of ho (show _ = some (some 46, .buildSlice 30 1 #[(0, .const (.int .u8 107))], some (27, true)) by kernel_rfl)
  exact fs_raw (Want.dep 27 true 45 hg (by kernel_rfl) (Dep.at K.hn ho (by kernel_rfl)) rfl) 46 hd 5 [107] rfl (fun vals w' => by unfold execOp; simp only [hop]; first | (go_simp; done) | (go_simp; rfl))
theorem kst29 {Q : Exit → Act → World → Prop} {a : Act} {w w5 : World} {HX HN HM : Array Value} {b1 b2 b3 : Nat} (K : KCtx a w w5 HX HN HM b1 b2 b3) (o : Oper) (ho : kOps[29]? = some o) : FStep Tryd.prog kOps Q (kF w5.drew.heap.size HX HN HM) a w5.drew o := by
  obtain ⟨hd, hop, hg⟩ := op_of ho (show _ = some (some 47, .convert 30 30 (.tmp 46), some (27, true)) by kernel_rfl)
  exact fs_conv (Want.dep 27 true 45 hg (by kernel_rfl) (Dep.at K.hn ho (by kernel_rfl)) rfl) 47 46 hd 30 5 hop Tryd.underlying30 Tryd.underlying5 (Dep.at K.hn ho (by kernel_rfl)).mem (Dep.at K.hn ho (by kernel_rfl)).lt (Dep.at K.hn ho (by kernel_rfl)).dep [107] rfl rfl
theorem kst30 {Q : Exit → Act → World → Prop} {a : Act} {w w5 : World} {HX HN HM : Array Value} {b1 b2 b3 : Nat} (K : KCtx a w w5 HX HN HM b1 b2 b3) (o : Oper) (ho : kOps[30]? = some o) : FStep Tryd.prog kOps Q (kF w5.drew.heap.size HX HN HM) a w5.drew o := by
  obtain ⟨hd, hop, hg⟩ := op_of ho (show _ = some (some 48, .load 24 (.tmp 3), some (27, true)) by kernel_rfl)
  exact fs_load_old (Want.dep 27 true 45 hg (by kernel_rfl) (Dep.at K.hn ho (by kernel_rfl)) rfl) 48 3 _ hd hop (by kernel_rfl) b3 K.h3 24 HM (0, 0) _ K.HB5 Tryd.underlying24 rfl K.HMI rfl
theorem kst31 {Q : Exit → Act → World → Prop} {a : Act} {w w5 : World} {HX HN HM : Array Value} {b1 b2 b3 : Nat} (K : KCtx a w w5 HX HN HM b1 b2 b3) (o : Oper) (ho : kOps[31]? = some o) : FStep Tryd.prog kOps Q (kF w5.drew.heap.size HX HN HM) a w5.drew o := by
  obtain ⟨hd, hop, hg⟩ := op_of ho (show _ = some (some 49, .buildSlice 30 2 #[(0, .const (.int .u8 97)), (1, .const (.int .u8 98))], some (27, true)) by kernel_rfl)
  exact fs_raw (Want.dep 27 true 45 hg (by kernel_rfl) (Dep.at K.hn ho (by kernel_rfl)) rfl) 49 hd 5 [97, 98] rfl (fun vals w' => by unfold execOp; simp only [hop]; first | (go_simp; done) | (go_simp; rfl))
theorem kst32 {Q : Exit → Act → World → Prop} {a : Act} {w w5 : World} {HX HN HM : Array Value} {b1 b2 b3 : Nat} (K : KCtx a w w5 HX HN HM b1 b2 b3) (o : Oper) (ho : kOps[32]? = some o) : FStep Tryd.prog kOps Q (kF w5.drew.heap.size HX HN HM) a w5.drew o := by
  obtain ⟨hd, hop, hg⟩ := op_of ho (show _ = some (some 50, .convert 30 30 (.tmp 49), some (27, true)) by kernel_rfl)
  exact fs_conv (Want.dep 27 true 45 hg (by kernel_rfl) (Dep.at K.hn ho (by kernel_rfl)) rfl) 50 49 hd 30 5 hop Tryd.underlying30 Tryd.underlying5 (Dep.at K.hn ho (by kernel_rfl)).mem (Dep.at K.hn ho (by kernel_rfl)).lt (Dep.at K.hn ho (by kernel_rfl)).dep [97, 98] rfl rfl
theorem kst33 {Q : Exit → Act → World → Prop} {a : Act} {w w5 : World} {HX HN HM : Array Value} {b1 b2 b3 : Nat} (K : KCtx a w w5 HX HN HM b1 b2 b3) (o : Oper) (ho : kOps[33]? = some o) : FStep Tryd.prog kOps Q (kF w5.drew.heap.size HX HN HM) a w5.drew o := by
  obtain ⟨hd, hop, hg⟩ := op_of ho (show _ = some (some 51, .buildSlice 37 1 #[(0, .tmp 50)], some (27, true)) by kernel_rfl)
  exact fs_part1 (Want.dep 27 true 45 hg (by kernel_rfl) (Dep.at K.hn ho (by kernel_rfl)) rfl) 51 50 hd 37 30 hop Tryd.underlying37 (by kernel_rfl) (Dep.at K.hn ho (by kernel_rfl)) [97, 98] (fun _ _ h => h) rfl
theorem kst34 {Q : Exit → Act → World → Prop} {a : Act} {w w5 : World} {HX HN HM : Array Value} {b1 b2 b3 : Nat} (K : KCtx a w w5 HX HN HM b1 b2 b3) (o : Oper) (ho : kOps[34]? = some o) : FStep Tryd.prog kOps Q (kF w5.drew.heap.size HX HN HM) a w5.drew o := by
  obtain ⟨hd, hop, hg⟩ := op_of ho (show _ = some (some 52, .call { callee := .value (.func 21), args := #[.tmp 47, .tmp 48, .tmp 51], argTypes := #[30, 24, 37] }, some (27, true)) by kernel_rfl)
  exact fs_call (Want.dep 27 true 45 hg (by kernel_rfl) (Dep.at K.hn ho (by kernel_rfl)) rfl) 52 hd 21 _ _ hop _ Tryd.func21 (by kernel_rfl) (by kernel_rfl) (fun vals w' hF hv => ⟨.bool true, by rw [map3 (Dep.at K.hn ho (by kernel_rfl)).eval ((Dep.at K.hn ho (by kernel_rfl)).eval.trans (hv 48 (Dep.at K.hn ho (by kernel_rfl)).dep)) (Dep.at K.hn ho (by kernel_rfl)).eval]; exact K.HCHK [107] [97, 98] _ HM true K.HME (hmac_len _ _) (by rw [decide_eq_true_eq]) (by decide) (by decide) w' _ _ [[97, 98]] (K.HF5w.trans' (Fr.trans' ((Fr.refl _ _).drew) hF)) (hv 47 (Dep.at K.hn ho (by kernel_rfl)).dep) (hv 51 (Dep.at K.hn ho (by kernel_rfl)).dep) (by decide) (by decide), fun _ _ => rfl⟩)
theorem kst35 {Q : Exit → Act → World → Prop} {a : Act} {w w5 : World} {HX HN HM : Array Value} {b1 b2 b3 : Nat} (K : KCtx a w w5 HX HN HM b1 b2 b3) (o : Oper) (ho : kOps[35]? = some o) : FStep Tryd.prog kOps Q (kF w5.drew.heap.size HX HN HM) a w5.drew o := by
  obtain ⟨hd, hop, hg⟩ := op_of ho (show _ = some (some 53, .pick (.tmp 45) (.tmp 52) (.const (.bool false)), none) by kernel_rfl)
  exact fs_pick (Want.plain hg) 53 45 52 _ hd hop (Dep.at K.hn ho (by kernel_rfl)) (Dep.at K.hn ho (by kernel_rfl)) rfl rfl rfl
theorem kst36 {Q : Exit → Act → World → Prop} {a : Act} {w w5 : World} {HX HN HM : Array Value} {b1 b2 b3 : Nat} (K : KCtx a w w5 HX HN HM b1 b2 b3) (o : Oper) (ho : kOps[36]? = some o) : FStep Tryd.prog kOps Q (kF w5.drew.heap.size HX HN HM) a w5.drew o := by
  obtain ⟨hd, hop, hg⟩ := op_of ho (show _ = some (some 54, .move (.tmp 53), none) by kernel_rfl)
  exact fs_move (Want.plain hg) 54 53 hd hop (Dep.at K.hn ho (by kernel_rfl)).mem (Dep.at K.hn ho (by kernel_rfl)).lt (Dep.at K.hn ho (by kernel_rfl)).dep (fun _ _ h => h)
theorem kst37 {Q : Exit → Act → World → Prop} {a : Act} {w w5 : World} {HX HN HM : Array Value} {b1 b2 b3 : Nat} (K : KCtx a w w5 HX HN HM b1 b2 b3) (o : Oper) (ho : kOps[37]? = some o) : FStep Tryd.prog kOps Q (kF w5.drew.heap.size HX HN HM) a w5.drew o := by
  obtain ⟨hd, hop, hg⟩ := op_of ho (show _ = some (some 55, .buildSlice 30 1 #[(0, .const (.int .u8 108))], some (36, true)) by kernel_rfl)
  exact fs_raw (Want.dep 36 true 54 hg (by kernel_rfl) (Dep.at K.hn ho (by kernel_rfl)) rfl) 55 hd 5 [108] rfl (fun vals w' => by unfold execOp; simp only [hop]; first | (go_simp; done) | (go_simp; rfl))
theorem kst38 {Q : Exit → Act → World → Prop} {a : Act} {w w5 : World} {HX HN HM : Array Value} {b1 b2 b3 : Nat} (K : KCtx a w w5 HX HN HM b1 b2 b3) (o : Oper) (ho : kOps[38]? = some o) : FStep Tryd.prog kOps Q (kF w5.drew.heap.size HX HN HM) a w5.drew o := by
  obtain ⟨hd, hop, hg⟩ := op_of ho (show _ = some (some 56, .convert 30 30 (.tmp 55), some (36, true)) by kernel_rfl)
  exact fs_conv (Want.dep 36 true 54 hg (by kernel_rfl) (Dep.at K.hn ho (by kernel_rfl)) rfl) 56 55 hd 30 5 hop Tryd.underlying30 Tryd.underlying5 (Dep.at K.hn ho (by kernel_rfl)).mem (Dep.at K.hn ho (by kernel_rfl)).lt (Dep.at K.hn ho (by kernel_rfl)).dep [108] rfl rfl
theorem kst39 {Q : Exit → Act → World → Prop} {a : Act} {w w5 : World} {HX HN HM : Array Value} {b1 b2 b3 : Nat} (K : KCtx a w w5 HX HN HM b1 b2 b3) (o : Oper) (ho : kOps[39]? = some o) : FStep Tryd.prog kOps Q (kF w5.drew.heap.size HX HN HM) a w5.drew o := by
  obtain ⟨hd, hop, hg⟩ := op_of ho (show _ = some (some 57, .load 24 (.tmp 3), some (36, true)) by kernel_rfl)
  exact fs_load_old (Want.dep 36 true 54 hg (by kernel_rfl) (Dep.at K.hn ho (by kernel_rfl)) rfl) 57 3 _ hd hop (by kernel_rfl) b3 K.h3 24 HM (0, 0) _ K.HB5 Tryd.underlying24 rfl K.HMI rfl
theorem kst40 {Q : Exit → Act → World → Prop} {a : Act} {w w5 : World} {HX HN HM : Array Value} {b1 b2 b3 : Nat} (K : KCtx a w w5 HX HN HM b1 b2 b3) (o : Oper) (ho : kOps[40]? = some o) : FStep Tryd.prog kOps Q (kF w5.drew.heap.size HX HN HM) a w5.drew o := by
  obtain ⟨hd, hop, hg⟩ := op_of ho (show _ = some (some 58, .buildSlice 30 2 #[(0, .const (.int .u8 97)), (1, .const (.int .u8 98))], some (36, true)) by kernel_rfl)
  exact fs_raw (Want.dep 36 true 54 hg (by kernel_rfl) (Dep.at K.hn ho (by kernel_rfl)) rfl) 58 hd 5 [97, 98] rfl (fun vals w' => by unfold execOp; simp only [hop]; first | (go_simp; done) | (go_simp; rfl))
theorem kst41 {Q : Exit → Act → World → Prop} {a : Act} {w w5 : World} {HX HN HM : Array Value} {b1 b2 b3 : Nat} (K : KCtx a w w5 HX HN HM b1 b2 b3) (o : Oper) (ho : kOps[41]? = some o) : FStep Tryd.prog kOps Q (kF w5.drew.heap.size HX HN HM) a w5.drew o := by
  obtain ⟨hd, hop, hg⟩ := op_of ho (show _ = some (some 59, .convert 30 30 (.tmp 58), some (36, true)) by kernel_rfl)
  exact fs_conv (Want.dep 36 true 54 hg (by kernel_rfl) (Dep.at K.hn ho (by kernel_rfl)) rfl) 59 58 hd 30 5 hop Tryd.underlying30 Tryd.underlying5 (Dep.at K.hn ho (by kernel_rfl)).mem (Dep.at K.hn ho (by kernel_rfl)).lt (Dep.at K.hn ho (by kernel_rfl)).dep [97, 98] rfl rfl
theorem kst42 {Q : Exit → Act → World → Prop} {a : Act} {w w5 : World} {HX HN HM : Array Value} {b1 b2 b3 : Nat} (K : KCtx a w w5 HX HN HM b1 b2 b3) (o : Oper) (ho : kOps[42]? = some o) : FStep Tryd.prog kOps Q (kF w5.drew.heap.size HX HN HM) a w5.drew o := by
  obtain ⟨hd, hop, hg⟩ := op_of ho (show _ = some (some 60, .buildSlice 37 1 #[(0, .tmp 59)], some (36, true)) by kernel_rfl)
  exact fs_part1 (Want.dep 36 true 54 hg (by kernel_rfl) (Dep.at K.hn ho (by kernel_rfl)) rfl) 60 59 hd 37 30 hop Tryd.underlying37 (by kernel_rfl) (Dep.at K.hn ho (by kernel_rfl)) [97, 98] (fun _ _ h => h) rfl
theorem kst43 {Q : Exit → Act → World → Prop} {a : Act} {w w5 : World} {HX HN HM : Array Value} {b1 b2 b3 : Nat} (K : KCtx a w w5 HX HN HM b1 b2 b3) (o : Oper) (ho : kOps[43]? = some o) : FStep Tryd.prog kOps Q (kF w5.drew.heap.size HX HN HM) a w5.drew o := by
  obtain ⟨hd, hop, hg⟩ := op_of ho (show _ = some (some 61, .call { callee := .value (.func 21), args := #[.tmp 56, .tmp 57, .tmp 60], argTypes := #[30, 24, 37] }, some (36, true)) by kernel_rfl)
  exact fs_call (Want.dep 36 true 54 hg (by kernel_rfl) (Dep.at K.hn ho (by kernel_rfl)) rfl) 61 hd 21 _ _ hop _ Tryd.func21 (by kernel_rfl) (by kernel_rfl) (fun vals w' hF hv => ⟨.bool false, by rw [map3 (Dep.at K.hn ho (by kernel_rfl)).eval ((Dep.at K.hn ho (by kernel_rfl)).eval.trans (hv 57 (Dep.at K.hn ho (by kernel_rfl)).dep)) (Dep.at K.hn ho (by kernel_rfl)).eval]; exact K.HCHK [108] [97, 98] _ HM false K.HME (hmac_len _ _) wrong_key (by decide) (by decide) w' _ _ [[97, 98]] (K.HF5w.trans' (Fr.trans' ((Fr.refl _ _).drew) hF)) (hv 56 (Dep.at K.hn ho (by kernel_rfl)).dep) (hv 60 (Dep.at K.hn ho (by kernel_rfl)).dep) (by decide) (by decide), fun _ _ => rfl⟩)
theorem kst44 {Q : Exit → Act → World → Prop} {a : Act} {w w5 : World} {HX HN HM : Array Value} {b1 b2 b3 : Nat} (K : KCtx a w w5 HX HN HM b1 b2 b3) (o : Oper) (ho : kOps[44]? = some o) : FStep Tryd.prog kOps Q (kF w5.drew.heap.size HX HN HM) a w5.drew o := by
  obtain ⟨hd, hop, hg⟩ := op_of ho (show _ = some (some 62, .unOp .not 4 (.tmp 61), some (36, true)) by kernel_rfl)
  exact fs_not (Want.dep 36 true 54 hg (by kernel_rfl) (Dep.at K.hn ho (by kernel_rfl)) rfl) 62 61 _ false hd hop (Dep.at K.hn ho (by kernel_rfl)) rfl rfl
theorem kst45 {Q : Exit → Act → World → Prop} {a : Act} {w w5 : World} {HX HN HM : Array Value} {b1 b2 b3 : Nat} (K : KCtx a w w5 HX HN HM b1 b2 b3) (o : Oper) (ho : kOps[45]? = some o) : FStep Tryd.prog kOps Q (kF w5.drew.heap.size HX HN HM) a w5.drew o := by
  obtain ⟨hd, hop, hg⟩ := op_of ho (show _ = some (some 63, .pick (.tmp 54) (.tmp 62) (.const (.bool false)), none) by kernel_rfl)
  exact fs_pick (Want.plain hg) 63 54 62 _ hd hop (Dep.at K.hn ho (by kernel_rfl)) (Dep.at K.hn ho (by kernel_rfl)) rfl rfl rfl
theorem kst46 {Q : Exit → Act → World → Prop} {a : Act} {w w5 : World} {HX HN HM : Array Value} {b1 b2 b3 : Nat} (K : KCtx a w w5 HX HN HM b1 b2 b3) (o : Oper) (ho : kOps[46]? = some o) : FStep Tryd.prog kOps Q (kF w5.drew.heap.size HX HN HM) a w5.drew o := by
  obtain ⟨hd, hop, hg⟩ := op_of ho (show _ = some (some 64, .move (.tmp 63), none) by kernel_rfl)
  exact fs_move (Want.plain hg) 64 63 hd hop (Dep.at K.hn ho (by kernel_rfl)).mem (Dep.at K.hn ho (by kernel_rfl)).lt (Dep.at K.hn ho (by kernel_rfl)).dep (fun _ _ h => h)
theorem kst47 {Q : Exit → Act → World → Prop} {a : Act} {w w5 : World} {HX HN HM : Array Value} {b1 b2 b3 : Nat} (K : KCtx a w w5 HX HN HM b1 b2 b3) (o : Oper) (ho : kOps[47]? = some o) : FStep Tryd.prog kOps Q (kF w5.drew.heap.size HX HN HM) a w5.drew o := by
  obtain ⟨hd, hop, hg⟩ := op_of ho (show _ = some (some 65, .buildSlice 30 1 #[(0, .const (.int .u8 107))], some (46, true)) by kernel_rfl)
  exact fs_raw (Want.dep 46 true 64 hg (by kernel_rfl) (Dep.at K.hn ho (by kernel_rfl)) rfl) 65 hd 5 [107] rfl (fun vals w' => by unfold execOp; simp only [hop]; first | (go_simp; done) | (go_simp; rfl))
theorem kst48 {Q : Exit → Act → World → Prop} {a : Act} {w w5 : World} {HX HN HM : Array Value} {b1 b2 b3 : Nat} (K : KCtx a w w5 HX HN HM b1 b2 b3) (o : Oper) (ho : kOps[48]? = some o) : FStep Tryd.prog kOps Q (kF w5.drew.heap.size HX HN HM) a w5.drew o := by
  obtain ⟨hd, hop, hg⟩ := op_of ho (show _ = some (some 66, .convert 30 30 (.tmp 65), some (46, true)) by kernel_rfl)
  exact fs_conv (Want.dep 46 true 64 hg (by kernel_rfl) (Dep.at K.hn ho (by kernel_rfl)) rfl) 66 65 hd 30 5 hop Tryd.underlying30 Tryd.underlying5 (Dep.at K.hn ho (by kernel_rfl)).mem (Dep.at K.hn ho (by kernel_rfl)).lt (Dep.at K.hn ho (by kernel_rfl)).dep [107] rfl rfl
theorem kst49 {Q : Exit → Act → World → Prop} {a : Act} {w w5 : World} {HX HN HM : Array Value} {b1 b2 b3 : Nat} (K : KCtx a w w5 HX HN HM b1 b2 b3) (o : Oper) (ho : kOps[49]? = some o) : FStep Tryd.prog kOps Q (kF w5.drew.heap.size HX HN HM) a w5.drew o := by
  obtain ⟨hd, hop, hg⟩ := op_of ho (show _ = some (some 67, .load 24 (.tmp 3), some (46, true)) by kernel_rfl)
  exact fs_load_old (Want.dep 46 true 64 hg (by kernel_rfl) (Dep.at K.hn ho (by kernel_rfl)) rfl) 67 3 _ hd hop (by kernel_rfl) b3 K.h3 24 HM (0, 0) _ K.HB5 Tryd.underlying24 rfl K.HMI rfl
theorem kst50 {Q : Exit → Act → World → Prop} {a : Act} {w w5 : World} {HX HN HM : Array Value} {b1 b2 b3 : Nat} (K : KCtx a w w5 HX HN HM b1 b2 b3) (o : Oper) (ho : kOps[50]? = some o) : FStep Tryd.prog kOps Q (kF w5.drew.heap.size HX HN HM) a w5.drew o := by
  obtain ⟨hd, hop, hg⟩ := op_of ho (show _ = some (some 68, .buildSlice 30 2 #[(0, .const (.int .u8 98)), (1, .const (.int .u8 97))], some (46, true)) by kernel_rfl)
  exact fs_raw (Want.dep 46 true 64 hg (by kernel_rfl) (Dep.at K.hn ho (by kernel_rfl)) rfl) 68 hd 5 [98, 97] rfl (fun vals w' => by unfold execOp; simp only [hop]; first | (go_simp; done) | (go_simp; rfl))
theorem kst51 {Q : Exit → Act → World → Prop} {a : Act} {w w5 : World} {HX HN HM : Array Value} {b1 b2 b3 : Nat} (K : KCtx a w w5 HX HN HM b1 b2 b3) (o : Oper) (ho : kOps[51]? = some o) : FStep Tryd.prog kOps Q (kF w5.drew.heap.size HX HN HM) a w5.drew o := by
  obtain ⟨hd, hop, hg⟩ := op_of ho (show _ = some (some 69, .convert 30 30 (.tmp 68), some (46, true)) by kernel_rfl)
  exact fs_conv (Want.dep 46 true 64 hg (by kernel_rfl) (Dep.at K.hn ho (by kernel_rfl)) rfl) 69 68 hd 30 5 hop Tryd.underlying30 Tryd.underlying5 (Dep.at K.hn ho (by kernel_rfl)).mem (Dep.at K.hn ho (by kernel_rfl)).lt (Dep.at K.hn ho (by kernel_rfl)).dep [98, 97] rfl rfl
theorem kst52 {Q : Exit → Act → World → Prop} {a : Act} {w w5 : World} {HX HN HM : Array Value} {b1 b2 b3 : Nat} (K : KCtx a w w5 HX HN HM b1 b2 b3) (o : Oper) (ho : kOps[52]? = some o) : FStep Tryd.prog kOps Q (kF w5.drew.heap.size HX HN HM) a w5.drew o := by
  obtain ⟨hd, hop, hg⟩ := op_of ho (show _ = some (some 70, .buildSlice 37 1 #[(0, .tmp 69)], some (46, true)) by kernel_rfl)
  exact fs_part1 (Want.dep 46 true 64 hg (by kernel_rfl) (Dep.at K.hn ho (by kernel_rfl)) rfl) 70 69 hd 37 30 hop Tryd.underlying37 (by kernel_rfl) (Dep.at K.hn ho (by kernel_rfl)) [98, 97] (fun _ _ h => h) rfl
theorem kst53 {Q : Exit → Act → World → Prop} {a : Act} {w w5 : World} {HX HN HM : Array Value} {b1 b2 b3 : Nat} (K : KCtx a w w5 HX HN HM b1 b2 b3) (o : Oper) (ho : kOps[53]? = some o) : FStep Tryd.prog kOps Q (kF w5.drew.heap.size HX HN HM) a w5.drew o := by
  obtain ⟨hd, hop, hg⟩ := op_of ho (show _ = some (some 71, .call { callee := .value (.func 21), args := #[.tmp 66, .tmp 67, .tmp 70], argTypes := #[30, 24, 37] }, some (46, true)) by kernel_rfl)
  exact fs_call (Want.dep 46 true 64 hg (by kernel_rfl) (Dep.at K.hn ho (by kernel_rfl)) rfl) 71 hd 21 _ _ hop _ Tryd.func21 (by kernel_rfl) (by kernel_rfl) (fun vals w' hF hv => ⟨.bool false, by rw [map3 (Dep.at K.hn ho (by kernel_rfl)).eval ((Dep.at K.hn ho (by kernel_rfl)).eval.trans (hv 67 (Dep.at K.hn ho (by kernel_rfl)).dep)) (Dep.at K.hn ho (by kernel_rfl)).eval]; exact K.HCHK [107] [98, 97] _ HM false K.HME (hmac_len _ _) wrong_msg (by decide) (by decide) w' _ _ [[98, 97]] (K.HF5w.trans' (Fr.trans' ((Fr.refl _ _).drew) hF)) (hv 66 (Dep.at K.hn ho (by kernel_rfl)).dep) (hv 70 (Dep.at K.hn ho (by kernel_rfl)).dep) (by decide) (by decide), fun _ _ => rfl⟩)
theorem kst54 {Q : Exit → Act → World → Prop} {a : Act} {w w5 : World} {HX HN HM : Array Value} {b1 b2 b3 : Nat} (K : KCtx a w w5 HX HN HM b1 b2 b3) (o : Oper) (ho : kOps[54]? = some o) : FStep Tryd.prog kOps Q (kF w5.drew.heap.size HX HN HM) a w5.drew o := by
  obtain ⟨hd, hop, hg⟩ := op_of ho (show _ = some (some 72, .unOp .not 4 (.tmp 71), some (46, true)) by kernel_rfl)
  exact fs_not (Want.dep 46 true 64 hg (by kernel_rfl) (Dep.at K.hn ho (by kernel_rfl)) rfl) 72 71 _ false hd hop (Dep.at K.hn ho (by kernel_rfl)) rfl rfl
theorem kst55 {Q : Exit → Act → World → Prop} {a : Act} {w w5 : World} {HX HN HM : Array Value} {b1 b2 b3 : Nat} (K : KCtx a w w5 HX HN HM b1 b2 b3) (o : Oper) (ho : kOps[55]? = some o) : FStep Tryd.prog kOps Q (kF w5.drew.heap.size HX HN HM) a w5.drew o := by
  obtain ⟨hd, hop, hg⟩ := op_of ho (show _ = some (some 73, .pick (.tmp 64) (.tmp 72) (.const (.bool false)), none) by kernel_rfl)
  exact fs_pick (Want.plain hg) 73 64 72 _ hd hop (Dep.at K.hn ho (by kernel_rfl)) (Dep.at K.hn ho (by kernel_rfl)) rfl rfl rfl
theorem kst56 {Q : Exit → Act → World → Prop} {a : Act} {w w5 : World} {HX HN HM : Array Value} {b1 b2 b3 : Nat} (K : KCtx a w w5 HX HN HM b1 b2 b3) (o : Oper) (ho : kOps[56]? = some o) : FStep Tryd.prog kOps Q (kF w5.drew.heap.size HX HN HM) a w5.drew o := by
  obtain ⟨hd, hop, hg⟩ := op_of ho (show _ = some (some 74, .move (.tmp 73), none) by kernel_rfl)
  exact fs_move (Want.plain hg) 74 73 hd hop (Dep.at K.hn ho (by kernel_rfl)).mem (Dep.at K.hn ho (by kernel_rfl)).lt (Dep.at K.hn ho (by kernel_rfl)).dep (fun _ _ h => h)
theorem kst57 {Q : Exit → Act → World → Prop} {a : Act} {w w5 : World} {HX HN HM : Array Value} {b1 b2 b3 : Nat} (K : KCtx a w w5 HX HN HM b1 b2 b3) (o : Oper) (ho : kOps[57]? = some o) : FStep Tryd.prog kOps Q (kF w5.drew.heap.size HX HN HM) a w5.drew o := by
  obtain ⟨hd, hop, hg⟩ := op_of ho (show _ = some (some 75, .buildSlice 30 0 #[], some (56, true)) by kernel_rfl)
  exact fs_raw (Want.dep 56 true 74 hg (by kernel_rfl) (Dep.at K.hn ho (by kernel_rfl)) rfl) 75 hd 5 [] rfl (fun vals w' => by unfold execOp; simp only [hop]; first | (go_simp; done) | (go_simp; rfl))
theorem kst58 {Q : Exit → Act → World → Prop} {a : Act} {w w5 : World} {HX HN HM : Array Value} {b1 b2 b3 : Nat} (K : KCtx a w w5 HX HN HM b1 b2 b3) (o : Oper) (ho : kOps[58]? = some o) : FStep Tryd.prog kOps Q (kF w5.drew.heap.size HX HN HM) a w5.drew o := by
  obtain ⟨hd, hop, hg⟩ := op_of ho (show _ = some (some 76, .call { callee := .value (.func 22), args := #[.const (.slice none 0 0), .tmp 75], argTypes := #[30, 30] }, some (56, true)) by kernel_rfl)
  exact fs_call (Want.dep 56 true 74 hg (by kernel_rfl) (Dep.at K.hn ho (by kernel_rfl)) rfl) 76 hd 22 _ _ hop _ Tryd.func22 (by kernel_rfl) (by kernel_rfl) (fun vals w' hF hv => ⟨.bool true, by rw [map2 rfl (Dep.at K.hn ho (by kernel_rfl)).eval]; exact same_lit [] [] true (by decide) (by decide) (by decide) _ _ w' (BytesIs.nil _) (Fact.raw_bytes (hv 75 (Dep.at K.hn ho (by kernel_rfl)).dep)), fun _ _ => rfl⟩)
theorem kst59 {Q : Exit → Act → World → Prop} {a : Act} {w w5 : World} {HX HN HM : Array Value} {b1 b2 b3 : Nat} (K : KCtx a w w5 HX HN HM b1 b2 b3) (o : Oper) (ho : kOps[59]? = some o) : FStep Tryd.prog kOps Q (kF w5.drew.heap.size HX HN HM) a w5.drew o := by
  obtain ⟨hd, hop, hg⟩ := op_of ho (show _ = some (some 77, .pick (.tmp 74) (.tmp 76) (.const (.bool false)), none) by kernel_rfl)
  exact fs_pick (Want.plain hg) 77 74 76 _ hd hop (Dep.at K.hn ho (by kernel_rfl)) (Dep.at K.hn ho (by kernel_rfl)) rfl rfl rfl
theorem kst60 {Q : Exit → Act → World → Prop} {a : Act} {w w5 : World} {HX HN HM : Array Value} {b1 b2 b3 : Nat} (K : KCtx a w w5 HX HN HM b1 b2 b3) (o : Oper) (ho : kOps[60]? = some o) : FStep Tryd.prog kOps Q (kF w5.drew.heap.size HX HN HM) a w5.drew o := by
  obtain ⟨hd, hop, hg⟩ := op_of ho (show _ = some (some 78, .move (.tmp 77), none) by kernel_rfl)
  exact fs_move (Want.plain hg) 78 77 hd hop (Dep.at K.hn ho (by kernel_rfl)).mem (Dep.at K.hn ho (by kernel_rfl)).lt (Dep.at K.hn ho (by kernel_rfl)).dep (fun _ _ h => h)
theorem kst61 {Q : Exit → Act → World → Prop} {a : Act} {w w5 : World} {HX HN HM : Array Value} {b1 b2 b3 : Nat} (K : KCtx a w w5 HX HN HM b1 b2 b3) (o : Oper) (ho : kOps[61]? = some o) : FStep Tryd.prog kOps Q (kF w5.drew.heap.size HX HN HM) a w5.drew o := by
  obtain ⟨hd, hop, hg⟩ := op_of ho (show _ = some (some 79, .buildSlice 30 1 #[(0, .const (.int .u8 0))], some (60, true)) by kernel_rfl)
  exact fs_raw (Want.dep 60 true 78 hg (by kernel_rfl) (Dep.at K.hn ho (by kernel_rfl)) rfl) 79 hd 5 [0] rfl (fun vals w' => by unfold execOp; simp only [hop]; first | (go_simp; done) | (go_simp; rfl))
theorem kst62 {Q : Exit → Act → World → Prop} {a : Act} {w w5 : World} {HX HN HM : Array Value} {b1 b2 b3 : Nat} (K : KCtx a w w5 HX HN HM b1 b2 b3) (o : Oper) (ho : kOps[62]? = some o) : FStep Tryd.prog kOps Q (kF w5.drew.heap.size HX HN HM) a w5.drew o := by
  obtain ⟨hd, hop, hg⟩ := op_of ho (show _ = some (some 80, .call { callee := .value (.func 22), args := #[.tmp 79, .const (.slice none 0 0)], argTypes := #[30, 30] }, some (60, true)) by kernel_rfl)
  exact fs_call (Want.dep 60 true 78 hg (by kernel_rfl) (Dep.at K.hn ho (by kernel_rfl)) rfl) 80 hd 22 _ _ hop _ Tryd.func22 (by kernel_rfl) (by kernel_rfl) (fun vals w' hF hv => ⟨.bool false, by rw [map2 (Dep.at K.hn ho (by kernel_rfl)).eval rfl]; exact same_lit [0] [] false (by decide) (by decide) (by decide) _ _ w' (Fact.raw_bytes (hv 79 (Dep.at K.hn ho (by kernel_rfl)).dep)) (BytesIs.nil _), fun _ _ => rfl⟩)
theorem kst63 {Q : Exit → Act → World → Prop} {a : Act} {w w5 : World} {HX HN HM : Array Value} {b1 b2 b3 : Nat} (K : KCtx a w w5 HX HN HM b1 b2 b3) (o : Oper) (ho : kOps[63]? = some o) : FStep Tryd.prog kOps Q (kF w5.drew.heap.size HX HN HM) a w5.drew o := by
  obtain ⟨hd, hop, hg⟩ := op_of ho (show _ = some (some 81, .unOp .not 4 (.tmp 80), some (60, true)) by kernel_rfl)
  exact fs_not (Want.dep 60 true 78 hg (by kernel_rfl) (Dep.at K.hn ho (by kernel_rfl)) rfl) 81 80 _ false hd hop (Dep.at K.hn ho (by kernel_rfl)) rfl rfl
theorem kst64 {Q : Exit → Act → World → Prop} {a : Act} {w w5 : World} {HX HN HM : Array Value} {b1 b2 b3 : Nat} (K : KCtx a w w5 HX HN HM b1 b2 b3) (o : Oper) (ho : kOps[64]? = some o) : FStep Tryd.prog kOps Q (kF w5.drew.heap.size HX HN HM) a w5.drew o := by
  obtain ⟨hd, hop, hg⟩ := op_of ho (show _ = some (some 82, .pick (.tmp 78) (.tmp 81) (.const (.bool false)), none) by kernel_rfl)
  exact fs_pick (Want.plain hg) 82 78 81 _ hd hop (Dep.at K.hn ho (by kernel_rfl)) (Dep.at K.hn ho (by kernel_rfl)) rfl rfl rfl
theorem kst65 {Q : Exit → Act → World → Prop} {a : Act} {w w5 : World} {HX HN HM : Array Value} {b1 b2 b3 : Nat} (K : KCtx a w w5 HX HN HM b1 b2 b3) (o : Oper) (ho : kOps[65]? = some o) : FStep Tryd.prog kOps Q (kF w5.drew.heap.size HX HN HM) a w5.drew o := by
  obtain ⟨hd, hop, hg⟩ := op_of ho (show _ = some (some 83, .move (.tmp 82), none) by kernel_rfl)
  exact fs_move (Want.plain hg) 83 82 hd hop (Dep.at K.hn ho (by kernel_rfl)).mem (Dep.at K.hn ho (by kernel_rfl)).lt (Dep.at K.hn ho (by kernel_rfl)).dep (fun _ _ h => h)
theorem kst66 {Q : Exit → Act → World → Prop} {a : Act} {w w5 : World} {HX HN HM : Array Value} {b1 b2 b3 : Nat} (K : KCtx a w w5 HX HN HM b1 b2 b3) (o : Oper) (ho : kOps[66]? = some o) : FStep Tryd.prog kOps Q (kF w5.drew.heap.size HX HN HM) a w5.drew o := by
  obtain ⟨hd, hop, hg⟩ := op_of ho (show _ = some (some 84, .buildSlice 30 2 #[(0, .const (.int .u8 1)), (1, .const (.int .u8 2))], some (65, true)) by kernel_rfl)
  exact fs_raw (Want.dep 65 true 83 hg (by kernel_rfl) (Dep.at K.hn ho (by kernel_rfl)) rfl) 84 hd 5 [1, 2] rfl (fun vals w' => by unfold execOp; simp only [hop]; first | (go_simp; done) | (go_simp; rfl))
theorem kst67 {Q : Exit → Act → World → Prop} {a : Act} {w w5 : World} {HX HN HM : Array Value} {b1 b2 b3 : Nat} (K : KCtx a w w5 HX HN HM b1 b2 b3) (o : Oper) (ho : kOps[67]? = some o) : FStep Tryd.prog kOps Q (kF w5.drew.heap.size HX HN HM) a w5.drew o := by
  obtain ⟨hd, hop, hg⟩ := op_of ho (show _ = some (some 85, .buildSlice 30 2 #[(0, .const (.int .u8 1)), (1, .const (.int .u8 2))], some (65, true)) by kernel_rfl)
  exact fs_raw (Want.dep 65 true 83 hg (by kernel_rfl) (Dep.at K.hn ho (by kernel_rfl)) rfl) 85 hd 5 [1, 2] rfl (fun vals w' => by unfold execOp; simp only [hop]; first | (go_simp; done) | (go_simp; rfl))
theorem kst68 {Q : Exit → Act → World → Prop} {a : Act} {w w5 : World} {HX HN HM : Array Value} {b1 b2 b3 : Nat} (K : KCtx a w w5 HX HN HM b1 b2 b3) (o : Oper) (ho : kOps[68]? = some o) : FStep Tryd.prog kOps Q (kF w5.drew.heap.size HX HN HM) a w5.drew o := by
  obtain ⟨hd, hop, hg⟩ := op_of ho (show _ = some (some 86, .call { callee := .value (.func 22), args := #[.tmp 84, .tmp 85], argTypes := #[30, 30] }, some (65, true)) by kernel_rfl)
  exact fs_call (Want.dep 65 true 83 hg (by kernel_rfl) (Dep.at K.hn ho (by kernel_rfl)) rfl) 86 hd 22 _ _ hop _ Tryd.func22 (by kernel_rfl) (by kernel_rfl) (fun vals w' hF hv => ⟨.bool true, by rw [map2 (Dep.at K.hn ho (by kernel_rfl)).eval (Dep.at K.hn ho (by kernel_rfl)).eval]; exact same_lit [1, 2] [1, 2] true (by decide) (by decide) (by decide) _ _ w' (Fact.raw_bytes (hv 84 (Dep.at K.hn ho (by kernel_rfl)).dep)) (Fact.raw_bytes (hv 85 (Dep.at K.hn ho (by kernel_rfl)).dep)), fun _ _ => rfl⟩)
theorem kst69 {Q : Exit → Act → World → Prop} {a : Act} {w w5 : World} {HX HN HM : Array Value} {b1 b2 b3 : Nat} (K : KCtx a w w5 HX HN HM b1 b2 b3) (o : Oper) (ho : kOps[69]? = some o) : FStep Tryd.prog kOps Q (kF w5.drew.heap.size HX HN HM) a w5.drew o := by
  obtain ⟨hd, hop, hg⟩ := op_of ho (show _ = some (some 87, .pick (.tmp 83) (.tmp 86) (.const (.bool false)), none) by kernel_rfl)
  exact fs_pick (Want.plain hg) 87 83 86 _ hd hop (Dep.at K.hn ho (by kernel_rfl)) (Dep.at K.hn ho (by kernel_rfl)) rfl rfl rfl
theorem kst70 {Q : Exit → Act → World → Prop} {a : Act} {w w5 : World} {HX HN HM : Array Value} {b1 b2 b3 : Nat} (K : KCtx a w w5 HX HN HM b1 b2 b3) (o : Oper) (ho : kOps[70]? = some o) : FStep Tryd.prog kOps Q (kF w5.drew.heap.size HX HN HM) a w5.drew o := by
  obtain ⟨hd, hop, hg⟩ := op_of ho (show _ = some (some 88, .move (.tmp 87), none) by kernel_rfl)
  exact fs_move (Want.plain hg) 88 87 hd hop (Dep.at K.hn ho (by kernel_rfl)).mem (Dep.at K.hn ho (by kernel_rfl)).lt (Dep.at K.hn ho (by kernel_rfl)).dep (fun _ _ h => h)
theorem kst71 {Q : Exit → Act → World → Prop} {a : Act} {w w5 : World} {HX HN HM : Array Value} {b1 b2 b3 : Nat} (K : KCtx a w w5 HX HN HM b1 b2 b3) (o : Oper) (ho : kOps[71]? = some o) : FStep Tryd.prog kOps Q (kF w5.drew.heap.size HX HN HM) a w5.drew o := by
  obtain ⟨hd, hop, hg⟩ := op_of ho (show _ = some (some 89, .buildSlice 30 2 #[(0, .const (.int .u8 1)), (1, .const (.int .u8 2))], some (70, true)) by kernel_rfl)
  exact fs_raw (Want.dep 70 true 88 hg (by kernel_rfl) (Dep.at K.hn ho (by kernel_rfl)) rfl) 89 hd 5 [1, 2] rfl (fun vals w' => by unfold execOp; simp only [hop]; first | (go_simp; done) | (go_simp; rfl))
theorem kst72 {Q : Exit → Act → World → Prop} {a : Act} {w w5 : World} {HX HN HM : Array Value} {b1 b2 b3 : Nat} (K : KCtx a w w5 HX HN HM b1 b2 b3) (o : Oper) (ho : kOps[72]? = some o) : FStep Tryd.prog kOps Q (kF w5.drew.heap.size HX HN HM) a w5.drew o := by
  obtain ⟨hd, hop, hg⟩ := op_of ho (show _ = some (some 90, .buildSlice 30 2 #[(0, .const (.int .u8 1)), (1, .const (.int .u8 3))], some (70, true)) by kernel_rfl)
  exact fs_raw (Want.dep 70 true 88 hg (by kernel_rfl) (Dep.at K.hn ho (by kernel_rfl)) rfl) 90 hd 5 [1, 3] rfl (fun vals w' => by unfold execOp; simp only [hop]; first | (go_simp; done) | (go_simp; rfl))
theorem kst73 {Q : Exit → Act → World → Prop} {a : Act} {w w5 : World} {HX HN HM : Array Value} {b1 b2 b3 : Nat} (K : KCtx a w w5 HX HN HM b1 b2 b3) (o : Oper) (ho : kOps[73]? = some o) : FStep Tryd.prog kOps Q (kF w5.drew.heap.size HX HN HM) a w5.drew o := by
  obtain ⟨hd, hop, hg⟩ := op_of ho (show _ = some (some 91, .call { callee := .value (.func 22), args := #[.tmp 89, .tmp 90], argTypes := #[30, 30] }, some (70, true)) by kernel_rfl)
  exact fs_call (Want.dep 70 true 88 hg (by kernel_rfl) (Dep.at K.hn ho (by kernel_rfl)) rfl) 91 hd 22 _ _ hop _ Tryd.func22 (by kernel_rfl) (by kernel_rfl) (fun vals w' hF hv => ⟨.bool false, by rw [map2 (Dep.at K.hn ho (by kernel_rfl)).eval (Dep.at K.hn ho (by kernel_rfl)).eval]; exact same_lit [1, 2] [1, 3] false (by decide) (by decide) (by decide) _ _ w' (Fact.raw_bytes (hv 89 (Dep.at K.hn ho (by kernel_rfl)).dep)) (Fact.raw_bytes (hv 90 (Dep.at K.hn ho (by kernel_rfl)).dep)), fun _ _ => rfl⟩)
theorem kst74 {Q : Exit → Act → World → Prop} {a : Act} {w w5 : World} {HX HN HM : Array Value} {b1 b2 b3 : Nat} (K : KCtx a w w5 HX HN HM b1 b2 b3) (o : Oper) (ho : kOps[74]? = some o) : FStep Tryd.prog kOps Q (kF w5.drew.heap.size HX HN HM) a w5.drew o := by
  obtain ⟨hd, hop, hg⟩ := op_of ho (show _ = some (some 92, .unOp .not 4 (.tmp 91), some (70, true)) by kernel_rfl)
  exact fs_not (Want.dep 70 true 88 hg (by kernel_rfl) (Dep.at K.hn ho (by kernel_rfl)) rfl) 92 91 _ false hd hop (Dep.at K.hn ho (by kernel_rfl)) rfl rfl
theorem kst75 {Q : Exit → Act → World → Prop} {a : Act} {w w5 : World} {HX HN HM : Array Value} {b1 b2 b3 : Nat} (K : KCtx a w w5 HX HN HM b1 b2 b3) (o : Oper) (ho : kOps[75]? = some o) : FStep Tryd.prog kOps Q (kF w5.drew.heap.size HX HN HM) a w5.drew o := by
  obtain ⟨hd, hop, hg⟩ := op_of ho (show _ = some (some 93, .pick (.tmp 88) (.tmp 92) (.const (.bool false)), none) by kernel_rfl)
  exact fs_pick (Want.plain hg) 93 88 92 _ hd hop (Dep.at K.hn ho (by kernel_rfl)) (Dep.at K.hn ho (by kernel_rfl)) rfl rfl rfl
theorem kst76 {Q : Exit → Act → World → Prop} {a : Act} {w w5 : World} {HX HN HM : Array Value} {b1 b2 b3 : Nat} (K : KCtx a w w5 HX HN HM b1 b2 b3) (o : Oper) (ho : kOps[76]? = some o) : FStep Tryd.prog kOps Q (kF w5.drew.heap.size HX HN HM) a w5.drew o := by
  obtain ⟨hd, hop, hg⟩ := op_of ho (show _ = some (some 94, .move (.tmp 93), none) by kernel_rfl)
  exact fs_move (Want.plain hg) 94 93 hd hop (Dep.at K.hn ho (by kernel_rfl)).mem (Dep.at K.hn ho (by kernel_rfl)).lt (Dep.at K.hn ho (by kernel_rfl)).dep (fun _ _ h => h)
theorem kst77 {Q : Exit → Act → World → Prop} {a : Act} {w w5 : World} {HX HN HM : Array Value} {b1 b2 b3 : Nat} (K : KCtx a w w5 HX HN HM b1 b2 b3) (o : Oper) (ho : kOps[77]? = some o) : FStep Tryd.prog kOps Q (kF w5.drew.heap.size HX HN HM) a w5.drew o := by
  obtain ⟨hd, hop, hg⟩ := op_of ho (show _ = some (some 95, .buildSlice 30 2 #[(0, .const (.int .u8 2)), (1, .const (.int .u8 2))], some (76, true)) by kernel_rfl)
  exact fs_raw (Want.dep 76 true 94 hg (by kernel_rfl) (Dep.at K.hn ho (by kernel_rfl)) rfl) 95 hd 5 [2, 2] rfl (fun vals w' => by unfold execOp; simp only [hop]; first | (go_simp; done) | (go_simp; rfl))
theorem kst78 {Q : Exit → Act → World → Prop} {a : Act} {w w5 : World} {HX HN HM : Array Value} {b1 b2 b3 : Nat} (K : KCtx a w w5 HX HN HM b1 b2 b3) (o : Oper) (ho : kOps[78]? = some o) : FStep Tryd.prog kOps Q (kF w5.drew.heap.size HX HN HM) a w5.drew o := by
  obtain ⟨hd, hop, hg⟩ := op_of ho (show _ = some (some 96, .buildSlice 30 2 #[(0, .const (.int .u8 1)), (1, .const (.int .u8 2))], some (76, true)) by kernel_rfl)
  exact fs_raw (Want.dep 76 true 94 hg (by kernel_rfl) (Dep.at K.hn ho (by kernel_rfl)) rfl) 96 hd 5 [1, 2] rfl (fun vals w' => by unfold execOp; simp only [hop]; first | (go_simp; done) | (go_simp; rfl))
theorem kst79 {Q : Exit → Act → World → Prop} {a : Act} {w w5 : World} {HX HN HM : Array Value} {b1 b2 b3 : Nat} (K : KCtx a w w5 HX HN HM b1 b2 b3) (o : Oper) (ho : kOps[79]? = some o) : FStep Tryd.prog kOps Q (kF w5.drew.heap.size HX HN HM) a w5.drew o := by
  obtain ⟨hd, hop, hg⟩ := op_of ho (show _ = some (some 97, .call { callee := .value (.func 22), args := #[.tmp 95, .tmp 96], argTypes := #[30, 30] }, some (76, true)) by kernel_rfl)
  exact fs_call (Want.dep 76 true 94 hg (by kernel_rfl) (Dep.at K.hn ho (by kernel_rfl)) rfl) 97 hd 22 _ _ hop _ Tryd.func22 (by kernel_rfl) (by kernel_rfl) (fun vals w' hF hv => ⟨.bool false, by rw [map2 (Dep.at K.hn ho (by kernel_rfl)).eval (Dep.at K.hn ho (by kernel_rfl)).eval]; exact same_lit [2, 2] [1, 2] false (by decide) (by decide) (by decide) _ _ w' (Fact.raw_bytes (hv 95 (Dep.at K.hn ho (by kernel_rfl)).dep)) (Fact.raw_bytes (hv 96 (Dep.at K.hn ho (by kernel_rfl)).dep)), fun _ _ => rfl⟩)
theorem kst80 {Q : Exit → Act → World → Prop} {a : Act} {w w5 : World} {HX HN HM : Array Value} {b1 b2 b3 : Nat} (K : KCtx a w w5 HX HN HM b1 b2 b3) (o : Oper) (ho : kOps[80]? = some o) : FStep Tryd.prog kOps Q (kF w5.drew.heap.size HX HN HM) a w5.drew o := by
  obtain ⟨hd, hop, hg⟩ := op_of ho (show _ = some (some 98, .unOp .not 4 (.tmp 97), some (76, true)) by kernel_rfl)
  exact fs_not (Want.dep 76 true 94 hg (by kernel_rfl) (Dep.at K.hn ho (by kernel_rfl)) rfl) 98 97 _ false hd hop (Dep.at K.hn ho (by kernel_rfl)) rfl rfl
theorem kst81 {Q : Exit → Act → World → Prop} {a : Act} {w w5 : World} {HX HN HM : Array Value} {b1 b2 b3 : Nat} (K : KCtx a w w5 HX HN HM b1 b2 b3) (o : Oper) (ho : kOps[81]? = some o) : FStep Tryd.prog kOps Q (kF w5.drew.heap.size HX HN HM) a w5.drew o := by
  obtain ⟨hd, hop, hg⟩ := op_of ho (show _ = some (some 99, .pick (.tmp 94) (.tmp 98) (.const (.bool false)), none) by kernel_rfl)
  exact fs_pick (Want.plain hg) 99 94 98 _ hd hop (Dep.at K.hn ho (by kernel_rfl)) (Dep.at K.hn ho (by kernel_rfl)) rfl rfl rfl
theorem kst82 {Q : Exit → Act → World → Prop} {a : Act} {w w5 : World} {HX HN HM : Array Value} {b1 b2 b3 : Nat} (K : KCtx a w w5 HX HN HM b1 b2 b3) (o : Oper) (ho : kOps[82]? = some o) : FStep Tryd.prog kOps Q (kF w5.drew.heap.size HX HN HM) a w5.drew o := by
  obtain ⟨hd, hop, hg⟩ := op_of ho (show _ = some (some 0, .assign (.tmp 99), none) by kernel_rfl)
  exact fs_assign (Want.plain hg) 0 99 hd hop (Dep.at K.hn ho (by kernel_rfl)).mem (Dep.at K.hn ho (by kernel_rfl)).lt (Dep.at K.hn ho (by kernel_rfl)).dep (fun _ _ h => h)
theorem kLen : kOps.length = 83 := by kernel_rfl
theorem known_region {Q : Exit → Act → World → Prop} {id : Nat} {a : Act} {w w5 : World} {HX HN HM : Array Value} {b1 b2 b3 : Nat} (K : KCtx a w w5 HX HN HM b1 b2 b3)
    (hQ : ∀ (a' : Act) (w' : World), Fr0 w5 w' → a'.defers = a.defers → a'.eval (.tmp 0) = .bool true → Q .normal a' w') : (Code.region id kOps.toArray true).wp Tryd.prog Q a w5 := by
  refine region_facts' (kF w5.drew.heap.size HX HN HM) (by kernel_rfl) (by kernel_rfl) (by rw [K.hn]; kernel_rfl) (fun i o ho => ?_) (fun vals w' hF hv => ?_)
  · have hi : i < 83 := by rw [← kLen]; exact (List.getElem?_eq_some_iff.1 ho).1
    match i, hi, ho with
    | 0, _, ho => exact kst0 K o ho
    | 1, _, ho => exact kst1 K o ho
    | 2, _, ho => exact kst2 K o ho
    | 3, _, ho => exact kst3 K o ho
    | 4, _, ho => exact kst4 K o ho
    | 5, _, ho => exact kst5 K o ho
    | 6, _, ho => exact kst6 K o ho
    | 7, _, ho => exact kst7 K o ho
    | 8, _, ho => exact kst8 K o ho
    | 9, _, ho => exact kst9 K o ho
    | 10, _, ho => exact kst10 K o ho
    | 11, _, ho => exact kst11 K o ho
    | 12, _, ho => exact kst12 K o ho
    | 13, _, ho => exact kst13 K o ho
    | 14, _, ho => exact kst14 K o ho
    | 15, _, ho => exact kst15 K o ho
    | 16, _, ho => exact kst16 K o ho
    | 17, _, ho => exact kst17 K o ho
    | 18, _, ho => exact kst18 K o ho
    | 19, _, ho => exact kst19 K o ho
    | 20, _, ho => exact kst20 K o ho
    | 21, _, ho => exact kst21 K o ho
    | 22, _, ho => exact kst22 K o ho
    | 23, _, ho => exact kst23 K o ho
    | 24, _, ho => exact kst24 K o ho
    | 25, _, ho => exact kst25 K o ho
    | 26, _, ho => exact kst26 K o ho
    | 27, _, ho => exact kst27 K o ho
    | 28, _, ho => exact kst28 K o ho
    | 29, _, ho => exact kst29 K o ho
    | 30, _, ho => exact kst30 K o ho
    | 31, _, ho => exact kst31 K o ho
    | 32, _, ho => exact kst32 K o ho
    | 33, _, ho => exact kst33 K o ho
    | 34, _, ho => exact kst34 K o ho
    | 35, _, ho => exact kst35 K o ho
    | 36, _, ho => exact kst36 K o ho
    | 37, _, ho => exact kst37 K o ho
    | 38, _, ho => exact kst38 K o ho
    | 39, _, ho => exact kst39 K o ho
    | 40, _, ho => exact kst40 K o ho
    | 41, _, ho => exact kst41 K o ho
    | 42, _, ho => exact kst42 K o ho
    | 43, _, ho => exact kst43 K o ho
    | 44, _, ho => exact kst44 K o ho
    | 45, _, ho => exact kst45 K o ho
    | 46, _, ho => exact kst46 K o ho
    | 47, _, ho => exact kst47 K o ho
    | 48, _, ho => exact kst48 K o ho
    | 49, _, ho => exact kst49 K o ho
    | 50, _, ho => exact kst50 K o ho
    | 51, _, ho => exact kst51 K o ho
    | 52, _, ho => exact kst52 K o ho
    | 53, _, ho => exact kst53 K o ho
    | 54, _, ho => exact kst54 K o ho
    | 55, _, ho => exact kst55 K o ho
    | 56, _, ho => exact kst56 K o ho
    | 57, _, ho => exact kst57 K o ho
    | 58, _, ho => exact kst58 K o ho
    | 59, _, ho => exact kst59 K o ho
    | 60, _, ho => exact kst60 K o ho
    | 61, _, ho => exact kst61 K o ho
    | 62, _, ho => exact kst62 K o ho
    | 63, _, ho => exact kst63 K o ho
    | 64, _, ho => exact kst64 K o ho
    | 65, _, ho => exact kst65 K o ho
    | 66, _, ho => exact kst66 K o ho
    | 67, _, ho => exact kst67 K o ho
    | 68, _, ho => exact kst68 K o ho
    | 69, _, ho => exact kst69 K o ho
    | 70, _, ho => exact kst70 K o ho
    | 71, _, ho => exact kst71 K o ho
    | 72, _, ho => exact kst72 K o ho
    | 73, _, ho => exact kst73 K o ho
    | 74, _, ho => exact kst74 K o ho
    | 75, _, ho => exact kst75 K o ho
    | 76, _, ho => exact kst76 K o ho
    | 77, _, ho => exact kst77 K o ho
    | 78, _, ho => exact kst78 K o ho
    | 79, _, ho => exact kst79 K o ho
    | 80, _, ho => exact kst80 K o ho
    | 81, _, ho => exact kst81 K o ho
    | 82, _, ho => exact kst82 K o ho
  · refine hQ _ w' (Fr.trans' ((Fr.refl _ _).drew) hF) rfl ?_
    have hm : (0 : Nat) ∈ dsts kOps := List.contains_iff_mem.1 (by kernel_rfl)
    rw [frm_eval a _ vals 0 hm (by rw [K.hn]; decide)]
    exact hv 0 hm
end Go.Proofs.YtmmcnoapkdhgpaaDoor.Mac
