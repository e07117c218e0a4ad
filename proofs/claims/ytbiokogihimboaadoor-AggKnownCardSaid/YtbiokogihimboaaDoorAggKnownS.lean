/-
  AggKnown's last drawn statement, over any frame.
-/
import Derived.Test.YtbiokogihimboaaDoorAggKnownR
import Derived.Test.YtbiokogihimboaaDoorFactsL
namespace Go.Proofs.YtbiokogihimboaaDoor.AggL
open Go.RowKit Base _root_.Go.Proofs.YtbiokogihimboaaDoor.Series _root_.Go.Proofs.YtbiokogihimboaaDoor.Agg _root_.Go.Proofs.YtbiokogihimboaaDoor.Pack

theorem bytes_at' {w : World} {a1 : Option Addr} {n cap : Nat} {l : List UInt8} (h : BytesIs w (.slice a1 n cap) l) (h40 : 15 < l.length) : ∃ pb po, a1 = some ⟨pb, po, none⟩ ∧ (∀ wr, Fr0 w wr → wr.cell? ⟨pb, po + 7, none⟩ = some (.int .u8 ((l.getD 7 0).toNat : Int))) ∧ (∀ wr, Fr0 w wr → wr.cell? ⟨pb, po + 15, none⟩ = some (.int .u8 ((l.getD 15 0).toNat : Int))) := by
  obtain ⟨a, c, pb, po, hv, _, ha, hc⟩ := h
  simp only [Value.slice.injEq] at hv
  obtain ⟨rfl, _, _⟩ := hv
  have h1 := hc 7 (by omega)
  have h2 := hc 15 (by omega)
  exact ⟨pb, po, ha (by omega), fun wr hf => (hf.cell (p := ⟨pb, po + 7, none⟩) (World.block_lt_of_cell? w _ h1) (fun f => f)).trans h1, fun wr hf => (hf.cell (p := ⟨pb, po + 15, none⟩) (World.block_lt_of_cell? w _ h2) (fun f => f)).trans h2⟩
noncomputable def akOps : List Oper := (((Tryd.f3.body.bind (regionOps 15))).getD #[]).toList
structure akCtx (g : Nat) (gx : Nat) (gn : Nat) (gy : Nat) (gz : Nat) (pe : Nat) (po : Nat) (Ce : Nat) (Sg : Option Addr) (Tg : Nat) (Al : Option Addr) (Cl : Nat) (a : Act) (W : World) : Prop where
  hn : a.tmps.size = 217
  h1 : a.eval (.tmp 1) = .int .i64 9223372036854775807
  h3 : a.eval (.tmp 3) = .pointer (some ⟨g, 0, none⟩)
  h4 : a.eval (.tmp 4) = .pointer (some ⟨g + 1, 0, none⟩)
  h5 : a.eval (.tmp 5) = .pointer (some ⟨g + 1 + 1, 0, none⟩)
  h6 : a.eval (.tmp 6) = .pointer (some ⟨g + 1 + 1 + 1, 0, none⟩)
  h7 : a.eval (.tmp 7) = .slice (some ⟨pe, po, none⟩) 40 Ce
  h8 : a.eval (.tmp 8) = .int .i64 0
  h9 : a.eval (.tmp 9) = .slice Sg 8 Tg
  h10 : a.eval (.tmp 10) = .int .i64 0
  h12 : a.eval (.tmp 12) = .int .i64 9
  h14 : a.eval (.tmp 14) = .int .i64 1
  h16 : a.eval (.tmp 16) = .int .i64 1
  h17 : a.eval (.tmp 17) = .slice Al 8 Cl
  h18 : a.eval (.tmp 18) = .int .i64 0
  h19 : a.eval (.tmp 19) = .pointer (some ⟨gn, 0, none⟩)
  h20 : a.eval (.tmp 20) = .pointer (some ⟨gx, 0, none⟩)
  h21 : a.eval (.tmp 21) = .pointer (some ⟨gy, 0, none⟩)
  h22 : a.eval (.tmp 22) = .pointer (some ⟨gz, 0, none⟩)
  c0 : ∀ X, Fr0 W X → X.cell? ⟨g, 5, none⟩ = some (.bool true)
  c1 : ∀ X, Fr0 W X → X.cell? ⟨g, 1, none⟩ = some (.int .i64 0)
  c2 : ∀ X, Fr0 W X → X.cell? ⟨g, 3, none⟩ = some (.int .i64 9223372036854775807)
  c3 : ∀ X, Fr0 W X → X.cell? ⟨g + 1, 5, none⟩ = some (.bool false)
  c4 : ∀ X, Fr0 W X → X.cell? ⟨g + 1, 1, none⟩ = some (.int .i64 9223372036854775807)
  c5 : ∀ X, Fr0 W X → X.cell? ⟨g + 1 + 1, 5, none⟩ = some (.bool true)
  c6 : ∀ X, Fr0 W X → X.cell? ⟨g + 1 + 1 + 1, 5, none⟩ = some (.bool false)
  c7 : ∀ X, Fr0 W X → X.cell? ⟨g + 1 + 1 + 1, 1, none⟩ = some (.int .i64 0)
  c8 : ∀ X, Fr0 W X → X.cell? ⟨gx, 5, none⟩ = some (.bool true)
  c9 : ∀ X, Fr0 W X → X.cell? ⟨gx, 0, none⟩ = some (.int .i64 2)
  c10 : ∀ X, Fr0 W X → X.cell? ⟨pe, po + 7, none⟩ = some (.int .u8 2)
  c11 : ∀ X, Fr0 W X → X.cell? ⟨pe, po + 15, none⟩ = some (.int .u8 12)
  r0 : ∀ X, Fr0 W X → X.heap[gn]? = some (.cells #[.int .i64 0, .int .i64 0, .int .i64 0, .int .i64 0, .int .i64 0, .bool false] 24 (0, 0))
  r1 : ∀ X, Fr0 W X → X.heap[gy]? = some (.cells #[.int .i64 2, .int .i64 6, .int .i64 2, .int .i64 4, .int .i64 2, .bool false] 24 (0, 0))
  r2 : ∀ X, Fr0 W X → X.heap[gz]? = some (.cells #[.int .i64 2, .int .i64 6, .int .i64 2, .int .i64 4, .int .i64 2, .bool false] 24 (0, 0))
  r3 : ∀ X, Fr0 W X → X.heap[g]? = some (.cells #[.int .i64 2, .int .i64 0, .int .i64 1, .int .i64 9223372036854775807, .int .i64 1, .bool true] 24 (0, 0))
  pl : ∀ X, Fr0 W X → BytesIs X (.slice Al 8 Cl) [255, 255, 255, 255, 255, 255, 255, 255]
  laid : Laid W
def akF (g : Nat) (gx : Nat) (gn : Nat) (gy : Nat) (gz : Nat) (pe : Nat) (po : Nat) (Ce : Nat) (Sg : Option Addr) (Tg : Nat) (Al : Option Addr) (Cl : Nat) : Nat → Value → World → Prop
  | 97 => fun v _ => v = .pointer (some ⟨g, 5, none⟩)
  | 98 => fun v _ => v = .bool true
  | 99 => fun v _ => v = .bool true
  | 100 => fun v _ => v = .pointer (some ⟨g, 1, none⟩)
  | 101 => fun v _ => v = .int .i64 0
  | 102 => fun v _ => v = .bool true
  | 103 => fun v _ => v = .bool true
  | 104 => fun v _ => v = .bool true
  | 105 => fun v _ => v = .pointer (some ⟨g, 3, none⟩)
  | 106 => fun v _ => v = .int .i64 9223372036854775807
  | 107 => fun v _ => v = .int .i64 9223372036854775807
  | 108 => fun v _ => v = .bool true
  | 109 => fun v _ => v = .bool true
  | 110 => fun v _ => v = .bool true
  | 111 => fun v _ => v = .pointer (some ⟨g + 1, 5, none⟩)
  | 112 => fun v _ => v = .bool false
  | 113 => fun v _ => v = .bool true
  | 114 => fun v _ => v = .bool true
  | 115 => fun v _ => v = .bool true
  | 116 => fun v _ => v = .pointer (some ⟨g + 1, 1, none⟩)
  | 117 => fun v _ => v = .int .i64 9223372036854775807
  | 118 => fun v _ => v = .int .i64 9223372036854775807
  | 119 => fun v _ => v = .bool true
  | 120 => fun v _ => v = .bool true
  | 121 => fun v _ => v = .bool true
  | 122 => fun v _ => v = .pointer (some ⟨g + 1 + 1, 5, none⟩)
  | 123 => fun v _ => v = .bool true
  | 124 => fun v _ => v = .bool true
  | 125 => fun v _ => v = .bool true
  | 126 => fun v _ => v = .pointer (some ⟨g + 1 + 1 + 1, 5, none⟩)
  | 127 => fun v _ => v = .bool false
  | 128 => fun v _ => v = .bool true
  | 129 => fun v _ => v = .bool true
  | 130 => fun v _ => v = .bool true
  | 131 => fun v _ => v = .pointer (some ⟨g + 1 + 1 + 1, 1, none⟩)
  | 132 => fun v _ => v = .int .i64 0
  | 133 => fun v _ => v = .bool true
  | 134 => fun v _ => v = .bool true
  | 135 => fun v _ => v = .bool true
  | 136 => fun v _ => v = .int .i64 0
  | 137 => fun v _ => v = .bool true
  | 138 => fun v _ => v = .bool true
  | 139 => fun v _ => v = .bool true
  | 140 => fun v _ => v = .slice (some ⟨pe, po, none⟩) 40 Ce
  | 141 => fun v _ => v = .int .i64 40
  | 142 => fun v _ => v = .bool true
  | 143 => fun v _ => v = .bool true
  | 144 => fun v _ => v = .bool true
  | 145 => fun v _ => v = .slice (some ⟨pe, po, none⟩) 40 Ce
  | 146 => fun v _ => v = .pointer (some ⟨pe, po + 7, none⟩)
  | 147 => fun v _ => v = .int .u8 2
  | 148 => fun v _ => v = .bool true
  | 149 => fun v _ => v = .bool true
  | 150 => fun v _ => v = .bool true
  | 151 => fun v _ => v = .slice (some ⟨pe, po, none⟩) 40 Ce
  | 152 => fun v _ => v = .pointer (some ⟨pe, po + 15, none⟩)
  | 153 => fun v _ => v = .int .u8 12
  | 154 => fun v _ => v = .bool true
  | 155 => fun v _ => v = .bool true
  | 156 => fun v _ => v = .bool true
  | 157 => fun v _ => v = .int .i64 0
  | 158 => fun v _ => v = .bool true
  | 159 => fun v _ => v = .bool true
  | 160 => fun v _ => v = .bool true
  | 161 => fun v _ => v = .slice Sg 8 Tg
  | 162 => fun v _ => v = .int .i64 8
  | 163 => fun v _ => v = .bool true
  | 164 => fun v _ => v = .bool true
  | 165 => fun v _ => v = .bool true
  | 166 => fun v _ => v = .int .i64 9
  | 167 => fun v _ => v = .bool true
  | 168 => fun v _ => v = .bool true
  | 169 => fun v _ => v = .bool true
  | 170 => fun v _ => v = .int .i64 1
  | 171 => fun v _ => v = .bool true
  | 172 => fun v _ => v = .bool true
  | 173 => fun v _ => v = .bool true
  | 174 => fun v _ => v = .int .i64 1
  | 175 => fun v _ => v = .bool true
  | 176 => fun v _ => v = .bool true
  | 177 => fun v _ => v = .bool true
  | 178 => fun v _ => v = .int .i64 0
  | 179 => fun v _ => v = .bool true
  | 180 => fun v _ => v = .bool true
  | 181 => fun v _ => v = .bool true
  | 182 => fun v _ => v = .slice Al 8 Cl
  | 183 => fun v _ => v = .string ⟨([255, 255, 255, 255, 255, 255, 255, 255] : List UInt8).toArray⟩
  | 184 => fun v _ => v = .bool true
  | 185 => fun v _ => v = .bool true
  | 186 => fun v _ => v = .bool true
  | 187 => fun v _ => v = .agg #[.int .i64 0, .int .i64 0, .int .i64 0, .int .i64 0, .int .i64 0, .bool false]
  | 188 => fun v _ => v = .agg #[.int .i64 0, .int .i64 0, .int .i64 0, .int .i64 0, .int .i64 0, .bool false]
  | 189 => fun v _ => v = .bool true
  | 190 => fun v _ => v = .bool true
  | 191 => fun v _ => v = .bool true
  | 192 => fun v _ => v = .pointer (some ⟨gx, 5, none⟩)
  | 193 => fun v _ => v = .bool true
  | 194 => fun v _ => v = .bool true
  | 195 => fun v _ => v = .bool true
  | 196 => fun v _ => v = .pointer (some ⟨gx, 0, none⟩)
  | 197 => fun v _ => v = .int .i64 2
  | 198 => fun v _ => v = .bool true
  | 199 => fun v _ => v = .bool true
  | 200 => fun v _ => v = .bool true
  | 201 => fun v _ => v = .agg #[.int .i64 2, .int .i64 6, .int .i64 2, .int .i64 4, .int .i64 2, .bool false]
  | 202 => fun v w => IntsIs w v [4, 2]
  | 203 => fun v w => PairsIs w v (valsOf [4, 2])
  | 204 => fun v _ => v = .agg #[.int .i64 2, .int .i64 6, .int .i64 2, .int .i64 4, .int .i64 2, .bool false]
  | 205 => fun v _ => v = .bool true
  | 206 => fun v _ => v = .bool true
  | 207 => fun v _ => v = .bool true
  | 208 => fun v _ => v = .agg #[.int .i64 2, .int .i64 6, .int .i64 2, .int .i64 4, .int .i64 2, .bool false]
  | 209 => fun v _ => v = .agg #[.int .i64 2, .int .i64 6, .int .i64 2, .int .i64 4, .int .i64 2, .bool false]
  | 210 => fun v _ => v = .bool true
  | 211 => fun v _ => v = .bool true
  | 212 => fun v _ => v = .bool true
  | 213 => fun v _ => v = .agg #[.int .i64 2, .int .i64 0, .int .i64 1, .int .i64 9223372036854775807, .int .i64 1, .bool true]
  | 214 => fun v _ => v = .string ⟨([99, 111, 117, 110, 116, 32, 50, 32, 115, 117, 109, 32, 111, 118, 101, 114, 32, 109, 105, 110, 32, 49, 32, 109, 97, 120, 32, 57, 50, 50, 51, 51, 55, 50, 48, 51, 54, 56, 53, 52, 55, 55, 53, 56, 48, 55, 32, 108, 97, 115, 116, 32, 49] : List UInt8).toArray⟩
  | 215 => fun v _ => v = .bool true
  | 216 => fun v _ => v = .bool true
  | 0 => fun v _ => v = .bool true
  | _ => fun _ _ => True
theorem akmono (g : Nat) (gx : Nat) (gn : Nat) (gy : Nat) (gz : Nat) (pe : Nat) (po : Nat) (Ce : Nat) (Sg : Option Addr) (Tg : Nat) (Al : Option Addr) (Cl : Nat) (d : Nat) (v : Value) (w w' : World) (hf : Fr0 w w') (h : akF g gx gn gy gz pe po Ce Sg Tg Al Cl d v w) : akF g gx gn gy gz pe po Ce Sg Tg Al Cl d v w' := by
  unfold akF at h ⊢
  split at h
  · exact h
  · exact h
  · exact h
  · exact h
  · exact h
  · exact h
  · exact h
  · exact h
  · exact h
  · exact h
  · exact h
  · exact h
  · exact h
  · exact h
  · exact h
  · exact h
  · exact h
  · exact h
  · exact h
  · exact h
  · exact h
  · exact h
  · exact h
  · exact h
  · exact h
  · exact h
  · exact h
  · exact h
  · exact h
  · exact h
  · exact h
  · exact h
  · exact h
  · exact h
  · exact h
  · exact h
  · exact h
  · exact h
  · exact h
  · exact h
  · exact h
  · exact h
  · exact h
  · exact h
  · exact h
  · exact h
  · exact h
  · exact h
  · exact h
  · exact h
  · exact h
  · exact h
  · exact h
  · exact h
  · exact h
  · exact h
  · exact h
  · exact h
  · exact h
  · exact h
  · exact h
  · exact h
  · exact h
  · exact h
  · exact h
  · exact h
  · exact h
  · exact h
  · exact h
  · exact h
  · exact h
  · exact h
  · exact h
  · exact h
  · exact h
  · exact h
  · exact h
  · exact h
  · exact h
  · exact h
  · exact h
  · exact h
  · exact h
  · exact h
  · exact h
  · exact h
  · exact h
  · exact h
  · exact h
  · exact h
  · exact h
  · exact h
  · exact h
  · exact h
  · exact h
  · exact h
  · exact h
  · exact h
  · exact h
  · exact h
  · exact h
  · exact h
  · exact h
  · exact h
  · exact h
  · exact ints_fr0 h hf
  · exact h.fr0 hf
  · exact h
  · exact h
  · exact h
  · exact h
  · exact h
  · exact h
  · exact h
  · exact h
  · exact h
  · exact h
  · exact h
  · exact h
  · exact h
  · exact h
  · trivial
theorem akst0 {Q : Exit → Act → World → Prop} {a : Act} {W : World} {g : Nat} {gx : Nat} {gn : Nat} {gy : Nat} {gz : Nat} {pe : Nat} {po : Nat} {Ce : Nat} {Sg : Option Addr} {Tg : Nat} {Al : Option Addr} {Cl : Nat} (K : akCtx g gx gn gy gz pe po Ce Sg Tg Al Cl a W) (o : Oper) (ho : akOps[0]? = some o) : Loose.Step Tryd.prog akOps Q (akF g gx gn gy gz pe po Ce Sg Tg Al Cl) a W.drew o := by
  obtain ⟨hd, hop, hg⟩ := Loose.op_of ho (show _ = some (some 97, .fieldAddr 24 (.tmp 3) 5, none) by kernel_rfl)
  have D : ∀ {k : Nat}, Loose.depBi akOps 217 0 k = true → Loose.Dep akOps a o k := fun h => Loose.Dep.at K.hn ho h
  exact Loose.isW (Loose.Want.plain hg) 97 hd (.pointer (some ⟨g, 5, none⟩)) (fun _ => rfl) fun vals w' hF hdep => by
    have e1 : (frm a (dsts akOps) vals).eval (.tmp 3) = .pointer (some ⟨g, 0, none⟩) := (frm_eval_old a _ vals 3 (by kernel_rfl)).trans K.h3; unfold execOp; simp only [hop, e1]; first | (go_simp; done) | (go_simp; rfl)
theorem akst1 {Q : Exit → Act → World → Prop} {a : Act} {W : World} {g : Nat} {gx : Nat} {gn : Nat} {gy : Nat} {gz : Nat} {pe : Nat} {po : Nat} {Ce : Nat} {Sg : Option Addr} {Tg : Nat} {Al : Option Addr} {Cl : Nat} (K : akCtx g gx gn gy gz pe po Ce Sg Tg Al Cl a W) (o : Oper) (ho : akOps[1]? = some o) : Loose.Step Tryd.prog akOps Q (akF g gx gn gy gz pe po Ce Sg Tg Al Cl) a W.drew o := by
  obtain ⟨hd, hop, hg⟩ := Loose.op_of ho (show _ = some (some 98, .load 4 (.tmp 97), none) by kernel_rfl)
  have D : ∀ {k : Nat}, Loose.depBi akOps 217 1 k = true → Loose.Dep akOps a o k := fun h => Loose.Dep.at K.hn ho h
  exact Loose.isW (Loose.Want.plain hg) 98 hd (.bool true) (fun _ => rfl) fun vals w' hF hdep => by
    have e1 : (frm a (dsts akOps) vals).eval (.tmp 97) = .pointer (some ⟨g, 5, none⟩) := (D (k := 97) (by kernel_rfl)).eval.trans (hdep 97 (D (k := 97) (by kernel_rfl)).dep); have hc := K.c0 w' (Fr.trans' (Fr.refl _ _).drew hF); unfold execOp; simp only [hop, e1]; first | (go_simp; done) | (go_simp; rfl)
theorem akst2 {Q : Exit → Act → World → Prop} {a : Act} {W : World} {g : Nat} {gx : Nat} {gn : Nat} {gy : Nat} {gz : Nat} {pe : Nat} {po : Nat} {Ce : Nat} {Sg : Option Addr} {Tg : Nat} {Al : Option Addr} {Cl : Nat} (K : akCtx g gx gn gy gz pe po Ce Sg Tg Al Cl a W) (o : Oper) (ho : akOps[2]? = some o) : Loose.Step Tryd.prog akOps Q (akF g gx gn gy gz pe po Ce Sg Tg Al Cl) a W.drew o := by
  obtain ⟨hd, hop, hg⟩ := Loose.op_of ho (show _ = some (some 99, .move (.tmp 98), none) by kernel_rfl)
  have D : ∀ {k : Nat}, Loose.depBi akOps 217 2 k = true → Loose.Dep akOps a o k := fun h => Loose.Dep.at K.hn ho h
  exact Loose.isW (Loose.Want.plain hg) 99 hd (.bool true) (fun _ => rfl) fun vals w' hF hdep => by
    have e1 : (frm a (dsts akOps) vals).eval (.tmp 98) = .bool true := (D (k := 98) (by kernel_rfl)).eval.trans (hdep 98 (D (k := 98) (by kernel_rfl)).dep); unfold execOp; simp only [hop, e1]; first | (go_simp; done) | (go_simp; rfl)
theorem akst3 {Q : Exit → Act → World → Prop} {a : Act} {W : World} {g : Nat} {gx : Nat} {gn : Nat} {gy : Nat} {gz : Nat} {pe : Nat} {po : Nat} {Ce : Nat} {Sg : Option Addr} {Tg : Nat} {Al : Option Addr} {Cl : Nat} (K : akCtx g gx gn gy gz pe po Ce Sg Tg Al Cl a W) (o : Oper) (ho : akOps[3]? = some o) : Loose.Step Tryd.prog akOps Q (akF g gx gn gy gz pe po Ce Sg Tg Al Cl) a W.drew o := by
  obtain ⟨hd, hop, hg⟩ := Loose.op_of ho (show _ = some (some 100, .fieldAddr 24 (.tmp 3) 1, some (2, true)) by kernel_rfl)
  have D : ∀ {k : Nat}, Loose.depBi akOps 217 3 k = true → Loose.Dep akOps a o k := fun h => Loose.Dep.at K.hn ho h
  exact Loose.isW (Loose.Want.dep 2 true 99 hg (by kernel_rfl) (D (k := 99) (by kernel_rfl)) (fun _ _ h => h)) 100 hd (.pointer (some ⟨g, 1, none⟩)) (fun _ => rfl) fun vals w' hF hdep => by
    have e1 : (frm a (dsts akOps) vals).eval (.tmp 3) = .pointer (some ⟨g, 0, none⟩) := (frm_eval_old a _ vals 3 (by kernel_rfl)).trans K.h3; unfold execOp; simp only [hop, e1]; first | (go_simp; done) | (go_simp; rfl)
theorem akst4 {Q : Exit → Act → World → Prop} {a : Act} {W : World} {g : Nat} {gx : Nat} {gn : Nat} {gy : Nat} {gz : Nat} {pe : Nat} {po : Nat} {Ce : Nat} {Sg : Option Addr} {Tg : Nat} {Al : Option Addr} {Cl : Nat} (K : akCtx g gx gn gy gz pe po Ce Sg Tg Al Cl a W) (o : Oper) (ho : akOps[4]? = some o) : Loose.Step Tryd.prog akOps Q (akF g gx gn gy gz pe po Ce Sg Tg Al Cl) a W.drew o := by
  obtain ⟨hd, hop, hg⟩ := Loose.op_of ho (show _ = some (some 101, .load 2 (.tmp 100), some (2, true)) by kernel_rfl)
  have D : ∀ {k : Nat}, Loose.depBi akOps 217 4 k = true → Loose.Dep akOps a o k := fun h => Loose.Dep.at K.hn ho h
  exact Loose.isW (Loose.Want.dep 2 true 99 hg (by kernel_rfl) (D (k := 99) (by kernel_rfl)) (fun _ _ h => h)) 101 hd (.int .i64 0) (fun _ => rfl) fun vals w' hF hdep => by
    have e1 : (frm a (dsts akOps) vals).eval (.tmp 100) = .pointer (some ⟨g, 1, none⟩) := (D (k := 100) (by kernel_rfl)).eval.trans (hdep 100 (D (k := 100) (by kernel_rfl)).dep); have hc := K.c1 w' (Fr.trans' (Fr.refl _ _).drew hF); unfold execOp; simp only [hop, e1]; first | (go_simp; done) | (go_simp; rfl)
theorem akst5 {Q : Exit → Act → World → Prop} {a : Act} {W : World} {g : Nat} {gx : Nat} {gn : Nat} {gy : Nat} {gz : Nat} {pe : Nat} {po : Nat} {Ce : Nat} {Sg : Option Addr} {Tg : Nat} {Al : Option Addr} {Cl : Nat} (K : akCtx g gx gn gy gz pe po Ce Sg Tg Al Cl a W) (o : Oper) (ho : akOps[5]? = some o) : Loose.Step Tryd.prog akOps Q (akF g gx gn gy gz pe po Ce Sg Tg Al Cl) a W.drew o := by
  obtain ⟨hd, hop, hg⟩ := Loose.op_of ho (show _ = some (some 102, .binOp .eql 2 (.tmp 101) (.const (.int .i64 0)) 2, some (2, true)) by kernel_rfl)
  have D : ∀ {k : Nat}, Loose.depBi akOps 217 5 k = true → Loose.Dep akOps a o k := fun h => Loose.Dep.at K.hn ho h
  exact Loose.isW (Loose.Want.dep 2 true 99 hg (by kernel_rfl) (D (k := 99) (by kernel_rfl)) (fun _ _ h => h)) 102 hd (.bool true) (fun _ => rfl) fun vals w' hF hdep => by
    have e1 : (frm a (dsts akOps) vals).eval (.tmp 101) = .int .i64 0 := (D (k := 101) (by kernel_rfl)).eval.trans (hdep 101 (D (k := 101) (by kernel_rfl)).dep); have e2 : (frm a (dsts akOps) vals).eval (.const (.int .i64 0)) = .int .i64 0 := rfl; unfold execOp; simp only [hop, e1, e2]; first | (go_simp; done) | (go_simp; rfl)
theorem akst6 {Q : Exit → Act → World → Prop} {a : Act} {W : World} {g : Nat} {gx : Nat} {gn : Nat} {gy : Nat} {gz : Nat} {pe : Nat} {po : Nat} {Ce : Nat} {Sg : Option Addr} {Tg : Nat} {Al : Option Addr} {Cl : Nat} (K : akCtx g gx gn gy gz pe po Ce Sg Tg Al Cl a W) (o : Oper) (ho : akOps[6]? = some o) : Loose.Step Tryd.prog akOps Q (akF g gx gn gy gz pe po Ce Sg Tg Al Cl) a W.drew o := by
  obtain ⟨hd, hop, hg⟩ := Loose.op_of ho (show _ = some (some 103, .pick (.tmp 99) (.tmp 102) (.const (.bool false)), none) by kernel_rfl)
  have D : ∀ {k : Nat}, Loose.depBi akOps 217 6 k = true → Loose.Dep akOps a o k := fun h => Loose.Dep.at K.hn ho h
  exact Loose.isW (Loose.Want.plain hg) 103 hd (.bool true) (fun _ => rfl) fun vals w' hF hdep => by
    have e1 : (frm a (dsts akOps) vals).eval (.tmp 99) = .bool true := (D (k := 99) (by kernel_rfl)).eval.trans (hdep 99 (D (k := 99) (by kernel_rfl)).dep); have e2 : (frm a (dsts akOps) vals).eval (.tmp 102) = .bool true := (D (k := 102) (by kernel_rfl)).eval.trans (hdep 102 (D (k := 102) (by kernel_rfl)).dep); have e3 : (frm a (dsts akOps) vals).eval (.const (.bool false)) = .bool false := rfl; unfold execOp; simp only [hop, e1, e2, e3]; first | (go_simp; done) | (go_simp; rfl)
theorem akst7 {Q : Exit → Act → World → Prop} {a : Act} {W : World} {g : Nat} {gx : Nat} {gn : Nat} {gy : Nat} {gz : Nat} {pe : Nat} {po : Nat} {Ce : Nat} {Sg : Option Addr} {Tg : Nat} {Al : Option Addr} {Cl : Nat} (K : akCtx g gx gn gy gz pe po Ce Sg Tg Al Cl a W) (o : Oper) (ho : akOps[7]? = some o) : Loose.Step Tryd.prog akOps Q (akF g gx gn gy gz pe po Ce Sg Tg Al Cl) a W.drew o := by
  obtain ⟨hd, hop, hg⟩ := Loose.op_of ho (show _ = some (some 104, .move (.tmp 103), none) by kernel_rfl)
  have D : ∀ {k : Nat}, Loose.depBi akOps 217 7 k = true → Loose.Dep akOps a o k := fun h => Loose.Dep.at K.hn ho h
  exact Loose.isW (Loose.Want.plain hg) 104 hd (.bool true) (fun _ => rfl) fun vals w' hF hdep => by
    have e1 : (frm a (dsts akOps) vals).eval (.tmp 103) = .bool true := (D (k := 103) (by kernel_rfl)).eval.trans (hdep 103 (D (k := 103) (by kernel_rfl)).dep); unfold execOp; simp only [hop, e1]; first | (go_simp; done) | (go_simp; rfl)
theorem akst8 {Q : Exit → Act → World → Prop} {a : Act} {W : World} {g : Nat} {gx : Nat} {gn : Nat} {gy : Nat} {gz : Nat} {pe : Nat} {po : Nat} {Ce : Nat} {Sg : Option Addr} {Tg : Nat} {Al : Option Addr} {Cl : Nat} (K : akCtx g gx gn gy gz pe po Ce Sg Tg Al Cl a W) (o : Oper) (ho : akOps[8]? = some o) : Loose.Step Tryd.prog akOps Q (akF g gx gn gy gz pe po Ce Sg Tg Al Cl) a W.drew o := by
  obtain ⟨hd, hop, hg⟩ := Loose.op_of ho (show _ = some (some 105, .fieldAddr 24 (.tmp 3) 3, some (7, true)) by kernel_rfl)
  have D : ∀ {k : Nat}, Loose.depBi akOps 217 8 k = true → Loose.Dep akOps a o k := fun h => Loose.Dep.at K.hn ho h
  exact Loose.isW (Loose.Want.dep 7 true 104 hg (by kernel_rfl) (D (k := 104) (by kernel_rfl)) (fun _ _ h => h)) 105 hd (.pointer (some ⟨g, 3, none⟩)) (fun _ => rfl) fun vals w' hF hdep => by
    have e1 : (frm a (dsts akOps) vals).eval (.tmp 3) = .pointer (some ⟨g, 0, none⟩) := (frm_eval_old a _ vals 3 (by kernel_rfl)).trans K.h3; unfold execOp; simp only [hop, e1]; first | (go_simp; done) | (go_simp; rfl)
theorem akst9 {Q : Exit → Act → World → Prop} {a : Act} {W : World} {g : Nat} {gx : Nat} {gn : Nat} {gy : Nat} {gz : Nat} {pe : Nat} {po : Nat} {Ce : Nat} {Sg : Option Addr} {Tg : Nat} {Al : Option Addr} {Cl : Nat} (K : akCtx g gx gn gy gz pe po Ce Sg Tg Al Cl a W) (o : Oper) (ho : akOps[9]? = some o) : Loose.Step Tryd.prog akOps Q (akF g gx gn gy gz pe po Ce Sg Tg Al Cl) a W.drew o := by
  obtain ⟨hd, hop, hg⟩ := Loose.op_of ho (show _ = some (some 106, .load 2 (.tmp 105), some (7, true)) by kernel_rfl)
  have D : ∀ {k : Nat}, Loose.depBi akOps 217 9 k = true → Loose.Dep akOps a o k := fun h => Loose.Dep.at K.hn ho h
  exact Loose.isW (Loose.Want.dep 7 true 104 hg (by kernel_rfl) (D (k := 104) (by kernel_rfl)) (fun _ _ h => h)) 106 hd (.int .i64 9223372036854775807) (fun _ => rfl) fun vals w' hF hdep => by
    have e1 : (frm a (dsts akOps) vals).eval (.tmp 105) = .pointer (some ⟨g, 3, none⟩) := (D (k := 105) (by kernel_rfl)).eval.trans (hdep 105 (D (k := 105) (by kernel_rfl)).dep); have hc := K.c2 w' (Fr.trans' (Fr.refl _ _).drew hF); unfold execOp; simp only [hop, e1]; first | (go_simp; done) | (go_simp; rfl)
theorem akst10 {Q : Exit → Act → World → Prop} {a : Act} {W : World} {g : Nat} {gx : Nat} {gn : Nat} {gy : Nat} {gz : Nat} {pe : Nat} {po : Nat} {Ce : Nat} {Sg : Option Addr} {Tg : Nat} {Al : Option Addr} {Cl : Nat} (K : akCtx g gx gn gy gz pe po Ce Sg Tg Al Cl a W) (o : Oper) (ho : akOps[10]? = some o) : Loose.Step Tryd.prog akOps Q (akF g gx gn gy gz pe po Ce Sg Tg Al Cl) a W.drew o := by
  obtain ⟨hd, hop, hg⟩ := Loose.op_of ho (show _ = some (some 107, .move (.tmp 1), some (7, true)) by kernel_rfl)
  have D : ∀ {k : Nat}, Loose.depBi akOps 217 10 k = true → Loose.Dep akOps a o k := fun h => Loose.Dep.at K.hn ho h
  exact Loose.isW (Loose.Want.dep 7 true 104 hg (by kernel_rfl) (D (k := 104) (by kernel_rfl)) (fun _ _ h => h)) 107 hd (.int .i64 9223372036854775807) (fun _ => rfl) fun vals w' hF hdep => by
    have e1 : (frm a (dsts akOps) vals).eval (.tmp 1) = .int .i64 9223372036854775807 := (frm_eval_old a _ vals 1 (by kernel_rfl)).trans K.h1; unfold execOp; simp only [hop, e1]; first | (go_simp; done) | (go_simp; rfl)
theorem akst11 {Q : Exit → Act → World → Prop} {a : Act} {W : World} {g : Nat} {gx : Nat} {gn : Nat} {gy : Nat} {gz : Nat} {pe : Nat} {po : Nat} {Ce : Nat} {Sg : Option Addr} {Tg : Nat} {Al : Option Addr} {Cl : Nat} (K : akCtx g gx gn gy gz pe po Ce Sg Tg Al Cl a W) (o : Oper) (ho : akOps[11]? = some o) : Loose.Step Tryd.prog akOps Q (akF g gx gn gy gz pe po Ce Sg Tg Al Cl) a W.drew o := by
  obtain ⟨hd, hop, hg⟩ := Loose.op_of ho (show _ = some (some 108, .binOp .eql 2 (.tmp 106) (.tmp 107) 2, some (7, true)) by kernel_rfl)
  have D : ∀ {k : Nat}, Loose.depBi akOps 217 11 k = true → Loose.Dep akOps a o k := fun h => Loose.Dep.at K.hn ho h
  exact Loose.isW (Loose.Want.dep 7 true 104 hg (by kernel_rfl) (D (k := 104) (by kernel_rfl)) (fun _ _ h => h)) 108 hd (.bool true) (fun _ => rfl) fun vals w' hF hdep => by
    have e1 : (frm a (dsts akOps) vals).eval (.tmp 106) = .int .i64 9223372036854775807 := (D (k := 106) (by kernel_rfl)).eval.trans (hdep 106 (D (k := 106) (by kernel_rfl)).dep); have e2 : (frm a (dsts akOps) vals).eval (.tmp 107) = .int .i64 9223372036854775807 := (D (k := 107) (by kernel_rfl)).eval.trans (hdep 107 (D (k := 107) (by kernel_rfl)).dep); unfold execOp; simp only [hop, e1, e2]; first | (go_simp; done) | (go_simp; rfl)
theorem akst12 {Q : Exit → Act → World → Prop} {a : Act} {W : World} {g : Nat} {gx : Nat} {gn : Nat} {gy : Nat} {gz : Nat} {pe : Nat} {po : Nat} {Ce : Nat} {Sg : Option Addr} {Tg : Nat} {Al : Option Addr} {Cl : Nat} (K : akCtx g gx gn gy gz pe po Ce Sg Tg Al Cl a W) (o : Oper) (ho : akOps[12]? = some o) : Loose.Step Tryd.prog akOps Q (akF g gx gn gy gz pe po Ce Sg Tg Al Cl) a W.drew o := by
  obtain ⟨hd, hop, hg⟩ := Loose.op_of ho (show _ = some (some 109, .pick (.tmp 104) (.tmp 108) (.const (.bool false)), none) by kernel_rfl)
  have D : ∀ {k : Nat}, Loose.depBi akOps 217 12 k = true → Loose.Dep akOps a o k := fun h => Loose.Dep.at K.hn ho h
  exact Loose.isW (Loose.Want.plain hg) 109 hd (.bool true) (fun _ => rfl) fun vals w' hF hdep => by
    have e1 : (frm a (dsts akOps) vals).eval (.tmp 104) = .bool true := (D (k := 104) (by kernel_rfl)).eval.trans (hdep 104 (D (k := 104) (by kernel_rfl)).dep); have e2 : (frm a (dsts akOps) vals).eval (.tmp 108) = .bool true := (D (k := 108) (by kernel_rfl)).eval.trans (hdep 108 (D (k := 108) (by kernel_rfl)).dep); have e3 : (frm a (dsts akOps) vals).eval (.const (.bool false)) = .bool false := rfl; unfold execOp; simp only [hop, e1, e2, e3]; first | (go_simp; done) | (go_simp; rfl)
theorem akst13 {Q : Exit → Act → World → Prop} {a : Act} {W : World} {g : Nat} {gx : Nat} {gn : Nat} {gy : Nat} {gz : Nat} {pe : Nat} {po : Nat} {Ce : Nat} {Sg : Option Addr} {Tg : Nat} {Al : Option Addr} {Cl : Nat} (K : akCtx g gx gn gy gz pe po Ce Sg Tg Al Cl a W) (o : Oper) (ho : akOps[13]? = some o) : Loose.Step Tryd.prog akOps Q (akF g gx gn gy gz pe po Ce Sg Tg Al Cl) a W.drew o := by
  obtain ⟨hd, hop, hg⟩ := Loose.op_of ho (show _ = some (some 110, .move (.tmp 109), none) by kernel_rfl)
  have D : ∀ {k : Nat}, Loose.depBi akOps 217 13 k = true → Loose.Dep akOps a o k := fun h => Loose.Dep.at K.hn ho h
  exact Loose.isW (Loose.Want.plain hg) 110 hd (.bool true) (fun _ => rfl) fun vals w' hF hdep => by
    have e1 : (frm a (dsts akOps) vals).eval (.tmp 109) = .bool true := (D (k := 109) (by kernel_rfl)).eval.trans (hdep 109 (D (k := 109) (by kernel_rfl)).dep); unfold execOp; simp only [hop, e1]; first | (go_simp; done) | (go_simp; rfl)
theorem akst14 {Q : Exit → Act → World → Prop} {a : Act} {W : World} {g : Nat} {gx : Nat} {gn : Nat} {gy : Nat} {gz : Nat} {pe : Nat} {po : Nat} {Ce : Nat} {Sg : Option Addr} {Tg : Nat} {Al : Option Addr} {Cl : Nat} (K : akCtx g gx gn gy gz pe po Ce Sg Tg Al Cl a W) (o : Oper) (ho : akOps[14]? = some o) : Loose.Step Tryd.prog akOps Q (akF g gx gn gy gz pe po Ce Sg Tg Al Cl) a W.drew o := by
  obtain ⟨hd, hop, hg⟩ := Loose.op_of ho (show _ = some (some 111, .fieldAddr 24 (.tmp 4) 5, some (13, true)) by kernel_rfl)
  have D : ∀ {k : Nat}, Loose.depBi akOps 217 14 k = true → Loose.Dep akOps a o k := fun h => Loose.Dep.at K.hn ho h
  exact Loose.isW (Loose.Want.dep 13 true 110 hg (by kernel_rfl) (D (k := 110) (by kernel_rfl)) (fun _ _ h => h)) 111 hd (.pointer (some ⟨g + 1, 5, none⟩)) (fun _ => rfl) fun vals w' hF hdep => by
    have e1 : (frm a (dsts akOps) vals).eval (.tmp 4) = .pointer (some ⟨g + 1, 0, none⟩) := (frm_eval_old a _ vals 4 (by kernel_rfl)).trans K.h4; unfold execOp; simp only [hop, e1]; first | (go_simp; done) | (go_simp; rfl)
theorem akst15 {Q : Exit → Act → World → Prop} {a : Act} {W : World} {g : Nat} {gx : Nat} {gn : Nat} {gy : Nat} {gz : Nat} {pe : Nat} {po : Nat} {Ce : Nat} {Sg : Option Addr} {Tg : Nat} {Al : Option Addr} {Cl : Nat} (K : akCtx g gx gn gy gz pe po Ce Sg Tg Al Cl a W) (o : Oper) (ho : akOps[15]? = some o) : Loose.Step Tryd.prog akOps Q (akF g gx gn gy gz pe po Ce Sg Tg Al Cl) a W.drew o := by
  obtain ⟨hd, hop, hg⟩ := Loose.op_of ho (show _ = some (some 112, .load 4 (.tmp 111), some (13, true)) by kernel_rfl)
  have D : ∀ {k : Nat}, Loose.depBi akOps 217 15 k = true → Loose.Dep akOps a o k := fun h => Loose.Dep.at K.hn ho h
  exact Loose.isW (Loose.Want.dep 13 true 110 hg (by kernel_rfl) (D (k := 110) (by kernel_rfl)) (fun _ _ h => h)) 112 hd (.bool false) (fun _ => rfl) fun vals w' hF hdep => by
    have e1 : (frm a (dsts akOps) vals).eval (.tmp 111) = .pointer (some ⟨g + 1, 5, none⟩) := (D (k := 111) (by kernel_rfl)).eval.trans (hdep 111 (D (k := 111) (by kernel_rfl)).dep); have hc := K.c3 w' (Fr.trans' (Fr.refl _ _).drew hF); unfold execOp; simp only [hop, e1]; first | (go_simp; done) | (go_simp; rfl)
theorem akst16 {Q : Exit → Act → World → Prop} {a : Act} {W : World} {g : Nat} {gx : Nat} {gn : Nat} {gy : Nat} {gz : Nat} {pe : Nat} {po : Nat} {Ce : Nat} {Sg : Option Addr} {Tg : Nat} {Al : Option Addr} {Cl : Nat} (K : akCtx g gx gn gy gz pe po Ce Sg Tg Al Cl a W) (o : Oper) (ho : akOps[16]? = some o) : Loose.Step Tryd.prog akOps Q (akF g gx gn gy gz pe po Ce Sg Tg Al Cl) a W.drew o := by
  obtain ⟨hd, hop, hg⟩ := Loose.op_of ho (show _ = some (some 113, .unOp .not 4 (.tmp 112), some (13, true)) by kernel_rfl)
  have D : ∀ {k : Nat}, Loose.depBi akOps 217 16 k = true → Loose.Dep akOps a o k := fun h => Loose.Dep.at K.hn ho h
  exact Loose.isW (Loose.Want.dep 13 true 110 hg (by kernel_rfl) (D (k := 110) (by kernel_rfl)) (fun _ _ h => h)) 113 hd (.bool true) (fun _ => rfl) fun vals w' hF hdep => by
    have e1 : (frm a (dsts akOps) vals).eval (.tmp 112) = .bool false := (D (k := 112) (by kernel_rfl)).eval.trans (hdep 112 (D (k := 112) (by kernel_rfl)).dep); unfold execOp; simp only [hop, e1]; first | (go_simp; done) | (go_simp; rfl)
theorem akst17 {Q : Exit → Act → World → Prop} {a : Act} {W : World} {g : Nat} {gx : Nat} {gn : Nat} {gy : Nat} {gz : Nat} {pe : Nat} {po : Nat} {Ce : Nat} {Sg : Option Addr} {Tg : Nat} {Al : Option Addr} {Cl : Nat} (K : akCtx g gx gn gy gz pe po Ce Sg Tg Al Cl a W) (o : Oper) (ho : akOps[17]? = some o) : Loose.Step Tryd.prog akOps Q (akF g gx gn gy gz pe po Ce Sg Tg Al Cl) a W.drew o := by
  obtain ⟨hd, hop, hg⟩ := Loose.op_of ho (show _ = some (some 114, .pick (.tmp 110) (.tmp 113) (.const (.bool false)), none) by kernel_rfl)
  have D : ∀ {k : Nat}, Loose.depBi akOps 217 17 k = true → Loose.Dep akOps a o k := fun h => Loose.Dep.at K.hn ho h
  exact Loose.isW (Loose.Want.plain hg) 114 hd (.bool true) (fun _ => rfl) fun vals w' hF hdep => by
    have e1 : (frm a (dsts akOps) vals).eval (.tmp 110) = .bool true := (D (k := 110) (by kernel_rfl)).eval.trans (hdep 110 (D (k := 110) (by kernel_rfl)).dep); have e2 : (frm a (dsts akOps) vals).eval (.tmp 113) = .bool true := (D (k := 113) (by kernel_rfl)).eval.trans (hdep 113 (D (k := 113) (by kernel_rfl)).dep); have e3 : (frm a (dsts akOps) vals).eval (.const (.bool false)) = .bool false := rfl; unfold execOp; simp only [hop, e1, e2, e3]; first | (go_simp; done) | (go_simp; rfl)
theorem akst18 {Q : Exit → Act → World → Prop} {a : Act} {W : World} {g : Nat} {gx : Nat} {gn : Nat} {gy : Nat} {gz : Nat} {pe : Nat} {po : Nat} {Ce : Nat} {Sg : Option Addr} {Tg : Nat} {Al : Option Addr} {Cl : Nat} (K : akCtx g gx gn gy gz pe po Ce Sg Tg Al Cl a W) (o : Oper) (ho : akOps[18]? = some o) : Loose.Step Tryd.prog akOps Q (akF g gx gn gy gz pe po Ce Sg Tg Al Cl) a W.drew o := by
  obtain ⟨hd, hop, hg⟩ := Loose.op_of ho (show _ = some (some 115, .move (.tmp 114), none) by kernel_rfl)
  have D : ∀ {k : Nat}, Loose.depBi akOps 217 18 k = true → Loose.Dep akOps a o k := fun h => Loose.Dep.at K.hn ho h
  exact Loose.isW (Loose.Want.plain hg) 115 hd (.bool true) (fun _ => rfl) fun vals w' hF hdep => by
    have e1 : (frm a (dsts akOps) vals).eval (.tmp 114) = .bool true := (D (k := 114) (by kernel_rfl)).eval.trans (hdep 114 (D (k := 114) (by kernel_rfl)).dep); unfold execOp; simp only [hop, e1]; first | (go_simp; done) | (go_simp; rfl)
theorem akst19 {Q : Exit → Act → World → Prop} {a : Act} {W : World} {g : Nat} {gx : Nat} {gn : Nat} {gy : Nat} {gz : Nat} {pe : Nat} {po : Nat} {Ce : Nat} {Sg : Option Addr} {Tg : Nat} {Al : Option Addr} {Cl : Nat} (K : akCtx g gx gn gy gz pe po Ce Sg Tg Al Cl a W) (o : Oper) (ho : akOps[19]? = some o) : Loose.Step Tryd.prog akOps Q (akF g gx gn gy gz pe po Ce Sg Tg Al Cl) a W.drew o := by
  obtain ⟨hd, hop, hg⟩ := Loose.op_of ho (show _ = some (some 116, .fieldAddr 24 (.tmp 4) 1, some (18, true)) by kernel_rfl)
  have D : ∀ {k : Nat}, Loose.depBi akOps 217 19 k = true → Loose.Dep akOps a o k := fun h => Loose.Dep.at K.hn ho h
  exact Loose.isW (Loose.Want.dep 18 true 115 hg (by kernel_rfl) (D (k := 115) (by kernel_rfl)) (fun _ _ h => h)) 116 hd (.pointer (some ⟨g + 1, 1, none⟩)) (fun _ => rfl) fun vals w' hF hdep => by
    have e1 : (frm a (dsts akOps) vals).eval (.tmp 4) = .pointer (some ⟨g + 1, 0, none⟩) := (frm_eval_old a _ vals 4 (by kernel_rfl)).trans K.h4; unfold execOp; simp only [hop, e1]; first | (go_simp; done) | (go_simp; rfl)
theorem akst20 {Q : Exit → Act → World → Prop} {a : Act} {W : World} {g : Nat} {gx : Nat} {gn : Nat} {gy : Nat} {gz : Nat} {pe : Nat} {po : Nat} {Ce : Nat} {Sg : Option Addr} {Tg : Nat} {Al : Option Addr} {Cl : Nat} (K : akCtx g gx gn gy gz pe po Ce Sg Tg Al Cl a W) (o : Oper) (ho : akOps[20]? = some o) : Loose.Step Tryd.prog akOps Q (akF g gx gn gy gz pe po Ce Sg Tg Al Cl) a W.drew o := by
  obtain ⟨hd, hop, hg⟩ := Loose.op_of ho (show _ = some (some 117, .load 2 (.tmp 116), some (18, true)) by kernel_rfl)
  have D : ∀ {k : Nat}, Loose.depBi akOps 217 20 k = true → Loose.Dep akOps a o k := fun h => Loose.Dep.at K.hn ho h
  exact Loose.isW (Loose.Want.dep 18 true 115 hg (by kernel_rfl) (D (k := 115) (by kernel_rfl)) (fun _ _ h => h)) 117 hd (.int .i64 9223372036854775807) (fun _ => rfl) fun vals w' hF hdep => by
    have e1 : (frm a (dsts akOps) vals).eval (.tmp 116) = .pointer (some ⟨g + 1, 1, none⟩) := (D (k := 116) (by kernel_rfl)).eval.trans (hdep 116 (D (k := 116) (by kernel_rfl)).dep); have hc := K.c4 w' (Fr.trans' (Fr.refl _ _).drew hF); unfold execOp; simp only [hop, e1]; first | (go_simp; done) | (go_simp; rfl)
theorem akst21 {Q : Exit → Act → World → Prop} {a : Act} {W : World} {g : Nat} {gx : Nat} {gn : Nat} {gy : Nat} {gz : Nat} {pe : Nat} {po : Nat} {Ce : Nat} {Sg : Option Addr} {Tg : Nat} {Al : Option Addr} {Cl : Nat} (K : akCtx g gx gn gy gz pe po Ce Sg Tg Al Cl a W) (o : Oper) (ho : akOps[21]? = some o) : Loose.Step Tryd.prog akOps Q (akF g gx gn gy gz pe po Ce Sg Tg Al Cl) a W.drew o := by
  obtain ⟨hd, hop, hg⟩ := Loose.op_of ho (show _ = some (some 118, .move (.tmp 1), some (18, true)) by kernel_rfl)
  have D : ∀ {k : Nat}, Loose.depBi akOps 217 21 k = true → Loose.Dep akOps a o k := fun h => Loose.Dep.at K.hn ho h
  exact Loose.isW (Loose.Want.dep 18 true 115 hg (by kernel_rfl) (D (k := 115) (by kernel_rfl)) (fun _ _ h => h)) 118 hd (.int .i64 9223372036854775807) (fun _ => rfl) fun vals w' hF hdep => by
    have e1 : (frm a (dsts akOps) vals).eval (.tmp 1) = .int .i64 9223372036854775807 := (frm_eval_old a _ vals 1 (by kernel_rfl)).trans K.h1; unfold execOp; simp only [hop, e1]; first | (go_simp; done) | (go_simp; rfl)
theorem akst22 {Q : Exit → Act → World → Prop} {a : Act} {W : World} {g : Nat} {gx : Nat} {gn : Nat} {gy : Nat} {gz : Nat} {pe : Nat} {po : Nat} {Ce : Nat} {Sg : Option Addr} {Tg : Nat} {Al : Option Addr} {Cl : Nat} (K : akCtx g gx gn gy gz pe po Ce Sg Tg Al Cl a W) (o : Oper) (ho : akOps[22]? = some o) : Loose.Step Tryd.prog akOps Q (akF g gx gn gy gz pe po Ce Sg Tg Al Cl) a W.drew o := by
  obtain ⟨hd, hop, hg⟩ := Loose.op_of ho (show _ = some (some 119, .binOp .eql 2 (.tmp 117) (.tmp 118) 2, some (18, true)) by kernel_rfl)
  have D : ∀ {k : Nat}, Loose.depBi akOps 217 22 k = true → Loose.Dep akOps a o k := fun h => Loose.Dep.at K.hn ho h
  exact Loose.isW (Loose.Want.dep 18 true 115 hg (by kernel_rfl) (D (k := 115) (by kernel_rfl)) (fun _ _ h => h)) 119 hd (.bool true) (fun _ => rfl) fun vals w' hF hdep => by
    have e1 : (frm a (dsts akOps) vals).eval (.tmp 117) = .int .i64 9223372036854775807 := (D (k := 117) (by kernel_rfl)).eval.trans (hdep 117 (D (k := 117) (by kernel_rfl)).dep); have e2 : (frm a (dsts akOps) vals).eval (.tmp 118) = .int .i64 9223372036854775807 := (D (k := 118) (by kernel_rfl)).eval.trans (hdep 118 (D (k := 118) (by kernel_rfl)).dep); unfold execOp; simp only [hop, e1, e2]; first | (go_simp; done) | (go_simp; rfl)
theorem akst23 {Q : Exit → Act → World → Prop} {a : Act} {W : World} {g : Nat} {gx : Nat} {gn : Nat} {gy : Nat} {gz : Nat} {pe : Nat} {po : Nat} {Ce : Nat} {Sg : Option Addr} {Tg : Nat} {Al : Option Addr} {Cl : Nat} (K : akCtx g gx gn gy gz pe po Ce Sg Tg Al Cl a W) (o : Oper) (ho : akOps[23]? = some o) : Loose.Step Tryd.prog akOps Q (akF g gx gn gy gz pe po Ce Sg Tg Al Cl) a W.drew o := by
  obtain ⟨hd, hop, hg⟩ := Loose.op_of ho (show _ = some (some 120, .pick (.tmp 115) (.tmp 119) (.const (.bool false)), none) by kernel_rfl)
  have D : ∀ {k : Nat}, Loose.depBi akOps 217 23 k = true → Loose.Dep akOps a o k := fun h => Loose.Dep.at K.hn ho h
  exact Loose.isW (Loose.Want.plain hg) 120 hd (.bool true) (fun _ => rfl) fun vals w' hF hdep => by
    have e1 : (frm a (dsts akOps) vals).eval (.tmp 115) = .bool true := (D (k := 115) (by kernel_rfl)).eval.trans (hdep 115 (D (k := 115) (by kernel_rfl)).dep); have e2 : (frm a (dsts akOps) vals).eval (.tmp 119) = .bool true := (D (k := 119) (by kernel_rfl)).eval.trans (hdep 119 (D (k := 119) (by kernel_rfl)).dep); have e3 : (frm a (dsts akOps) vals).eval (.const (.bool false)) = .bool false := rfl; unfold execOp; simp only [hop, e1, e2, e3]; first | (go_simp; done) | (go_simp; rfl)
theorem akst24 {Q : Exit → Act → World → Prop} {a : Act} {W : World} {g : Nat} {gx : Nat} {gn : Nat} {gy : Nat} {gz : Nat} {pe : Nat} {po : Nat} {Ce : Nat} {Sg : Option Addr} {Tg : Nat} {Al : Option Addr} {Cl : Nat} (K : akCtx g gx gn gy gz pe po Ce Sg Tg Al Cl a W) (o : Oper) (ho : akOps[24]? = some o) : Loose.Step Tryd.prog akOps Q (akF g gx gn gy gz pe po Ce Sg Tg Al Cl) a W.drew o := by
  obtain ⟨hd, hop, hg⟩ := Loose.op_of ho (show _ = some (some 121, .move (.tmp 120), none) by kernel_rfl)
  have D : ∀ {k : Nat}, Loose.depBi akOps 217 24 k = true → Loose.Dep akOps a o k := fun h => Loose.Dep.at K.hn ho h
  exact Loose.isW (Loose.Want.plain hg) 121 hd (.bool true) (fun _ => rfl) fun vals w' hF hdep => by
    have e1 : (frm a (dsts akOps) vals).eval (.tmp 120) = .bool true := (D (k := 120) (by kernel_rfl)).eval.trans (hdep 120 (D (k := 120) (by kernel_rfl)).dep); unfold execOp; simp only [hop, e1]; first | (go_simp; done) | (go_simp; rfl)
theorem akst25 {Q : Exit → Act → World → Prop} {a : Act} {W : World} {g : Nat} {gx : Nat} {gn : Nat} {gy : Nat} {gz : Nat} {pe : Nat} {po : Nat} {Ce : Nat} {Sg : Option Addr} {Tg : Nat} {Al : Option Addr} {Cl : Nat} (K : akCtx g gx gn gy gz pe po Ce Sg Tg Al Cl a W) (o : Oper) (ho : akOps[25]? = some o) : Loose.Step Tryd.prog akOps Q (akF g gx gn gy gz pe po Ce Sg Tg Al Cl) a W.drew o := by
  obtain ⟨hd, hop, hg⟩ := Loose.op_of ho (show _ = some (some 122, .fieldAddr 24 (.tmp 5) 5, some (24, true)) by kernel_rfl)
  have D : ∀ {k : Nat}, Loose.depBi akOps 217 25 k = true → Loose.Dep akOps a o k := fun h => Loose.Dep.at K.hn ho h
  exact Loose.isW (Loose.Want.dep 24 true 121 hg (by kernel_rfl) (D (k := 121) (by kernel_rfl)) (fun _ _ h => h)) 122 hd (.pointer (some ⟨g + 1 + 1, 5, none⟩)) (fun _ => rfl) fun vals w' hF hdep => by
    have e1 : (frm a (dsts akOps) vals).eval (.tmp 5) = .pointer (some ⟨g + 1 + 1, 0, none⟩) := (frm_eval_old a _ vals 5 (by kernel_rfl)).trans K.h5; unfold execOp; simp only [hop, e1]; first | (go_simp; done) | (go_simp; rfl)
theorem akst26 {Q : Exit → Act → World → Prop} {a : Act} {W : World} {g : Nat} {gx : Nat} {gn : Nat} {gy : Nat} {gz : Nat} {pe : Nat} {po : Nat} {Ce : Nat} {Sg : Option Addr} {Tg : Nat} {Al : Option Addr} {Cl : Nat} (K : akCtx g gx gn gy gz pe po Ce Sg Tg Al Cl a W) (o : Oper) (ho : akOps[26]? = some o) : Loose.Step Tryd.prog akOps Q (akF g gx gn gy gz pe po Ce Sg Tg Al Cl) a W.drew o := by
  obtain ⟨hd, hop, hg⟩ := Loose.op_of ho (show _ = some (some 123, .load 4 (.tmp 122), some (24, true)) by kernel_rfl)
  have D : ∀ {k : Nat}, Loose.depBi akOps 217 26 k = true → Loose.Dep akOps a o k := fun h => Loose.Dep.at K.hn ho h
  exact Loose.isW (Loose.Want.dep 24 true 121 hg (by kernel_rfl) (D (k := 121) (by kernel_rfl)) (fun _ _ h => h)) 123 hd (.bool true) (fun _ => rfl) fun vals w' hF hdep => by
    have e1 : (frm a (dsts akOps) vals).eval (.tmp 122) = .pointer (some ⟨g + 1 + 1, 5, none⟩) := (D (k := 122) (by kernel_rfl)).eval.trans (hdep 122 (D (k := 122) (by kernel_rfl)).dep); have hc := K.c5 w' (Fr.trans' (Fr.refl _ _).drew hF); unfold execOp; simp only [hop, e1]; first | (go_simp; done) | (go_simp; rfl)
theorem akst27 {Q : Exit → Act → World → Prop} {a : Act} {W : World} {g : Nat} {gx : Nat} {gn : Nat} {gy : Nat} {gz : Nat} {pe : Nat} {po : Nat} {Ce : Nat} {Sg : Option Addr} {Tg : Nat} {Al : Option Addr} {Cl : Nat} (K : akCtx g gx gn gy gz pe po Ce Sg Tg Al Cl a W) (o : Oper) (ho : akOps[27]? = some o) : Loose.Step Tryd.prog akOps Q (akF g gx gn gy gz pe po Ce Sg Tg Al Cl) a W.drew o := by
  obtain ⟨hd, hop, hg⟩ := Loose.op_of ho (show _ = some (some 124, .pick (.tmp 121) (.tmp 123) (.const (.bool false)), none) by kernel_rfl)
  have D : ∀ {k : Nat}, Loose.depBi akOps 217 27 k = true → Loose.Dep akOps a o k := fun h => Loose.Dep.at K.hn ho h
  exact Loose.isW (Loose.Want.plain hg) 124 hd (.bool true) (fun _ => rfl) fun vals w' hF hdep => by
    have e1 : (frm a (dsts akOps) vals).eval (.tmp 121) = .bool true := (D (k := 121) (by kernel_rfl)).eval.trans (hdep 121 (D (k := 121) (by kernel_rfl)).dep); have e2 : (frm a (dsts akOps) vals).eval (.tmp 123) = .bool true := (D (k := 123) (by kernel_rfl)).eval.trans (hdep 123 (D (k := 123) (by kernel_rfl)).dep); have e3 : (frm a (dsts akOps) vals).eval (.const (.bool false)) = .bool false := rfl; unfold execOp; simp only [hop, e1, e2, e3]; first | (go_simp; done) | (go_simp; rfl)
theorem akst28 {Q : Exit → Act → World → Prop} {a : Act} {W : World} {g : Nat} {gx : Nat} {gn : Nat} {gy : Nat} {gz : Nat} {pe : Nat} {po : Nat} {Ce : Nat} {Sg : Option Addr} {Tg : Nat} {Al : Option Addr} {Cl : Nat} (K : akCtx g gx gn gy gz pe po Ce Sg Tg Al Cl a W) (o : Oper) (ho : akOps[28]? = some o) : Loose.Step Tryd.prog akOps Q (akF g gx gn gy gz pe po Ce Sg Tg Al Cl) a W.drew o := by
  obtain ⟨hd, hop, hg⟩ := Loose.op_of ho (show _ = some (some 125, .move (.tmp 124), none) by kernel_rfl)
  have D : ∀ {k : Nat}, Loose.depBi akOps 217 28 k = true → Loose.Dep akOps a o k := fun h => Loose.Dep.at K.hn ho h
  exact Loose.isW (Loose.Want.plain hg) 125 hd (.bool true) (fun _ => rfl) fun vals w' hF hdep => by
    have e1 : (frm a (dsts akOps) vals).eval (.tmp 124) = .bool true := (D (k := 124) (by kernel_rfl)).eval.trans (hdep 124 (D (k := 124) (by kernel_rfl)).dep); unfold execOp; simp only [hop, e1]; first | (go_simp; done) | (go_simp; rfl)
theorem akst29 {Q : Exit → Act → World → Prop} {a : Act} {W : World} {g : Nat} {gx : Nat} {gn : Nat} {gy : Nat} {gz : Nat} {pe : Nat} {po : Nat} {Ce : Nat} {Sg : Option Addr} {Tg : Nat} {Al : Option Addr} {Cl : Nat} (K : akCtx g gx gn gy gz pe po Ce Sg Tg Al Cl a W) (o : Oper) (ho : akOps[29]? = some o) : Loose.Step Tryd.prog akOps Q (akF g gx gn gy gz pe po Ce Sg Tg Al Cl) a W.drew o := by
  obtain ⟨hd, hop, hg⟩ := Loose.op_of ho (show _ = some (some 126, .fieldAddr 24 (.tmp 6) 5, some (28, true)) by kernel_rfl)
  have D : ∀ {k : Nat}, Loose.depBi akOps 217 29 k = true → Loose.Dep akOps a o k := fun h => Loose.Dep.at K.hn ho h
  exact Loose.isW (Loose.Want.dep 28 true 125 hg (by kernel_rfl) (D (k := 125) (by kernel_rfl)) (fun _ _ h => h)) 126 hd (.pointer (some ⟨g + 1 + 1 + 1, 5, none⟩)) (fun _ => rfl) fun vals w' hF hdep => by
    have e1 : (frm a (dsts akOps) vals).eval (.tmp 6) = .pointer (some ⟨g + 1 + 1 + 1, 0, none⟩) := (frm_eval_old a _ vals 6 (by kernel_rfl)).trans K.h6; unfold execOp; simp only [hop, e1]; first | (go_simp; done) | (go_simp; rfl)
theorem akst30 {Q : Exit → Act → World → Prop} {a : Act} {W : World} {g : Nat} {gx : Nat} {gn : Nat} {gy : Nat} {gz : Nat} {pe : Nat} {po : Nat} {Ce : Nat} {Sg : Option Addr} {Tg : Nat} {Al : Option Addr} {Cl : Nat} (K : akCtx g gx gn gy gz pe po Ce Sg Tg Al Cl a W) (o : Oper) (ho : akOps[30]? = some o) : Loose.Step Tryd.prog akOps Q (akF g gx gn gy gz pe po Ce Sg Tg Al Cl) a W.drew o := by
  obtain ⟨hd, hop, hg⟩ := Loose.op_of ho (show _ = some (some 127, .load 4 (.tmp 126), some (28, true)) by kernel_rfl)
  have D : ∀ {k : Nat}, Loose.depBi akOps 217 30 k = true → Loose.Dep akOps a o k := fun h => Loose.Dep.at K.hn ho h
  exact Loose.isW (Loose.Want.dep 28 true 125 hg (by kernel_rfl) (D (k := 125) (by kernel_rfl)) (fun _ _ h => h)) 127 hd (.bool false) (fun _ => rfl) fun vals w' hF hdep => by
    have e1 : (frm a (dsts akOps) vals).eval (.tmp 126) = .pointer (some ⟨g + 1 + 1 + 1, 5, none⟩) := (D (k := 126) (by kernel_rfl)).eval.trans (hdep 126 (D (k := 126) (by kernel_rfl)).dep); have hc := K.c6 w' (Fr.trans' (Fr.refl _ _).drew hF); unfold execOp; simp only [hop, e1]; first | (go_simp; done) | (go_simp; rfl)
theorem akst31 {Q : Exit → Act → World → Prop} {a : Act} {W : World} {g : Nat} {gx : Nat} {gn : Nat} {gy : Nat} {gz : Nat} {pe : Nat} {po : Nat} {Ce : Nat} {Sg : Option Addr} {Tg : Nat} {Al : Option Addr} {Cl : Nat} (K : akCtx g gx gn gy gz pe po Ce Sg Tg Al Cl a W) (o : Oper) (ho : akOps[31]? = some o) : Loose.Step Tryd.prog akOps Q (akF g gx gn gy gz pe po Ce Sg Tg Al Cl) a W.drew o := by
  obtain ⟨hd, hop, hg⟩ := Loose.op_of ho (show _ = some (some 128, .unOp .not 4 (.tmp 127), some (28, true)) by kernel_rfl)
  have D : ∀ {k : Nat}, Loose.depBi akOps 217 31 k = true → Loose.Dep akOps a o k := fun h => Loose.Dep.at K.hn ho h
  exact Loose.isW (Loose.Want.dep 28 true 125 hg (by kernel_rfl) (D (k := 125) (by kernel_rfl)) (fun _ _ h => h)) 128 hd (.bool true) (fun _ => rfl) fun vals w' hF hdep => by
    have e1 : (frm a (dsts akOps) vals).eval (.tmp 127) = .bool false := (D (k := 127) (by kernel_rfl)).eval.trans (hdep 127 (D (k := 127) (by kernel_rfl)).dep); unfold execOp; simp only [hop, e1]; first | (go_simp; done) | (go_simp; rfl)
theorem akst32 {Q : Exit → Act → World → Prop} {a : Act} {W : World} {g : Nat} {gx : Nat} {gn : Nat} {gy : Nat} {gz : Nat} {pe : Nat} {po : Nat} {Ce : Nat} {Sg : Option Addr} {Tg : Nat} {Al : Option Addr} {Cl : Nat} (K : akCtx g gx gn gy gz pe po Ce Sg Tg Al Cl a W) (o : Oper) (ho : akOps[32]? = some o) : Loose.Step Tryd.prog akOps Q (akF g gx gn gy gz pe po Ce Sg Tg Al Cl) a W.drew o := by
  obtain ⟨hd, hop, hg⟩ := Loose.op_of ho (show _ = some (some 129, .pick (.tmp 125) (.tmp 128) (.const (.bool false)), none) by kernel_rfl)
  have D : ∀ {k : Nat}, Loose.depBi akOps 217 32 k = true → Loose.Dep akOps a o k := fun h => Loose.Dep.at K.hn ho h
  exact Loose.isW (Loose.Want.plain hg) 129 hd (.bool true) (fun _ => rfl) fun vals w' hF hdep => by
    have e1 : (frm a (dsts akOps) vals).eval (.tmp 125) = .bool true := (D (k := 125) (by kernel_rfl)).eval.trans (hdep 125 (D (k := 125) (by kernel_rfl)).dep); have e2 : (frm a (dsts akOps) vals).eval (.tmp 128) = .bool true := (D (k := 128) (by kernel_rfl)).eval.trans (hdep 128 (D (k := 128) (by kernel_rfl)).dep); have e3 : (frm a (dsts akOps) vals).eval (.const (.bool false)) = .bool false := rfl; unfold execOp; simp only [hop, e1, e2, e3]; first | (go_simp; done) | (go_simp; rfl)
theorem akst33 {Q : Exit → Act → World → Prop} {a : Act} {W : World} {g : Nat} {gx : Nat} {gn : Nat} {gy : Nat} {gz : Nat} {pe : Nat} {po : Nat} {Ce : Nat} {Sg : Option Addr} {Tg : Nat} {Al : Option Addr} {Cl : Nat} (K : akCtx g gx gn gy gz pe po Ce Sg Tg Al Cl a W) (o : Oper) (ho : akOps[33]? = some o) : Loose.Step Tryd.prog akOps Q (akF g gx gn gy gz pe po Ce Sg Tg Al Cl) a W.drew o := by
  obtain ⟨hd, hop, hg⟩ := Loose.op_of ho (show _ = some (some 130, .move (.tmp 129), none) by kernel_rfl)
  have D : ∀ {k : Nat}, Loose.depBi akOps 217 33 k = true → Loose.Dep akOps a o k := fun h => Loose.Dep.at K.hn ho h
  exact Loose.isW (Loose.Want.plain hg) 130 hd (.bool true) (fun _ => rfl) fun vals w' hF hdep => by
    have e1 : (frm a (dsts akOps) vals).eval (.tmp 129) = .bool true := (D (k := 129) (by kernel_rfl)).eval.trans (hdep 129 (D (k := 129) (by kernel_rfl)).dep); unfold execOp; simp only [hop, e1]; first | (go_simp; done) | (go_simp; rfl)
theorem akst34 {Q : Exit → Act → World → Prop} {a : Act} {W : World} {g : Nat} {gx : Nat} {gn : Nat} {gy : Nat} {gz : Nat} {pe : Nat} {po : Nat} {Ce : Nat} {Sg : Option Addr} {Tg : Nat} {Al : Option Addr} {Cl : Nat} (K : akCtx g gx gn gy gz pe po Ce Sg Tg Al Cl a W) (o : Oper) (ho : akOps[34]? = some o) : Loose.Step Tryd.prog akOps Q (akF g gx gn gy gz pe po Ce Sg Tg Al Cl) a W.drew o := by
  obtain ⟨hd, hop, hg⟩ := Loose.op_of ho (show _ = some (some 131, .fieldAddr 24 (.tmp 6) 1, some (33, true)) by kernel_rfl)
  have D : ∀ {k : Nat}, Loose.depBi akOps 217 34 k = true → Loose.Dep akOps a o k := fun h => Loose.Dep.at K.hn ho h
  exact Loose.isW (Loose.Want.dep 33 true 130 hg (by kernel_rfl) (D (k := 130) (by kernel_rfl)) (fun _ _ h => h)) 131 hd (.pointer (some ⟨g + 1 + 1 + 1, 1, none⟩)) (fun _ => rfl) fun vals w' hF hdep => by
    have e1 : (frm a (dsts akOps) vals).eval (.tmp 6) = .pointer (some ⟨g + 1 + 1 + 1, 0, none⟩) := (frm_eval_old a _ vals 6 (by kernel_rfl)).trans K.h6; unfold execOp; simp only [hop, e1]; first | (go_simp; done) | (go_simp; rfl)
theorem akst35 {Q : Exit → Act → World → Prop} {a : Act} {W : World} {g : Nat} {gx : Nat} {gn : Nat} {gy : Nat} {gz : Nat} {pe : Nat} {po : Nat} {Ce : Nat} {Sg : Option Addr} {Tg : Nat} {Al : Option Addr} {Cl : Nat} (K : akCtx g gx gn gy gz pe po Ce Sg Tg Al Cl a W) (o : Oper) (ho : akOps[35]? = some o) : Loose.Step Tryd.prog akOps Q (akF g gx gn gy gz pe po Ce Sg Tg Al Cl) a W.drew o := by
  obtain ⟨hd, hop, hg⟩ := Loose.op_of ho (show _ = some (some 132, .load 2 (.tmp 131), some (33, true)) by kernel_rfl)
  have D : ∀ {k : Nat}, Loose.depBi akOps 217 35 k = true → Loose.Dep akOps a o k := fun h => Loose.Dep.at K.hn ho h
  exact Loose.isW (Loose.Want.dep 33 true 130 hg (by kernel_rfl) (D (k := 130) (by kernel_rfl)) (fun _ _ h => h)) 132 hd (.int .i64 0) (fun _ => rfl) fun vals w' hF hdep => by
    have e1 : (frm a (dsts akOps) vals).eval (.tmp 131) = .pointer (some ⟨g + 1 + 1 + 1, 1, none⟩) := (D (k := 131) (by kernel_rfl)).eval.trans (hdep 131 (D (k := 131) (by kernel_rfl)).dep); have hc := K.c7 w' (Fr.trans' (Fr.refl _ _).drew hF); unfold execOp; simp only [hop, e1]; first | (go_simp; done) | (go_simp; rfl)
theorem akst36 {Q : Exit → Act → World → Prop} {a : Act} {W : World} {g : Nat} {gx : Nat} {gn : Nat} {gy : Nat} {gz : Nat} {pe : Nat} {po : Nat} {Ce : Nat} {Sg : Option Addr} {Tg : Nat} {Al : Option Addr} {Cl : Nat} (K : akCtx g gx gn gy gz pe po Ce Sg Tg Al Cl a W) (o : Oper) (ho : akOps[36]? = some o) : Loose.Step Tryd.prog akOps Q (akF g gx gn gy gz pe po Ce Sg Tg Al Cl) a W.drew o := by
  obtain ⟨hd, hop, hg⟩ := Loose.op_of ho (show _ = some (some 133, .binOp .eql 2 (.tmp 132) (.const (.int .i64 0)) 2, some (33, true)) by kernel_rfl)
  have D : ∀ {k : Nat}, Loose.depBi akOps 217 36 k = true → Loose.Dep akOps a o k := fun h => Loose.Dep.at K.hn ho h
  exact Loose.isW (Loose.Want.dep 33 true 130 hg (by kernel_rfl) (D (k := 130) (by kernel_rfl)) (fun _ _ h => h)) 133 hd (.bool true) (fun _ => rfl) fun vals w' hF hdep => by
    have e1 : (frm a (dsts akOps) vals).eval (.tmp 132) = .int .i64 0 := (D (k := 132) (by kernel_rfl)).eval.trans (hdep 132 (D (k := 132) (by kernel_rfl)).dep); have e2 : (frm a (dsts akOps) vals).eval (.const (.int .i64 0)) = .int .i64 0 := rfl; unfold execOp; simp only [hop, e1, e2]; first | (go_simp; done) | (go_simp; rfl)
theorem akst37 {Q : Exit → Act → World → Prop} {a : Act} {W : World} {g : Nat} {gx : Nat} {gn : Nat} {gy : Nat} {gz : Nat} {pe : Nat} {po : Nat} {Ce : Nat} {Sg : Option Addr} {Tg : Nat} {Al : Option Addr} {Cl : Nat} (K : akCtx g gx gn gy gz pe po Ce Sg Tg Al Cl a W) (o : Oper) (ho : akOps[37]? = some o) : Loose.Step Tryd.prog akOps Q (akF g gx gn gy gz pe po Ce Sg Tg Al Cl) a W.drew o := by
  obtain ⟨hd, hop, hg⟩ := Loose.op_of ho (show _ = some (some 134, .pick (.tmp 130) (.tmp 133) (.const (.bool false)), none) by kernel_rfl)
  have D : ∀ {k : Nat}, Loose.depBi akOps 217 37 k = true → Loose.Dep akOps a o k := fun h => Loose.Dep.at K.hn ho h
  exact Loose.isW (Loose.Want.plain hg) 134 hd (.bool true) (fun _ => rfl) fun vals w' hF hdep => by
    have e1 : (frm a (dsts akOps) vals).eval (.tmp 130) = .bool true := (D (k := 130) (by kernel_rfl)).eval.trans (hdep 130 (D (k := 130) (by kernel_rfl)).dep); have e2 : (frm a (dsts akOps) vals).eval (.tmp 133) = .bool true := (D (k := 133) (by kernel_rfl)).eval.trans (hdep 133 (D (k := 133) (by kernel_rfl)).dep); have e3 : (frm a (dsts akOps) vals).eval (.const (.bool false)) = .bool false := rfl; unfold execOp; simp only [hop, e1, e2, e3]; first | (go_simp; done) | (go_simp; rfl)
theorem akst38 {Q : Exit → Act → World → Prop} {a : Act} {W : World} {g : Nat} {gx : Nat} {gn : Nat} {gy : Nat} {gz : Nat} {pe : Nat} {po : Nat} {Ce : Nat} {Sg : Option Addr} {Tg : Nat} {Al : Option Addr} {Cl : Nat} (K : akCtx g gx gn gy gz pe po Ce Sg Tg Al Cl a W) (o : Oper) (ho : akOps[38]? = some o) : Loose.Step Tryd.prog akOps Q (akF g gx gn gy gz pe po Ce Sg Tg Al Cl) a W.drew o := by
  obtain ⟨hd, hop, hg⟩ := Loose.op_of ho (show _ = some (some 135, .move (.tmp 134), none) by kernel_rfl)
  have D : ∀ {k : Nat}, Loose.depBi akOps 217 38 k = true → Loose.Dep akOps a o k := fun h => Loose.Dep.at K.hn ho h
  exact Loose.isW (Loose.Want.plain hg) 135 hd (.bool true) (fun _ => rfl) fun vals w' hF hdep => by
    have e1 : (frm a (dsts akOps) vals).eval (.tmp 134) = .bool true := (D (k := 134) (by kernel_rfl)).eval.trans (hdep 134 (D (k := 134) (by kernel_rfl)).dep); unfold execOp; simp only [hop, e1]; first | (go_simp; done) | (go_simp; rfl)
theorem akst39 {Q : Exit → Act → World → Prop} {a : Act} {W : World} {g : Nat} {gx : Nat} {gn : Nat} {gy : Nat} {gz : Nat} {pe : Nat} {po : Nat} {Ce : Nat} {Sg : Option Addr} {Tg : Nat} {Al : Option Addr} {Cl : Nat} (K : akCtx g gx gn gy gz pe po Ce Sg Tg Al Cl a W) (o : Oper) (ho : akOps[39]? = some o) : Loose.Step Tryd.prog akOps Q (akF g gx gn gy gz pe po Ce Sg Tg Al Cl) a W.drew o := by
  obtain ⟨hd, hop, hg⟩ := Loose.op_of ho (show _ = some (some 136, .move (.tmp 8), some (38, true)) by kernel_rfl)
  have D : ∀ {k : Nat}, Loose.depBi akOps 217 39 k = true → Loose.Dep akOps a o k := fun h => Loose.Dep.at K.hn ho h
  exact Loose.isW (Loose.Want.dep 38 true 135 hg (by kernel_rfl) (D (k := 135) (by kernel_rfl)) (fun _ _ h => h)) 136 hd (.int .i64 0) (fun _ => rfl) fun vals w' hF hdep => by
    have e1 : (frm a (dsts akOps) vals).eval (.tmp 8) = .int .i64 0 := (frm_eval_old a _ vals 8 (by kernel_rfl)).trans K.h8; unfold execOp; simp only [hop, e1]; first | (go_simp; done) | (go_simp; rfl)
theorem akst40 {Q : Exit → Act → World → Prop} {a : Act} {W : World} {g : Nat} {gx : Nat} {gn : Nat} {gy : Nat} {gz : Nat} {pe : Nat} {po : Nat} {Ce : Nat} {Sg : Option Addr} {Tg : Nat} {Al : Option Addr} {Cl : Nat} (K : akCtx g gx gn gy gz pe po Ce Sg Tg Al Cl a W) (o : Oper) (ho : akOps[40]? = some o) : Loose.Step Tryd.prog akOps Q (akF g gx gn gy gz pe po Ce Sg Tg Al Cl) a W.drew o := by
  obtain ⟨hd, hop, hg⟩ := Loose.op_of ho (show _ = some (some 137, .binOp .eql 29 (.tmp 136) (.const (.int .i64 0)) 29, some (38, true)) by kernel_rfl)
  have D : ∀ {k : Nat}, Loose.depBi akOps 217 40 k = true → Loose.Dep akOps a o k := fun h => Loose.Dep.at K.hn ho h
  exact Loose.isW (Loose.Want.dep 38 true 135 hg (by kernel_rfl) (D (k := 135) (by kernel_rfl)) (fun _ _ h => h)) 137 hd (.bool true) (fun _ => rfl) fun vals w' hF hdep => by
    have e1 : (frm a (dsts akOps) vals).eval (.tmp 136) = .int .i64 0 := (D (k := 136) (by kernel_rfl)).eval.trans (hdep 136 (D (k := 136) (by kernel_rfl)).dep); have e2 : (frm a (dsts akOps) vals).eval (.const (.int .i64 0)) = .int .i64 0 := rfl; unfold execOp; simp only [hop, e1, e2]; first | (go_simp; done) | (go_simp; rfl)
theorem akst41 {Q : Exit → Act → World → Prop} {a : Act} {W : World} {g : Nat} {gx : Nat} {gn : Nat} {gy : Nat} {gz : Nat} {pe : Nat} {po : Nat} {Ce : Nat} {Sg : Option Addr} {Tg : Nat} {Al : Option Addr} {Cl : Nat} (K : akCtx g gx gn gy gz pe po Ce Sg Tg Al Cl a W) (o : Oper) (ho : akOps[41]? = some o) : Loose.Step Tryd.prog akOps Q (akF g gx gn gy gz pe po Ce Sg Tg Al Cl) a W.drew o := by
  obtain ⟨hd, hop, hg⟩ := Loose.op_of ho (show _ = some (some 138, .pick (.tmp 135) (.tmp 137) (.const (.bool false)), none) by kernel_rfl)
  have D : ∀ {k : Nat}, Loose.depBi akOps 217 41 k = true → Loose.Dep akOps a o k := fun h => Loose.Dep.at K.hn ho h
  exact Loose.isW (Loose.Want.plain hg) 138 hd (.bool true) (fun _ => rfl) fun vals w' hF hdep => by
    have e1 : (frm a (dsts akOps) vals).eval (.tmp 135) = .bool true := (D (k := 135) (by kernel_rfl)).eval.trans (hdep 135 (D (k := 135) (by kernel_rfl)).dep); have e2 : (frm a (dsts akOps) vals).eval (.tmp 137) = .bool true := (D (k := 137) (by kernel_rfl)).eval.trans (hdep 137 (D (k := 137) (by kernel_rfl)).dep); have e3 : (frm a (dsts akOps) vals).eval (.const (.bool false)) = .bool false := rfl; unfold execOp; simp only [hop, e1, e2, e3]; first | (go_simp; done) | (go_simp; rfl)
theorem akst42 {Q : Exit → Act → World → Prop} {a : Act} {W : World} {g : Nat} {gx : Nat} {gn : Nat} {gy : Nat} {gz : Nat} {pe : Nat} {po : Nat} {Ce : Nat} {Sg : Option Addr} {Tg : Nat} {Al : Option Addr} {Cl : Nat} (K : akCtx g gx gn gy gz pe po Ce Sg Tg Al Cl a W) (o : Oper) (ho : akOps[42]? = some o) : Loose.Step Tryd.prog akOps Q (akF g gx gn gy gz pe po Ce Sg Tg Al Cl) a W.drew o := by
  obtain ⟨hd, hop, hg⟩ := Loose.op_of ho (show _ = some (some 139, .move (.tmp 138), none) by kernel_rfl)
  have D : ∀ {k : Nat}, Loose.depBi akOps 217 42 k = true → Loose.Dep akOps a o k := fun h => Loose.Dep.at K.hn ho h
  exact Loose.isW (Loose.Want.plain hg) 139 hd (.bool true) (fun _ => rfl) fun vals w' hF hdep => by
    have e1 : (frm a (dsts akOps) vals).eval (.tmp 138) = .bool true := (D (k := 138) (by kernel_rfl)).eval.trans (hdep 138 (D (k := 138) (by kernel_rfl)).dep); unfold execOp; simp only [hop, e1]; first | (go_simp; done) | (go_simp; rfl)
theorem akst43 {Q : Exit → Act → World → Prop} {a : Act} {W : World} {g : Nat} {gx : Nat} {gn : Nat} {gy : Nat} {gz : Nat} {pe : Nat} {po : Nat} {Ce : Nat} {Sg : Option Addr} {Tg : Nat} {Al : Option Addr} {Cl : Nat} (K : akCtx g gx gn gy gz pe po Ce Sg Tg Al Cl a W) (o : Oper) (ho : akOps[43]? = some o) : Loose.Step Tryd.prog akOps Q (akF g gx gn gy gz pe po Ce Sg Tg Al Cl) a W.drew o := by
  obtain ⟨hd, hop, hg⟩ := Loose.op_of ho (show _ = some (some 140, .move (.tmp 7), some (42, true)) by kernel_rfl)
  have D : ∀ {k : Nat}, Loose.depBi akOps 217 43 k = true → Loose.Dep akOps a o k := fun h => Loose.Dep.at K.hn ho h
  exact Loose.isW (Loose.Want.dep 42 true 139 hg (by kernel_rfl) (D (k := 139) (by kernel_rfl)) (fun _ _ h => h)) 140 hd (.slice (some ⟨pe, po, none⟩) 40 Ce) (fun _ => rfl) fun vals w' hF hdep => by
    have e1 : (frm a (dsts akOps) vals).eval (.tmp 7) = .slice (some ⟨pe, po, none⟩) 40 Ce := (frm_eval_old a _ vals 7 (by kernel_rfl)).trans K.h7; unfold execOp; simp only [hop, e1]; first | (go_simp; done) | (go_simp; rfl)
theorem akst44 {Q : Exit → Act → World → Prop} {a : Act} {W : World} {g : Nat} {gx : Nat} {gn : Nat} {gy : Nat} {gz : Nat} {pe : Nat} {po : Nat} {Ce : Nat} {Sg : Option Addr} {Tg : Nat} {Al : Option Addr} {Cl : Nat} (K : akCtx g gx gn gy gz pe po Ce Sg Tg Al Cl a W) (o : Oper) (ho : akOps[44]? = some o) : Loose.Step Tryd.prog akOps Q (akF g gx gn gy gz pe po Ce Sg Tg Al Cl) a W.drew o := by
  obtain ⟨hd, hop, hg⟩ := Loose.op_of ho (show _ = some (some 141, .call { callee := .builtin .len, args := #[.tmp 140], argTypes := #[28] }, some (42, true)) by kernel_rfl)
  have D : ∀ {k : Nat}, Loose.depBi akOps 217 44 k = true → Loose.Dep akOps a o k := fun h => Loose.Dep.at K.hn ho h
  exact Loose.isW (Loose.Want.dep 42 true 139 hg (by kernel_rfl) (D (k := 139) (by kernel_rfl)) (fun _ _ h => h)) 141 hd (.int .i64 40) (fun _ => rfl) fun vals w' hF hdep => by
    have e1 : (frm a (dsts akOps) vals).eval (.tmp 140) = .slice (some ⟨pe, po, none⟩) 40 Ce := (D (k := 140) (by kernel_rfl)).eval.trans (hdep 140 (D (k := 140) (by kernel_rfl)).dep); unfold execOp; simp only [hop, e1, resolve, invoke, builtin, List.map_toArray, List.map_cons, List.map_nil]; first | (go_simp; done) | (go_simp; rfl)
theorem akst45 {Q : Exit → Act → World → Prop} {a : Act} {W : World} {g : Nat} {gx : Nat} {gn : Nat} {gy : Nat} {gz : Nat} {pe : Nat} {po : Nat} {Ce : Nat} {Sg : Option Addr} {Tg : Nat} {Al : Option Addr} {Cl : Nat} (K : akCtx g gx gn gy gz pe po Ce Sg Tg Al Cl a W) (o : Oper) (ho : akOps[45]? = some o) : Loose.Step Tryd.prog akOps Q (akF g gx gn gy gz pe po Ce Sg Tg Al Cl) a W.drew o := by
  obtain ⟨hd, hop, hg⟩ := Loose.op_of ho (show _ = some (some 142, .binOp .eql 3 (.tmp 141) (.const (.int .i64 40)) 3, some (42, true)) by kernel_rfl)
  have D : ∀ {k : Nat}, Loose.depBi akOps 217 45 k = true → Loose.Dep akOps a o k := fun h => Loose.Dep.at K.hn ho h
  exact Loose.isW (Loose.Want.dep 42 true 139 hg (by kernel_rfl) (D (k := 139) (by kernel_rfl)) (fun _ _ h => h)) 142 hd (.bool true) (fun _ => rfl) fun vals w' hF hdep => by
    have e1 : (frm a (dsts akOps) vals).eval (.tmp 141) = .int .i64 40 := (D (k := 141) (by kernel_rfl)).eval.trans (hdep 141 (D (k := 141) (by kernel_rfl)).dep); have e2 : (frm a (dsts akOps) vals).eval (.const (.int .i64 40)) = .int .i64 40 := rfl; unfold execOp; simp only [hop, e1, e2]; first | (go_simp; done) | (go_simp; rfl)
theorem akst46 {Q : Exit → Act → World → Prop} {a : Act} {W : World} {g : Nat} {gx : Nat} {gn : Nat} {gy : Nat} {gz : Nat} {pe : Nat} {po : Nat} {Ce : Nat} {Sg : Option Addr} {Tg : Nat} {Al : Option Addr} {Cl : Nat} (K : akCtx g gx gn gy gz pe po Ce Sg Tg Al Cl a W) (o : Oper) (ho : akOps[46]? = some o) : Loose.Step Tryd.prog akOps Q (akF g gx gn gy gz pe po Ce Sg Tg Al Cl) a W.drew o := by
  obtain ⟨hd, hop, hg⟩ := Loose.op_of ho (show _ = some (some 143, .pick (.tmp 139) (.tmp 142) (.const (.bool false)), none) by kernel_rfl)
  have D : ∀ {k : Nat}, Loose.depBi akOps 217 46 k = true → Loose.Dep akOps a o k := fun h => Loose.Dep.at K.hn ho h
  exact Loose.isW (Loose.Want.plain hg) 143 hd (.bool true) (fun _ => rfl) fun vals w' hF hdep => by
    have e1 : (frm a (dsts akOps) vals).eval (.tmp 139) = .bool true := (D (k := 139) (by kernel_rfl)).eval.trans (hdep 139 (D (k := 139) (by kernel_rfl)).dep); have e2 : (frm a (dsts akOps) vals).eval (.tmp 142) = .bool true := (D (k := 142) (by kernel_rfl)).eval.trans (hdep 142 (D (k := 142) (by kernel_rfl)).dep); have e3 : (frm a (dsts akOps) vals).eval (.const (.bool false)) = .bool false := rfl; unfold execOp; simp only [hop, e1, e2, e3]; first | (go_simp; done) | (go_simp; rfl)
theorem akst47 {Q : Exit → Act → World → Prop} {a : Act} {W : World} {g : Nat} {gx : Nat} {gn : Nat} {gy : Nat} {gz : Nat} {pe : Nat} {po : Nat} {Ce : Nat} {Sg : Option Addr} {Tg : Nat} {Al : Option Addr} {Cl : Nat} (K : akCtx g gx gn gy gz pe po Ce Sg Tg Al Cl a W) (o : Oper) (ho : akOps[47]? = some o) : Loose.Step Tryd.prog akOps Q (akF g gx gn gy gz pe po Ce Sg Tg Al Cl) a W.drew o := by
  obtain ⟨hd, hop, hg⟩ := Loose.op_of ho (show _ = some (some 144, .move (.tmp 143), none) by kernel_rfl)
  have D : ∀ {k : Nat}, Loose.depBi akOps 217 47 k = true → Loose.Dep akOps a o k := fun h => Loose.Dep.at K.hn ho h
  exact Loose.isW (Loose.Want.plain hg) 144 hd (.bool true) (fun _ => rfl) fun vals w' hF hdep => by
    have e1 : (frm a (dsts akOps) vals).eval (.tmp 143) = .bool true := (D (k := 143) (by kernel_rfl)).eval.trans (hdep 143 (D (k := 143) (by kernel_rfl)).dep); unfold execOp; simp only [hop, e1]; first | (go_simp; done) | (go_simp; rfl)
theorem akst48 {Q : Exit → Act → World → Prop} {a : Act} {W : World} {g : Nat} {gx : Nat} {gn : Nat} {gy : Nat} {gz : Nat} {pe : Nat} {po : Nat} {Ce : Nat} {Sg : Option Addr} {Tg : Nat} {Al : Option Addr} {Cl : Nat} (K : akCtx g gx gn gy gz pe po Ce Sg Tg Al Cl a W) (o : Oper) (ho : akOps[48]? = some o) : Loose.Step Tryd.prog akOps Q (akF g gx gn gy gz pe po Ce Sg Tg Al Cl) a W.drew o := by
  obtain ⟨hd, hop, hg⟩ := Loose.op_of ho (show _ = some (some 145, .move (.tmp 7), some (47, true)) by kernel_rfl)
  have D : ∀ {k : Nat}, Loose.depBi akOps 217 48 k = true → Loose.Dep akOps a o k := fun h => Loose.Dep.at K.hn ho h
  exact Loose.isW (Loose.Want.dep 47 true 144 hg (by kernel_rfl) (D (k := 144) (by kernel_rfl)) (fun _ _ h => h)) 145 hd (.slice (some ⟨pe, po, none⟩) 40 Ce) (fun _ => rfl) fun vals w' hF hdep => by
    have e1 : (frm a (dsts akOps) vals).eval (.tmp 7) = .slice (some ⟨pe, po, none⟩) 40 Ce := (frm_eval_old a _ vals 7 (by kernel_rfl)).trans K.h7; unfold execOp; simp only [hop, e1]; first | (go_simp; done) | (go_simp; rfl)
theorem akst49 {Q : Exit → Act → World → Prop} {a : Act} {W : World} {g : Nat} {gx : Nat} {gn : Nat} {gy : Nat} {gz : Nat} {pe : Nat} {po : Nat} {Ce : Nat} {Sg : Option Addr} {Tg : Nat} {Al : Option Addr} {Cl : Nat} (K : akCtx g gx gn gy gz pe po Ce Sg Tg Al Cl a W) (o : Oper) (ho : akOps[49]? = some o) : Loose.Step Tryd.prog akOps Q (akF g gx gn gy gz pe po Ce Sg Tg Al Cl) a W.drew o := by
  obtain ⟨hd, hop, hg⟩ := Loose.op_of ho (show _ = some (some 146, .indexAddr 28 (.tmp 145) (.const (.int .i64 7)), some (47, true)) by kernel_rfl)
  have D : ∀ {k : Nat}, Loose.depBi akOps 217 49 k = true → Loose.Dep akOps a o k := fun h => Loose.Dep.at K.hn ho h
  exact Loose.isW (Loose.Want.dep 47 true 144 hg (by kernel_rfl) (D (k := 144) (by kernel_rfl)) (fun _ _ h => h)) 146 hd (.pointer (some ⟨pe, po + 7, none⟩)) (fun _ => rfl) fun vals w' hF hdep => by
    have e1 : (frm a (dsts akOps) vals).eval (.tmp 145) = .slice (some ⟨pe, po, none⟩) 40 Ce := (D (k := 145) (by kernel_rfl)).eval.trans (hdep 145 (D (k := 145) (by kernel_rfl)).dep); have e2 : (frm a (dsts akOps) vals).eval (.const (.int .i64 7)) = .int .i64 7 := rfl; unfold execOp; simp only [hop, e1, e2]; first | (go_simp; done) | (go_simp; rfl)
theorem akst50 {Q : Exit → Act → World → Prop} {a : Act} {W : World} {g : Nat} {gx : Nat} {gn : Nat} {gy : Nat} {gz : Nat} {pe : Nat} {po : Nat} {Ce : Nat} {Sg : Option Addr} {Tg : Nat} {Al : Option Addr} {Cl : Nat} (K : akCtx g gx gn gy gz pe po Ce Sg Tg Al Cl a W) (o : Oper) (ho : akOps[50]? = some o) : Loose.Step Tryd.prog akOps Q (akF g gx gn gy gz pe po Ce Sg Tg Al Cl) a W.drew o := by
  obtain ⟨hd, hop, hg⟩ := Loose.op_of ho (show _ = some (some 147, .load 5 (.tmp 146), some (47, true)) by kernel_rfl)
  have D : ∀ {k : Nat}, Loose.depBi akOps 217 50 k = true → Loose.Dep akOps a o k := fun h => Loose.Dep.at K.hn ho h
  exact Loose.isW (Loose.Want.dep 47 true 144 hg (by kernel_rfl) (D (k := 144) (by kernel_rfl)) (fun _ _ h => h)) 147 hd (.int .u8 2) (fun _ => rfl) fun vals w' hF hdep => by
    have e1 : (frm a (dsts akOps) vals).eval (.tmp 146) = .pointer (some ⟨pe, po + 7, none⟩) := (D (k := 146) (by kernel_rfl)).eval.trans (hdep 146 (D (k := 146) (by kernel_rfl)).dep); have hc := K.c10 w' (Fr.trans' (Fr.refl _ _).drew hF); unfold execOp; simp only [hop, e1]; first | (go_simp; done) | (go_simp; rfl)
theorem akst51 {Q : Exit → Act → World → Prop} {a : Act} {W : World} {g : Nat} {gx : Nat} {gn : Nat} {gy : Nat} {gz : Nat} {pe : Nat} {po : Nat} {Ce : Nat} {Sg : Option Addr} {Tg : Nat} {Al : Option Addr} {Cl : Nat} (K : akCtx g gx gn gy gz pe po Ce Sg Tg Al Cl a W) (o : Oper) (ho : akOps[51]? = some o) : Loose.Step Tryd.prog akOps Q (akF g gx gn gy gz pe po Ce Sg Tg Al Cl) a W.drew o := by
  obtain ⟨hd, hop, hg⟩ := Loose.op_of ho (show _ = some (some 148, .binOp .eql 5 (.tmp 147) (.const (.int .u8 2)) 5, some (47, true)) by kernel_rfl)
  have D : ∀ {k : Nat}, Loose.depBi akOps 217 51 k = true → Loose.Dep akOps a o k := fun h => Loose.Dep.at K.hn ho h
  exact Loose.isW (Loose.Want.dep 47 true 144 hg (by kernel_rfl) (D (k := 144) (by kernel_rfl)) (fun _ _ h => h)) 148 hd (.bool true) (fun _ => rfl) fun vals w' hF hdep => by
    have e1 : (frm a (dsts akOps) vals).eval (.tmp 147) = .int .u8 2 := (D (k := 147) (by kernel_rfl)).eval.trans (hdep 147 (D (k := 147) (by kernel_rfl)).dep); have e2 : (frm a (dsts akOps) vals).eval (.const (.int .u8 2)) = .int .u8 2 := rfl; unfold execOp; simp only [hop, e1, e2]; first | (go_simp; done) | (go_simp; rfl)
theorem akst52 {Q : Exit → Act → World → Prop} {a : Act} {W : World} {g : Nat} {gx : Nat} {gn : Nat} {gy : Nat} {gz : Nat} {pe : Nat} {po : Nat} {Ce : Nat} {Sg : Option Addr} {Tg : Nat} {Al : Option Addr} {Cl : Nat} (K : akCtx g gx gn gy gz pe po Ce Sg Tg Al Cl a W) (o : Oper) (ho : akOps[52]? = some o) : Loose.Step Tryd.prog akOps Q (akF g gx gn gy gz pe po Ce Sg Tg Al Cl) a W.drew o := by
  obtain ⟨hd, hop, hg⟩ := Loose.op_of ho (show _ = some (some 149, .pick (.tmp 144) (.tmp 148) (.const (.bool false)), none) by kernel_rfl)
  have D : ∀ {k : Nat}, Loose.depBi akOps 217 52 k = true → Loose.Dep akOps a o k := fun h => Loose.Dep.at K.hn ho h
  exact Loose.isW (Loose.Want.plain hg) 149 hd (.bool true) (fun _ => rfl) fun vals w' hF hdep => by
    have e1 : (frm a (dsts akOps) vals).eval (.tmp 144) = .bool true := (D (k := 144) (by kernel_rfl)).eval.trans (hdep 144 (D (k := 144) (by kernel_rfl)).dep); have e2 : (frm a (dsts akOps) vals).eval (.tmp 148) = .bool true := (D (k := 148) (by kernel_rfl)).eval.trans (hdep 148 (D (k := 148) (by kernel_rfl)).dep); have e3 : (frm a (dsts akOps) vals).eval (.const (.bool false)) = .bool false := rfl; unfold execOp; simp only [hop, e1, e2, e3]; first | (go_simp; done) | (go_simp; rfl)
theorem akst53 {Q : Exit → Act → World → Prop} {a : Act} {W : World} {g : Nat} {gx : Nat} {gn : Nat} {gy : Nat} {gz : Nat} {pe : Nat} {po : Nat} {Ce : Nat} {Sg : Option Addr} {Tg : Nat} {Al : Option Addr} {Cl : Nat} (K : akCtx g gx gn gy gz pe po Ce Sg Tg Al Cl a W) (o : Oper) (ho : akOps[53]? = some o) : Loose.Step Tryd.prog akOps Q (akF g gx gn gy gz pe po Ce Sg Tg Al Cl) a W.drew o := by
  obtain ⟨hd, hop, hg⟩ := Loose.op_of ho (show _ = some (some 150, .move (.tmp 149), none) by kernel_rfl)
  have D : ∀ {k : Nat}, Loose.depBi akOps 217 53 k = true → Loose.Dep akOps a o k := fun h => Loose.Dep.at K.hn ho h
  exact Loose.isW (Loose.Want.plain hg) 150 hd (.bool true) (fun _ => rfl) fun vals w' hF hdep => by
    have e1 : (frm a (dsts akOps) vals).eval (.tmp 149) = .bool true := (D (k := 149) (by kernel_rfl)).eval.trans (hdep 149 (D (k := 149) (by kernel_rfl)).dep); unfold execOp; simp only [hop, e1]; first | (go_simp; done) | (go_simp; rfl)
theorem akst54 {Q : Exit → Act → World → Prop} {a : Act} {W : World} {g : Nat} {gx : Nat} {gn : Nat} {gy : Nat} {gz : Nat} {pe : Nat} {po : Nat} {Ce : Nat} {Sg : Option Addr} {Tg : Nat} {Al : Option Addr} {Cl : Nat} (K : akCtx g gx gn gy gz pe po Ce Sg Tg Al Cl a W) (o : Oper) (ho : akOps[54]? = some o) : Loose.Step Tryd.prog akOps Q (akF g gx gn gy gz pe po Ce Sg Tg Al Cl) a W.drew o := by
  obtain ⟨hd, hop, hg⟩ := Loose.op_of ho (show _ = some (some 151, .move (.tmp 7), some (53, true)) by kernel_rfl)
  have D : ∀ {k : Nat}, Loose.depBi akOps 217 54 k = true → Loose.Dep akOps a o k := fun h => Loose.Dep.at K.hn ho h
  exact Loose.isW (Loose.Want.dep 53 true 150 hg (by kernel_rfl) (D (k := 150) (by kernel_rfl)) (fun _ _ h => h)) 151 hd (.slice (some ⟨pe, po, none⟩) 40 Ce) (fun _ => rfl) fun vals w' hF hdep => by
    have e1 : (frm a (dsts akOps) vals).eval (.tmp 7) = .slice (some ⟨pe, po, none⟩) 40 Ce := (frm_eval_old a _ vals 7 (by kernel_rfl)).trans K.h7; unfold execOp; simp only [hop, e1]; first | (go_simp; done) | (go_simp; rfl)
theorem akst55 {Q : Exit → Act → World → Prop} {a : Act} {W : World} {g : Nat} {gx : Nat} {gn : Nat} {gy : Nat} {gz : Nat} {pe : Nat} {po : Nat} {Ce : Nat} {Sg : Option Addr} {Tg : Nat} {Al : Option Addr} {Cl : Nat} (K : akCtx g gx gn gy gz pe po Ce Sg Tg Al Cl a W) (o : Oper) (ho : akOps[55]? = some o) : Loose.Step Tryd.prog akOps Q (akF g gx gn gy gz pe po Ce Sg Tg Al Cl) a W.drew o := by
  obtain ⟨hd, hop, hg⟩ := Loose.op_of ho (show _ = some (some 152, .indexAddr 28 (.tmp 151) (.const (.int .i64 15)), some (53, true)) by kernel_rfl)
  have D : ∀ {k : Nat}, Loose.depBi akOps 217 55 k = true → Loose.Dep akOps a o k := fun h => Loose.Dep.at K.hn ho h
  exact Loose.isW (Loose.Want.dep 53 true 150 hg (by kernel_rfl) (D (k := 150) (by kernel_rfl)) (fun _ _ h => h)) 152 hd (.pointer (some ⟨pe, po + 15, none⟩)) (fun _ => rfl) fun vals w' hF hdep => by
    have e1 : (frm a (dsts akOps) vals).eval (.tmp 151) = .slice (some ⟨pe, po, none⟩) 40 Ce := (D (k := 151) (by kernel_rfl)).eval.trans (hdep 151 (D (k := 151) (by kernel_rfl)).dep); have e2 : (frm a (dsts akOps) vals).eval (.const (.int .i64 15)) = .int .i64 15 := rfl; unfold execOp; simp only [hop, e1, e2]; first | (go_simp; done) | (go_simp; rfl)
theorem akst56 {Q : Exit → Act → World → Prop} {a : Act} {W : World} {g : Nat} {gx : Nat} {gn : Nat} {gy : Nat} {gz : Nat} {pe : Nat} {po : Nat} {Ce : Nat} {Sg : Option Addr} {Tg : Nat} {Al : Option Addr} {Cl : Nat} (K : akCtx g gx gn gy gz pe po Ce Sg Tg Al Cl a W) (o : Oper) (ho : akOps[56]? = some o) : Loose.Step Tryd.prog akOps Q (akF g gx gn gy gz pe po Ce Sg Tg Al Cl) a W.drew o := by
  obtain ⟨hd, hop, hg⟩ := Loose.op_of ho (show _ = some (some 153, .load 5 (.tmp 152), some (53, true)) by kernel_rfl)
  have D : ∀ {k : Nat}, Loose.depBi akOps 217 56 k = true → Loose.Dep akOps a o k := fun h => Loose.Dep.at K.hn ho h
  exact Loose.isW (Loose.Want.dep 53 true 150 hg (by kernel_rfl) (D (k := 150) (by kernel_rfl)) (fun _ _ h => h)) 153 hd (.int .u8 12) (fun _ => rfl) fun vals w' hF hdep => by
    have e1 : (frm a (dsts akOps) vals).eval (.tmp 152) = .pointer (some ⟨pe, po + 15, none⟩) := (D (k := 152) (by kernel_rfl)).eval.trans (hdep 152 (D (k := 152) (by kernel_rfl)).dep); have hc := K.c11 w' (Fr.trans' (Fr.refl _ _).drew hF); unfold execOp; simp only [hop, e1]; first | (go_simp; done) | (go_simp; rfl)
theorem akst57 {Q : Exit → Act → World → Prop} {a : Act} {W : World} {g : Nat} {gx : Nat} {gn : Nat} {gy : Nat} {gz : Nat} {pe : Nat} {po : Nat} {Ce : Nat} {Sg : Option Addr} {Tg : Nat} {Al : Option Addr} {Cl : Nat} (K : akCtx g gx gn gy gz pe po Ce Sg Tg Al Cl a W) (o : Oper) (ho : akOps[57]? = some o) : Loose.Step Tryd.prog akOps Q (akF g gx gn gy gz pe po Ce Sg Tg Al Cl) a W.drew o := by
  obtain ⟨hd, hop, hg⟩ := Loose.op_of ho (show _ = some (some 154, .binOp .eql 5 (.tmp 153) (.const (.int .u8 12)) 5, some (53, true)) by kernel_rfl)
  have D : ∀ {k : Nat}, Loose.depBi akOps 217 57 k = true → Loose.Dep akOps a o k := fun h => Loose.Dep.at K.hn ho h
  exact Loose.isW (Loose.Want.dep 53 true 150 hg (by kernel_rfl) (D (k := 150) (by kernel_rfl)) (fun _ _ h => h)) 154 hd (.bool true) (fun _ => rfl) fun vals w' hF hdep => by
    have e1 : (frm a (dsts akOps) vals).eval (.tmp 153) = .int .u8 12 := (D (k := 153) (by kernel_rfl)).eval.trans (hdep 153 (D (k := 153) (by kernel_rfl)).dep); have e2 : (frm a (dsts akOps) vals).eval (.const (.int .u8 12)) = .int .u8 12 := rfl; unfold execOp; simp only [hop, e1, e2]; first | (go_simp; done) | (go_simp; rfl)
theorem akst58 {Q : Exit → Act → World → Prop} {a : Act} {W : World} {g : Nat} {gx : Nat} {gn : Nat} {gy : Nat} {gz : Nat} {pe : Nat} {po : Nat} {Ce : Nat} {Sg : Option Addr} {Tg : Nat} {Al : Option Addr} {Cl : Nat} (K : akCtx g gx gn gy gz pe po Ce Sg Tg Al Cl a W) (o : Oper) (ho : akOps[58]? = some o) : Loose.Step Tryd.prog akOps Q (akF g gx gn gy gz pe po Ce Sg Tg Al Cl) a W.drew o := by
  obtain ⟨hd, hop, hg⟩ := Loose.op_of ho (show _ = some (some 155, .pick (.tmp 150) (.tmp 154) (.const (.bool false)), none) by kernel_rfl)
  have D : ∀ {k : Nat}, Loose.depBi akOps 217 58 k = true → Loose.Dep akOps a o k := fun h => Loose.Dep.at K.hn ho h
  exact Loose.isW (Loose.Want.plain hg) 155 hd (.bool true) (fun _ => rfl) fun vals w' hF hdep => by
    have e1 : (frm a (dsts akOps) vals).eval (.tmp 150) = .bool true := (D (k := 150) (by kernel_rfl)).eval.trans (hdep 150 (D (k := 150) (by kernel_rfl)).dep); have e2 : (frm a (dsts akOps) vals).eval (.tmp 154) = .bool true := (D (k := 154) (by kernel_rfl)).eval.trans (hdep 154 (D (k := 154) (by kernel_rfl)).dep); have e3 : (frm a (dsts akOps) vals).eval (.const (.bool false)) = .bool false := rfl; unfold execOp; simp only [hop, e1, e2, e3]; first | (go_simp; done) | (go_simp; rfl)
theorem akst59 {Q : Exit → Act → World → Prop} {a : Act} {W : World} {g : Nat} {gx : Nat} {gn : Nat} {gy : Nat} {gz : Nat} {pe : Nat} {po : Nat} {Ce : Nat} {Sg : Option Addr} {Tg : Nat} {Al : Option Addr} {Cl : Nat} (K : akCtx g gx gn gy gz pe po Ce Sg Tg Al Cl a W) (o : Oper) (ho : akOps[59]? = some o) : Loose.Step Tryd.prog akOps Q (akF g gx gn gy gz pe po Ce Sg Tg Al Cl) a W.drew o := by
  obtain ⟨hd, hop, hg⟩ := Loose.op_of ho (show _ = some (some 156, .move (.tmp 155), none) by kernel_rfl)
  have D : ∀ {k : Nat}, Loose.depBi akOps 217 59 k = true → Loose.Dep akOps a o k := fun h => Loose.Dep.at K.hn ho h
  exact Loose.isW (Loose.Want.plain hg) 156 hd (.bool true) (fun _ => rfl) fun vals w' hF hdep => by
    have e1 : (frm a (dsts akOps) vals).eval (.tmp 155) = .bool true := (D (k := 155) (by kernel_rfl)).eval.trans (hdep 155 (D (k := 155) (by kernel_rfl)).dep); unfold execOp; simp only [hop, e1]; first | (go_simp; done) | (go_simp; rfl)
theorem akst60 {Q : Exit → Act → World → Prop} {a : Act} {W : World} {g : Nat} {gx : Nat} {gn : Nat} {gy : Nat} {gz : Nat} {pe : Nat} {po : Nat} {Ce : Nat} {Sg : Option Addr} {Tg : Nat} {Al : Option Addr} {Cl : Nat} (K : akCtx g gx gn gy gz pe po Ce Sg Tg Al Cl a W) (o : Oper) (ho : akOps[60]? = some o) : Loose.Step Tryd.prog akOps Q (akF g gx gn gy gz pe po Ce Sg Tg Al Cl) a W.drew o := by
  obtain ⟨hd, hop, hg⟩ := Loose.op_of ho (show _ = some (some 157, .move (.tmp 10), some (59, true)) by kernel_rfl)
  have D : ∀ {k : Nat}, Loose.depBi akOps 217 60 k = true → Loose.Dep akOps a o k := fun h => Loose.Dep.at K.hn ho h
  exact Loose.isW (Loose.Want.dep 59 true 156 hg (by kernel_rfl) (D (k := 156) (by kernel_rfl)) (fun _ _ h => h)) 157 hd (.int .i64 0) (fun _ => rfl) fun vals w' hF hdep => by
    have e1 : (frm a (dsts akOps) vals).eval (.tmp 10) = .int .i64 0 := (frm_eval_old a _ vals 10 (by kernel_rfl)).trans K.h10; unfold execOp; simp only [hop, e1]; first | (go_simp; done) | (go_simp; rfl)
theorem akst61 {Q : Exit → Act → World → Prop} {a : Act} {W : World} {g : Nat} {gx : Nat} {gn : Nat} {gy : Nat} {gz : Nat} {pe : Nat} {po : Nat} {Ce : Nat} {Sg : Option Addr} {Tg : Nat} {Al : Option Addr} {Cl : Nat} (K : akCtx g gx gn gy gz pe po Ce Sg Tg Al Cl a W) (o : Oper) (ho : akOps[61]? = some o) : Loose.Step Tryd.prog akOps Q (akF g gx gn gy gz pe po Ce Sg Tg Al Cl) a W.drew o := by
  obtain ⟨hd, hop, hg⟩ := Loose.op_of ho (show _ = some (some 158, .binOp .eql 29 (.tmp 157) (.const (.int .i64 0)) 29, some (59, true)) by kernel_rfl)
  have D : ∀ {k : Nat}, Loose.depBi akOps 217 61 k = true → Loose.Dep akOps a o k := fun h => Loose.Dep.at K.hn ho h
  exact Loose.isW (Loose.Want.dep 59 true 156 hg (by kernel_rfl) (D (k := 156) (by kernel_rfl)) (fun _ _ h => h)) 158 hd (.bool true) (fun _ => rfl) fun vals w' hF hdep => by
    have e1 : (frm a (dsts akOps) vals).eval (.tmp 157) = .int .i64 0 := (D (k := 157) (by kernel_rfl)).eval.trans (hdep 157 (D (k := 157) (by kernel_rfl)).dep); have e2 : (frm a (dsts akOps) vals).eval (.const (.int .i64 0)) = .int .i64 0 := rfl; unfold execOp; simp only [hop, e1, e2]; first | (go_simp; done) | (go_simp; rfl)
theorem akst62 {Q : Exit → Act → World → Prop} {a : Act} {W : World} {g : Nat} {gx : Nat} {gn : Nat} {gy : Nat} {gz : Nat} {pe : Nat} {po : Nat} {Ce : Nat} {Sg : Option Addr} {Tg : Nat} {Al : Option Addr} {Cl : Nat} (K : akCtx g gx gn gy gz pe po Ce Sg Tg Al Cl a W) (o : Oper) (ho : akOps[62]? = some o) : Loose.Step Tryd.prog akOps Q (akF g gx gn gy gz pe po Ce Sg Tg Al Cl) a W.drew o := by
  obtain ⟨hd, hop, hg⟩ := Loose.op_of ho (show _ = some (some 159, .pick (.tmp 156) (.tmp 158) (.const (.bool false)), none) by kernel_rfl)
  have D : ∀ {k : Nat}, Loose.depBi akOps 217 62 k = true → Loose.Dep akOps a o k := fun h => Loose.Dep.at K.hn ho h
  exact Loose.isW (Loose.Want.plain hg) 159 hd (.bool true) (fun _ => rfl) fun vals w' hF hdep => by
    have e1 : (frm a (dsts akOps) vals).eval (.tmp 156) = .bool true := (D (k := 156) (by kernel_rfl)).eval.trans (hdep 156 (D (k := 156) (by kernel_rfl)).dep); have e2 : (frm a (dsts akOps) vals).eval (.tmp 158) = .bool true := (D (k := 158) (by kernel_rfl)).eval.trans (hdep 158 (D (k := 158) (by kernel_rfl)).dep); have e3 : (frm a (dsts akOps) vals).eval (.const (.bool false)) = .bool false := rfl; unfold execOp; simp only [hop, e1, e2, e3]; first | (go_simp; done) | (go_simp; rfl)
theorem akst63 {Q : Exit → Act → World → Prop} {a : Act} {W : World} {g : Nat} {gx : Nat} {gn : Nat} {gy : Nat} {gz : Nat} {pe : Nat} {po : Nat} {Ce : Nat} {Sg : Option Addr} {Tg : Nat} {Al : Option Addr} {Cl : Nat} (K : akCtx g gx gn gy gz pe po Ce Sg Tg Al Cl a W) (o : Oper) (ho : akOps[63]? = some o) : Loose.Step Tryd.prog akOps Q (akF g gx gn gy gz pe po Ce Sg Tg Al Cl) a W.drew o := by
  obtain ⟨hd, hop, hg⟩ := Loose.op_of ho (show _ = some (some 160, .move (.tmp 159), none) by kernel_rfl)
  have D : ∀ {k : Nat}, Loose.depBi akOps 217 63 k = true → Loose.Dep akOps a o k := fun h => Loose.Dep.at K.hn ho h
  exact Loose.isW (Loose.Want.plain hg) 160 hd (.bool true) (fun _ => rfl) fun vals w' hF hdep => by
    have e1 : (frm a (dsts akOps) vals).eval (.tmp 159) = .bool true := (D (k := 159) (by kernel_rfl)).eval.trans (hdep 159 (D (k := 159) (by kernel_rfl)).dep); unfold execOp; simp only [hop, e1]; first | (go_simp; done) | (go_simp; rfl)
theorem akst64 {Q : Exit → Act → World → Prop} {a : Act} {W : World} {g : Nat} {gx : Nat} {gn : Nat} {gy : Nat} {gz : Nat} {pe : Nat} {po : Nat} {Ce : Nat} {Sg : Option Addr} {Tg : Nat} {Al : Option Addr} {Cl : Nat} (K : akCtx g gx gn gy gz pe po Ce Sg Tg Al Cl a W) (o : Oper) (ho : akOps[64]? = some o) : Loose.Step Tryd.prog akOps Q (akF g gx gn gy gz pe po Ce Sg Tg Al Cl) a W.drew o := by
  obtain ⟨hd, hop, hg⟩ := Loose.op_of ho (show _ = some (some 161, .move (.tmp 9), some (63, true)) by kernel_rfl)
  have D : ∀ {k : Nat}, Loose.depBi akOps 217 64 k = true → Loose.Dep akOps a o k := fun h => Loose.Dep.at K.hn ho h
  exact Loose.isW (Loose.Want.dep 63 true 160 hg (by kernel_rfl) (D (k := 160) (by kernel_rfl)) (fun _ _ h => h)) 161 hd (.slice Sg 8 Tg) (fun _ => rfl) fun vals w' hF hdep => by
    have e1 : (frm a (dsts akOps) vals).eval (.tmp 9) = .slice Sg 8 Tg := (frm_eval_old a _ vals 9 (by kernel_rfl)).trans K.h9; unfold execOp; simp only [hop, e1]; first | (go_simp; done) | (go_simp; rfl)
theorem akst65 {Q : Exit → Act → World → Prop} {a : Act} {W : World} {g : Nat} {gx : Nat} {gn : Nat} {gy : Nat} {gz : Nat} {pe : Nat} {po : Nat} {Ce : Nat} {Sg : Option Addr} {Tg : Nat} {Al : Option Addr} {Cl : Nat} (K : akCtx g gx gn gy gz pe po Ce Sg Tg Al Cl a W) (o : Oper) (ho : akOps[65]? = some o) : Loose.Step Tryd.prog akOps Q (akF g gx gn gy gz pe po Ce Sg Tg Al Cl) a W.drew o := by
  obtain ⟨hd, hop, hg⟩ := Loose.op_of ho (show _ = some (some 162, .call { callee := .builtin .len, args := #[.tmp 161], argTypes := #[28] }, some (63, true)) by kernel_rfl)
  have D : ∀ {k : Nat}, Loose.depBi akOps 217 65 k = true → Loose.Dep akOps a o k := fun h => Loose.Dep.at K.hn ho h
  exact Loose.isW (Loose.Want.dep 63 true 160 hg (by kernel_rfl) (D (k := 160) (by kernel_rfl)) (fun _ _ h => h)) 162 hd (.int .i64 8) (fun _ => rfl) fun vals w' hF hdep => by
    have e1 : (frm a (dsts akOps) vals).eval (.tmp 161) = .slice Sg 8 Tg := (D (k := 161) (by kernel_rfl)).eval.trans (hdep 161 (D (k := 161) (by kernel_rfl)).dep); unfold execOp; simp only [hop, e1, resolve, invoke, builtin, List.map_toArray, List.map_cons, List.map_nil]; first | (go_simp; done) | (go_simp; rfl)
theorem akst66 {Q : Exit → Act → World → Prop} {a : Act} {W : World} {g : Nat} {gx : Nat} {gn : Nat} {gy : Nat} {gz : Nat} {pe : Nat} {po : Nat} {Ce : Nat} {Sg : Option Addr} {Tg : Nat} {Al : Option Addr} {Cl : Nat} (K : akCtx g gx gn gy gz pe po Ce Sg Tg Al Cl a W) (o : Oper) (ho : akOps[66]? = some o) : Loose.Step Tryd.prog akOps Q (akF g gx gn gy gz pe po Ce Sg Tg Al Cl) a W.drew o := by
  obtain ⟨hd, hop, hg⟩ := Loose.op_of ho (show _ = some (some 163, .binOp .eql 3 (.tmp 162) (.const (.int .i64 8)) 3, some (63, true)) by kernel_rfl)
  have D : ∀ {k : Nat}, Loose.depBi akOps 217 66 k = true → Loose.Dep akOps a o k := fun h => Loose.Dep.at K.hn ho h
  exact Loose.isW (Loose.Want.dep 63 true 160 hg (by kernel_rfl) (D (k := 160) (by kernel_rfl)) (fun _ _ h => h)) 163 hd (.bool true) (fun _ => rfl) fun vals w' hF hdep => by
    have e1 : (frm a (dsts akOps) vals).eval (.tmp 162) = .int .i64 8 := (D (k := 162) (by kernel_rfl)).eval.trans (hdep 162 (D (k := 162) (by kernel_rfl)).dep); have e2 : (frm a (dsts akOps) vals).eval (.const (.int .i64 8)) = .int .i64 8 := rfl; unfold execOp; simp only [hop, e1, e2]; first | (go_simp; done) | (go_simp; rfl)
theorem akst67 {Q : Exit → Act → World → Prop} {a : Act} {W : World} {g : Nat} {gx : Nat} {gn : Nat} {gy : Nat} {gz : Nat} {pe : Nat} {po : Nat} {Ce : Nat} {Sg : Option Addr} {Tg : Nat} {Al : Option Addr} {Cl : Nat} (K : akCtx g gx gn gy gz pe po Ce Sg Tg Al Cl a W) (o : Oper) (ho : akOps[67]? = some o) : Loose.Step Tryd.prog akOps Q (akF g gx gn gy gz pe po Ce Sg Tg Al Cl) a W.drew o := by
  obtain ⟨hd, hop, hg⟩ := Loose.op_of ho (show _ = some (some 164, .pick (.tmp 160) (.tmp 163) (.const (.bool false)), none) by kernel_rfl)
  have D : ∀ {k : Nat}, Loose.depBi akOps 217 67 k = true → Loose.Dep akOps a o k := fun h => Loose.Dep.at K.hn ho h
  exact Loose.isW (Loose.Want.plain hg) 164 hd (.bool true) (fun _ => rfl) fun vals w' hF hdep => by
    have e1 : (frm a (dsts akOps) vals).eval (.tmp 160) = .bool true := (D (k := 160) (by kernel_rfl)).eval.trans (hdep 160 (D (k := 160) (by kernel_rfl)).dep); have e2 : (frm a (dsts akOps) vals).eval (.tmp 163) = .bool true := (D (k := 163) (by kernel_rfl)).eval.trans (hdep 163 (D (k := 163) (by kernel_rfl)).dep); have e3 : (frm a (dsts akOps) vals).eval (.const (.bool false)) = .bool false := rfl; unfold execOp; simp only [hop, e1, e2, e3]; first | (go_simp; done) | (go_simp; rfl)
theorem akst68 {Q : Exit → Act → World → Prop} {a : Act} {W : World} {g : Nat} {gx : Nat} {gn : Nat} {gy : Nat} {gz : Nat} {pe : Nat} {po : Nat} {Ce : Nat} {Sg : Option Addr} {Tg : Nat} {Al : Option Addr} {Cl : Nat} (K : akCtx g gx gn gy gz pe po Ce Sg Tg Al Cl a W) (o : Oper) (ho : akOps[68]? = some o) : Loose.Step Tryd.prog akOps Q (akF g gx gn gy gz pe po Ce Sg Tg Al Cl) a W.drew o := by
  obtain ⟨hd, hop, hg⟩ := Loose.op_of ho (show _ = some (some 165, .move (.tmp 164), none) by kernel_rfl)
  have D : ∀ {k : Nat}, Loose.depBi akOps 217 68 k = true → Loose.Dep akOps a o k := fun h => Loose.Dep.at K.hn ho h
  exact Loose.isW (Loose.Want.plain hg) 165 hd (.bool true) (fun _ => rfl) fun vals w' hF hdep => by
    have e1 : (frm a (dsts akOps) vals).eval (.tmp 164) = .bool true := (D (k := 164) (by kernel_rfl)).eval.trans (hdep 164 (D (k := 164) (by kernel_rfl)).dep); unfold execOp; simp only [hop, e1]; first | (go_simp; done) | (go_simp; rfl)
theorem akst69 {Q : Exit → Act → World → Prop} {a : Act} {W : World} {g : Nat} {gx : Nat} {gn : Nat} {gy : Nat} {gz : Nat} {pe : Nat} {po : Nat} {Ce : Nat} {Sg : Option Addr} {Tg : Nat} {Al : Option Addr} {Cl : Nat} (K : akCtx g gx gn gy gz pe po Ce Sg Tg Al Cl a W) (o : Oper) (ho : akOps[69]? = some o) : Loose.Step Tryd.prog akOps Q (akF g gx gn gy gz pe po Ce Sg Tg Al Cl) a W.drew o := by
  obtain ⟨hd, hop, hg⟩ := Loose.op_of ho (show _ = some (some 166, .move (.tmp 12), some (68, true)) by kernel_rfl)
  have D : ∀ {k : Nat}, Loose.depBi akOps 217 69 k = true → Loose.Dep akOps a o k := fun h => Loose.Dep.at K.hn ho h
  exact Loose.isW (Loose.Want.dep 68 true 165 hg (by kernel_rfl) (D (k := 165) (by kernel_rfl)) (fun _ _ h => h)) 166 hd (.int .i64 9) (fun _ => rfl) fun vals w' hF hdep => by
    have e1 : (frm a (dsts akOps) vals).eval (.tmp 12) = .int .i64 9 := (frm_eval_old a _ vals 12 (by kernel_rfl)).trans K.h12; unfold execOp; simp only [hop, e1]; first | (go_simp; done) | (go_simp; rfl)
theorem akst70 {Q : Exit → Act → World → Prop} {a : Act} {W : World} {g : Nat} {gx : Nat} {gn : Nat} {gy : Nat} {gz : Nat} {pe : Nat} {po : Nat} {Ce : Nat} {Sg : Option Addr} {Tg : Nat} {Al : Option Addr} {Cl : Nat} (K : akCtx g gx gn gy gz pe po Ce Sg Tg Al Cl a W) (o : Oper) (ho : akOps[70]? = some o) : Loose.Step Tryd.prog akOps Q (akF g gx gn gy gz pe po Ce Sg Tg Al Cl) a W.drew o := by
  obtain ⟨hd, hop, hg⟩ := Loose.op_of ho (show _ = some (some 167, .binOp .eql 29 (.tmp 166) (.const (.int .i64 9)) 29, some (68, true)) by kernel_rfl)
  have D : ∀ {k : Nat}, Loose.depBi akOps 217 70 k = true → Loose.Dep akOps a o k := fun h => Loose.Dep.at K.hn ho h
  exact Loose.isW (Loose.Want.dep 68 true 165 hg (by kernel_rfl) (D (k := 165) (by kernel_rfl)) (fun _ _ h => h)) 167 hd (.bool true) (fun _ => rfl) fun vals w' hF hdep => by
    have e1 : (frm a (dsts akOps) vals).eval (.tmp 166) = .int .i64 9 := (D (k := 166) (by kernel_rfl)).eval.trans (hdep 166 (D (k := 166) (by kernel_rfl)).dep); have e2 : (frm a (dsts akOps) vals).eval (.const (.int .i64 9)) = .int .i64 9 := rfl; unfold execOp; simp only [hop, e1, e2]; first | (go_simp; done) | (go_simp; rfl)
theorem akst71 {Q : Exit → Act → World → Prop} {a : Act} {W : World} {g : Nat} {gx : Nat} {gn : Nat} {gy : Nat} {gz : Nat} {pe : Nat} {po : Nat} {Ce : Nat} {Sg : Option Addr} {Tg : Nat} {Al : Option Addr} {Cl : Nat} (K : akCtx g gx gn gy gz pe po Ce Sg Tg Al Cl a W) (o : Oper) (ho : akOps[71]? = some o) : Loose.Step Tryd.prog akOps Q (akF g gx gn gy gz pe po Ce Sg Tg Al Cl) a W.drew o := by
  obtain ⟨hd, hop, hg⟩ := Loose.op_of ho (show _ = some (some 168, .pick (.tmp 165) (.tmp 167) (.const (.bool false)), none) by kernel_rfl)
  have D : ∀ {k : Nat}, Loose.depBi akOps 217 71 k = true → Loose.Dep akOps a o k := fun h => Loose.Dep.at K.hn ho h
  exact Loose.isW (Loose.Want.plain hg) 168 hd (.bool true) (fun _ => rfl) fun vals w' hF hdep => by
    have e1 : (frm a (dsts akOps) vals).eval (.tmp 165) = .bool true := (D (k := 165) (by kernel_rfl)).eval.trans (hdep 165 (D (k := 165) (by kernel_rfl)).dep); have e2 : (frm a (dsts akOps) vals).eval (.tmp 167) = .bool true := (D (k := 167) (by kernel_rfl)).eval.trans (hdep 167 (D (k := 167) (by kernel_rfl)).dep); have e3 : (frm a (dsts akOps) vals).eval (.const (.bool false)) = .bool false := rfl; unfold execOp; simp only [hop, e1, e2, e3]; first | (go_simp; done) | (go_simp; rfl)
theorem akst72 {Q : Exit → Act → World → Prop} {a : Act} {W : World} {g : Nat} {gx : Nat} {gn : Nat} {gy : Nat} {gz : Nat} {pe : Nat} {po : Nat} {Ce : Nat} {Sg : Option Addr} {Tg : Nat} {Al : Option Addr} {Cl : Nat} (K : akCtx g gx gn gy gz pe po Ce Sg Tg Al Cl a W) (o : Oper) (ho : akOps[72]? = some o) : Loose.Step Tryd.prog akOps Q (akF g gx gn gy gz pe po Ce Sg Tg Al Cl) a W.drew o := by
  obtain ⟨hd, hop, hg⟩ := Loose.op_of ho (show _ = some (some 169, .move (.tmp 168), none) by kernel_rfl)
  have D : ∀ {k : Nat}, Loose.depBi akOps 217 72 k = true → Loose.Dep akOps a o k := fun h => Loose.Dep.at K.hn ho h
  exact Loose.isW (Loose.Want.plain hg) 169 hd (.bool true) (fun _ => rfl) fun vals w' hF hdep => by
    have e1 : (frm a (dsts akOps) vals).eval (.tmp 168) = .bool true := (D (k := 168) (by kernel_rfl)).eval.trans (hdep 168 (D (k := 168) (by kernel_rfl)).dep); unfold execOp; simp only [hop, e1]; first | (go_simp; done) | (go_simp; rfl)
theorem akst73 {Q : Exit → Act → World → Prop} {a : Act} {W : World} {g : Nat} {gx : Nat} {gn : Nat} {gy : Nat} {gz : Nat} {pe : Nat} {po : Nat} {Ce : Nat} {Sg : Option Addr} {Tg : Nat} {Al : Option Addr} {Cl : Nat} (K : akCtx g gx gn gy gz pe po Ce Sg Tg Al Cl a W) (o : Oper) (ho : akOps[73]? = some o) : Loose.Step Tryd.prog akOps Q (akF g gx gn gy gz pe po Ce Sg Tg Al Cl) a W.drew o := by
  obtain ⟨hd, hop, hg⟩ := Loose.op_of ho (show _ = some (some 170, .move (.tmp 14), some (72, true)) by kernel_rfl)
  have D : ∀ {k : Nat}, Loose.depBi akOps 217 73 k = true → Loose.Dep akOps a o k := fun h => Loose.Dep.at K.hn ho h
  exact Loose.isW (Loose.Want.dep 72 true 169 hg (by kernel_rfl) (D (k := 169) (by kernel_rfl)) (fun _ _ h => h)) 170 hd (.int .i64 1) (fun _ => rfl) fun vals w' hF hdep => by
    have e1 : (frm a (dsts akOps) vals).eval (.tmp 14) = .int .i64 1 := (frm_eval_old a _ vals 14 (by kernel_rfl)).trans K.h14; unfold execOp; simp only [hop, e1]; first | (go_simp; done) | (go_simp; rfl)
theorem akst74 {Q : Exit → Act → World → Prop} {a : Act} {W : World} {g : Nat} {gx : Nat} {gn : Nat} {gy : Nat} {gz : Nat} {pe : Nat} {po : Nat} {Ce : Nat} {Sg : Option Addr} {Tg : Nat} {Al : Option Addr} {Cl : Nat} (K : akCtx g gx gn gy gz pe po Ce Sg Tg Al Cl a W) (o : Oper) (ho : akOps[74]? = some o) : Loose.Step Tryd.prog akOps Q (akF g gx gn gy gz pe po Ce Sg Tg Al Cl) a W.drew o := by
  obtain ⟨hd, hop, hg⟩ := Loose.op_of ho (show _ = some (some 171, .binOp .eql 29 (.tmp 170) (.const (.int .i64 1)) 29, some (72, true)) by kernel_rfl)
  have D : ∀ {k : Nat}, Loose.depBi akOps 217 74 k = true → Loose.Dep akOps a o k := fun h => Loose.Dep.at K.hn ho h
  exact Loose.isW (Loose.Want.dep 72 true 169 hg (by kernel_rfl) (D (k := 169) (by kernel_rfl)) (fun _ _ h => h)) 171 hd (.bool true) (fun _ => rfl) fun vals w' hF hdep => by
    have e1 : (frm a (dsts akOps) vals).eval (.tmp 170) = .int .i64 1 := (D (k := 170) (by kernel_rfl)).eval.trans (hdep 170 (D (k := 170) (by kernel_rfl)).dep); have e2 : (frm a (dsts akOps) vals).eval (.const (.int .i64 1)) = .int .i64 1 := rfl; unfold execOp; simp only [hop, e1, e2]; first | (go_simp; done) | (go_simp; rfl)
theorem akst75 {Q : Exit → Act → World → Prop} {a : Act} {W : World} {g : Nat} {gx : Nat} {gn : Nat} {gy : Nat} {gz : Nat} {pe : Nat} {po : Nat} {Ce : Nat} {Sg : Option Addr} {Tg : Nat} {Al : Option Addr} {Cl : Nat} (K : akCtx g gx gn gy gz pe po Ce Sg Tg Al Cl a W) (o : Oper) (ho : akOps[75]? = some o) : Loose.Step Tryd.prog akOps Q (akF g gx gn gy gz pe po Ce Sg Tg Al Cl) a W.drew o := by
  obtain ⟨hd, hop, hg⟩ := Loose.op_of ho (show _ = some (some 172, .pick (.tmp 169) (.tmp 171) (.const (.bool false)), none) by kernel_rfl)
  have D : ∀ {k : Nat}, Loose.depBi akOps 217 75 k = true → Loose.Dep akOps a o k := fun h => Loose.Dep.at K.hn ho h
  exact Loose.isW (Loose.Want.plain hg) 172 hd (.bool true) (fun _ => rfl) fun vals w' hF hdep => by
    have e1 : (frm a (dsts akOps) vals).eval (.tmp 169) = .bool true := (D (k := 169) (by kernel_rfl)).eval.trans (hdep 169 (D (k := 169) (by kernel_rfl)).dep); have e2 : (frm a (dsts akOps) vals).eval (.tmp 171) = .bool true := (D (k := 171) (by kernel_rfl)).eval.trans (hdep 171 (D (k := 171) (by kernel_rfl)).dep); have e3 : (frm a (dsts akOps) vals).eval (.const (.bool false)) = .bool false := rfl; unfold execOp; simp only [hop, e1, e2, e3]; first | (go_simp; done) | (go_simp; rfl)
theorem akst76 {Q : Exit → Act → World → Prop} {a : Act} {W : World} {g : Nat} {gx : Nat} {gn : Nat} {gy : Nat} {gz : Nat} {pe : Nat} {po : Nat} {Ce : Nat} {Sg : Option Addr} {Tg : Nat} {Al : Option Addr} {Cl : Nat} (K : akCtx g gx gn gy gz pe po Ce Sg Tg Al Cl a W) (o : Oper) (ho : akOps[76]? = some o) : Loose.Step Tryd.prog akOps Q (akF g gx gn gy gz pe po Ce Sg Tg Al Cl) a W.drew o := by
  obtain ⟨hd, hop, hg⟩ := Loose.op_of ho (show _ = some (some 173, .move (.tmp 172), none) by kernel_rfl)
  have D : ∀ {k : Nat}, Loose.depBi akOps 217 76 k = true → Loose.Dep akOps a o k := fun h => Loose.Dep.at K.hn ho h
  exact Loose.isW (Loose.Want.plain hg) 173 hd (.bool true) (fun _ => rfl) fun vals w' hF hdep => by
    have e1 : (frm a (dsts akOps) vals).eval (.tmp 172) = .bool true := (D (k := 172) (by kernel_rfl)).eval.trans (hdep 172 (D (k := 172) (by kernel_rfl)).dep); unfold execOp; simp only [hop, e1]; first | (go_simp; done) | (go_simp; rfl)
theorem akst77 {Q : Exit → Act → World → Prop} {a : Act} {W : World} {g : Nat} {gx : Nat} {gn : Nat} {gy : Nat} {gz : Nat} {pe : Nat} {po : Nat} {Ce : Nat} {Sg : Option Addr} {Tg : Nat} {Al : Option Addr} {Cl : Nat} (K : akCtx g gx gn gy gz pe po Ce Sg Tg Al Cl a W) (o : Oper) (ho : akOps[77]? = some o) : Loose.Step Tryd.prog akOps Q (akF g gx gn gy gz pe po Ce Sg Tg Al Cl) a W.drew o := by
  obtain ⟨hd, hop, hg⟩ := Loose.op_of ho (show _ = some (some 174, .move (.tmp 16), some (76, true)) by kernel_rfl)
  have D : ∀ {k : Nat}, Loose.depBi akOps 217 77 k = true → Loose.Dep akOps a o k := fun h => Loose.Dep.at K.hn ho h
  exact Loose.isW (Loose.Want.dep 76 true 173 hg (by kernel_rfl) (D (k := 173) (by kernel_rfl)) (fun _ _ h => h)) 174 hd (.int .i64 1) (fun _ => rfl) fun vals w' hF hdep => by
    have e1 : (frm a (dsts akOps) vals).eval (.tmp 16) = .int .i64 1 := (frm_eval_old a _ vals 16 (by kernel_rfl)).trans K.h16; unfold execOp; simp only [hop, e1]; first | (go_simp; done) | (go_simp; rfl)
theorem akst78 {Q : Exit → Act → World → Prop} {a : Act} {W : World} {g : Nat} {gx : Nat} {gn : Nat} {gy : Nat} {gz : Nat} {pe : Nat} {po : Nat} {Ce : Nat} {Sg : Option Addr} {Tg : Nat} {Al : Option Addr} {Cl : Nat} (K : akCtx g gx gn gy gz pe po Ce Sg Tg Al Cl a W) (o : Oper) (ho : akOps[78]? = some o) : Loose.Step Tryd.prog akOps Q (akF g gx gn gy gz pe po Ce Sg Tg Al Cl) a W.drew o := by
  obtain ⟨hd, hop, hg⟩ := Loose.op_of ho (show _ = some (some 175, .binOp .eql 29 (.tmp 174) (.const (.int .i64 1)) 29, some (76, true)) by kernel_rfl)
  have D : ∀ {k : Nat}, Loose.depBi akOps 217 78 k = true → Loose.Dep akOps a o k := fun h => Loose.Dep.at K.hn ho h
  exact Loose.isW (Loose.Want.dep 76 true 173 hg (by kernel_rfl) (D (k := 173) (by kernel_rfl)) (fun _ _ h => h)) 175 hd (.bool true) (fun _ => rfl) fun vals w' hF hdep => by
    have e1 : (frm a (dsts akOps) vals).eval (.tmp 174) = .int .i64 1 := (D (k := 174) (by kernel_rfl)).eval.trans (hdep 174 (D (k := 174) (by kernel_rfl)).dep); have e2 : (frm a (dsts akOps) vals).eval (.const (.int .i64 1)) = .int .i64 1 := rfl; unfold execOp; simp only [hop, e1, e2]; first | (go_simp; done) | (go_simp; rfl)
theorem akst79 {Q : Exit → Act → World → Prop} {a : Act} {W : World} {g : Nat} {gx : Nat} {gn : Nat} {gy : Nat} {gz : Nat} {pe : Nat} {po : Nat} {Ce : Nat} {Sg : Option Addr} {Tg : Nat} {Al : Option Addr} {Cl : Nat} (K : akCtx g gx gn gy gz pe po Ce Sg Tg Al Cl a W) (o : Oper) (ho : akOps[79]? = some o) : Loose.Step Tryd.prog akOps Q (akF g gx gn gy gz pe po Ce Sg Tg Al Cl) a W.drew o := by
  obtain ⟨hd, hop, hg⟩ := Loose.op_of ho (show _ = some (some 176, .pick (.tmp 173) (.tmp 175) (.const (.bool false)), none) by kernel_rfl)
  have D : ∀ {k : Nat}, Loose.depBi akOps 217 79 k = true → Loose.Dep akOps a o k := fun h => Loose.Dep.at K.hn ho h
  exact Loose.isW (Loose.Want.plain hg) 176 hd (.bool true) (fun _ => rfl) fun vals w' hF hdep => by
    have e1 : (frm a (dsts akOps) vals).eval (.tmp 173) = .bool true := (D (k := 173) (by kernel_rfl)).eval.trans (hdep 173 (D (k := 173) (by kernel_rfl)).dep); have e2 : (frm a (dsts akOps) vals).eval (.tmp 175) = .bool true := (D (k := 175) (by kernel_rfl)).eval.trans (hdep 175 (D (k := 175) (by kernel_rfl)).dep); have e3 : (frm a (dsts akOps) vals).eval (.const (.bool false)) = .bool false := rfl; unfold execOp; simp only [hop, e1, e2, e3]; first | (go_simp; done) | (go_simp; rfl)
theorem akst80 {Q : Exit → Act → World → Prop} {a : Act} {W : World} {g : Nat} {gx : Nat} {gn : Nat} {gy : Nat} {gz : Nat} {pe : Nat} {po : Nat} {Ce : Nat} {Sg : Option Addr} {Tg : Nat} {Al : Option Addr} {Cl : Nat} (K : akCtx g gx gn gy gz pe po Ce Sg Tg Al Cl a W) (o : Oper) (ho : akOps[80]? = some o) : Loose.Step Tryd.prog akOps Q (akF g gx gn gy gz pe po Ce Sg Tg Al Cl) a W.drew o := by
  obtain ⟨hd, hop, hg⟩ := Loose.op_of ho (show _ = some (some 177, .move (.tmp 176), none) by kernel_rfl)
  have D : ∀ {k : Nat}, Loose.depBi akOps 217 80 k = true → Loose.Dep akOps a o k := fun h => Loose.Dep.at K.hn ho h
  exact Loose.isW (Loose.Want.plain hg) 177 hd (.bool true) (fun _ => rfl) fun vals w' hF hdep => by
    have e1 : (frm a (dsts akOps) vals).eval (.tmp 176) = .bool true := (D (k := 176) (by kernel_rfl)).eval.trans (hdep 176 (D (k := 176) (by kernel_rfl)).dep); unfold execOp; simp only [hop, e1]; first | (go_simp; done) | (go_simp; rfl)
theorem akst81 {Q : Exit → Act → World → Prop} {a : Act} {W : World} {g : Nat} {gx : Nat} {gn : Nat} {gy : Nat} {gz : Nat} {pe : Nat} {po : Nat} {Ce : Nat} {Sg : Option Addr} {Tg : Nat} {Al : Option Addr} {Cl : Nat} (K : akCtx g gx gn gy gz pe po Ce Sg Tg Al Cl a W) (o : Oper) (ho : akOps[81]? = some o) : Loose.Step Tryd.prog akOps Q (akF g gx gn gy gz pe po Ce Sg Tg Al Cl) a W.drew o := by
  obtain ⟨hd, hop, hg⟩ := Loose.op_of ho (show _ = some (some 178, .move (.tmp 18), some (80, true)) by kernel_rfl)
  have D : ∀ {k : Nat}, Loose.depBi akOps 217 81 k = true → Loose.Dep akOps a o k := fun h => Loose.Dep.at K.hn ho h
  exact Loose.isW (Loose.Want.dep 80 true 177 hg (by kernel_rfl) (D (k := 177) (by kernel_rfl)) (fun _ _ h => h)) 178 hd (.int .i64 0) (fun _ => rfl) fun vals w' hF hdep => by
    have e1 : (frm a (dsts akOps) vals).eval (.tmp 18) = .int .i64 0 := (frm_eval_old a _ vals 18 (by kernel_rfl)).trans K.h18; unfold execOp; simp only [hop, e1]; first | (go_simp; done) | (go_simp; rfl)
theorem akst82 {Q : Exit → Act → World → Prop} {a : Act} {W : World} {g : Nat} {gx : Nat} {gn : Nat} {gy : Nat} {gz : Nat} {pe : Nat} {po : Nat} {Ce : Nat} {Sg : Option Addr} {Tg : Nat} {Al : Option Addr} {Cl : Nat} (K : akCtx g gx gn gy gz pe po Ce Sg Tg Al Cl a W) (o : Oper) (ho : akOps[82]? = some o) : Loose.Step Tryd.prog akOps Q (akF g gx gn gy gz pe po Ce Sg Tg Al Cl) a W.drew o := by
  obtain ⟨hd, hop, hg⟩ := Loose.op_of ho (show _ = some (some 179, .binOp .eql 29 (.tmp 178) (.const (.int .i64 0)) 29, some (80, true)) by kernel_rfl)
  have D : ∀ {k : Nat}, Loose.depBi akOps 217 82 k = true → Loose.Dep akOps a o k := fun h => Loose.Dep.at K.hn ho h
  exact Loose.isW (Loose.Want.dep 80 true 177 hg (by kernel_rfl) (D (k := 177) (by kernel_rfl)) (fun _ _ h => h)) 179 hd (.bool true) (fun _ => rfl) fun vals w' hF hdep => by
    have e1 : (frm a (dsts akOps) vals).eval (.tmp 178) = .int .i64 0 := (D (k := 178) (by kernel_rfl)).eval.trans (hdep 178 (D (k := 178) (by kernel_rfl)).dep); have e2 : (frm a (dsts akOps) vals).eval (.const (.int .i64 0)) = .int .i64 0 := rfl; unfold execOp; simp only [hop, e1, e2]; first | (go_simp; done) | (go_simp; rfl)
theorem akst83 {Q : Exit → Act → World → Prop} {a : Act} {W : World} {g : Nat} {gx : Nat} {gn : Nat} {gy : Nat} {gz : Nat} {pe : Nat} {po : Nat} {Ce : Nat} {Sg : Option Addr} {Tg : Nat} {Al : Option Addr} {Cl : Nat} (K : akCtx g gx gn gy gz pe po Ce Sg Tg Al Cl a W) (o : Oper) (ho : akOps[83]? = some o) : Loose.Step Tryd.prog akOps Q (akF g gx gn gy gz pe po Ce Sg Tg Al Cl) a W.drew o := by
  obtain ⟨hd, hop, hg⟩ := Loose.op_of ho (show _ = some (some 180, .pick (.tmp 177) (.tmp 179) (.const (.bool false)), none) by kernel_rfl)
  have D : ∀ {k : Nat}, Loose.depBi akOps 217 83 k = true → Loose.Dep akOps a o k := fun h => Loose.Dep.at K.hn ho h
  exact Loose.isW (Loose.Want.plain hg) 180 hd (.bool true) (fun _ => rfl) fun vals w' hF hdep => by
    have e1 : (frm a (dsts akOps) vals).eval (.tmp 177) = .bool true := (D (k := 177) (by kernel_rfl)).eval.trans (hdep 177 (D (k := 177) (by kernel_rfl)).dep); have e2 : (frm a (dsts akOps) vals).eval (.tmp 179) = .bool true := (D (k := 179) (by kernel_rfl)).eval.trans (hdep 179 (D (k := 179) (by kernel_rfl)).dep); have e3 : (frm a (dsts akOps) vals).eval (.const (.bool false)) = .bool false := rfl; unfold execOp; simp only [hop, e1, e2, e3]; first | (go_simp; done) | (go_simp; rfl)
theorem akst84 {Q : Exit → Act → World → Prop} {a : Act} {W : World} {g : Nat} {gx : Nat} {gn : Nat} {gy : Nat} {gz : Nat} {pe : Nat} {po : Nat} {Ce : Nat} {Sg : Option Addr} {Tg : Nat} {Al : Option Addr} {Cl : Nat} (K : akCtx g gx gn gy gz pe po Ce Sg Tg Al Cl a W) (o : Oper) (ho : akOps[84]? = some o) : Loose.Step Tryd.prog akOps Q (akF g gx gn gy gz pe po Ce Sg Tg Al Cl) a W.drew o := by
  obtain ⟨hd, hop, hg⟩ := Loose.op_of ho (show _ = some (some 181, .move (.tmp 180), none) by kernel_rfl)
  have D : ∀ {k : Nat}, Loose.depBi akOps 217 84 k = true → Loose.Dep akOps a o k := fun h => Loose.Dep.at K.hn ho h
  exact Loose.isW (Loose.Want.plain hg) 181 hd (.bool true) (fun _ => rfl) fun vals w' hF hdep => by
    have e1 : (frm a (dsts akOps) vals).eval (.tmp 180) = .bool true := (D (k := 180) (by kernel_rfl)).eval.trans (hdep 180 (D (k := 180) (by kernel_rfl)).dep); unfold execOp; simp only [hop, e1]; first | (go_simp; done) | (go_simp; rfl)
theorem akst85 {Q : Exit → Act → World → Prop} {a : Act} {W : World} {g : Nat} {gx : Nat} {gn : Nat} {gy : Nat} {gz : Nat} {pe : Nat} {po : Nat} {Ce : Nat} {Sg : Option Addr} {Tg : Nat} {Al : Option Addr} {Cl : Nat} (K : akCtx g gx gn gy gz pe po Ce Sg Tg Al Cl a W) (o : Oper) (ho : akOps[85]? = some o) : Loose.Step Tryd.prog akOps Q (akF g gx gn gy gz pe po Ce Sg Tg Al Cl) a W.drew o := by
  obtain ⟨hd, hop, hg⟩ := Loose.op_of ho (show _ = some (some 182, .move (.tmp 17), some (84, true)) by kernel_rfl)
  have D : ∀ {k : Nat}, Loose.depBi akOps 217 85 k = true → Loose.Dep akOps a o k := fun h => Loose.Dep.at K.hn ho h
  exact Loose.isW (Loose.Want.dep 84 true 181 hg (by kernel_rfl) (D (k := 181) (by kernel_rfl)) (fun _ _ h => h)) 182 hd (.slice Al 8 Cl) (fun _ => rfl) fun vals w' hF hdep => by
    have e1 : (frm a (dsts akOps) vals).eval (.tmp 17) = .slice Al 8 Cl := (frm_eval_old a _ vals 17 (by kernel_rfl)).trans K.h17; unfold execOp; simp only [hop, e1]; first | (go_simp; done) | (go_simp; rfl)
theorem akst86 {Q : Exit → Act → World → Prop} {a : Act} {W : World} {g : Nat} {gx : Nat} {gn : Nat} {gy : Nat} {gz : Nat} {pe : Nat} {po : Nat} {Ce : Nat} {Sg : Option Addr} {Tg : Nat} {Al : Option Addr} {Cl : Nat} (K : akCtx g gx gn gy gz pe po Ce Sg Tg Al Cl a W) (o : Oper) (ho : akOps[86]? = some o) : Loose.Step Tryd.prog akOps Q (akF g gx gn gy gz pe po Ce Sg Tg Al Cl) a W.drew o := by
  obtain ⟨hd, hop, hg⟩ := Loose.op_of ho (show _ = some (some 183, .convert 28 9 (.tmp 182), some (84, true)) by kernel_rfl)
  have D : ∀ {k : Nat}, Loose.depBi akOps 217 86 k = true → Loose.Dep akOps a o k := fun h => Loose.Dep.at K.hn ho h
  exact Loose.isW (Loose.Want.dep 84 true 181 hg (by kernel_rfl) (D (k := 181) (by kernel_rfl)) (fun _ _ h => h)) 183 hd (.string ⟨([255, 255, 255, 255, 255, 255, 255, 255] : List UInt8).toArray⟩) (fun _ => rfl) fun vals w' hF hdep => by
    have e1 : (frm a (dsts akOps) vals).eval (.tmp 182) = .slice Al 8 Cl := (D (k := 182) (by kernel_rfl)).eval.trans (hdep 182 (D (k := 182) (by kernel_rfl)).dep); have hcv := (K.pl w' (Fr.trans' (Fr.refl _ _).drew hF)).convert (P := Tryd.prog) 28 9 5 Tryd.underlying28 Tryd.underlying5 Tryd.underlying9; unfold execOp; simp only [hop, e1]; first | (go_simp; done) | (go_simp; rfl)
theorem akst87 {Q : Exit → Act → World → Prop} {a : Act} {W : World} {g : Nat} {gx : Nat} {gn : Nat} {gy : Nat} {gz : Nat} {pe : Nat} {po : Nat} {Ce : Nat} {Sg : Option Addr} {Tg : Nat} {Al : Option Addr} {Cl : Nat} (K : akCtx g gx gn gy gz pe po Ce Sg Tg Al Cl a W) (o : Oper) (ho : akOps[87]? = some o) : Loose.Step Tryd.prog akOps Q (akF g gx gn gy gz pe po Ce Sg Tg Al Cl) a W.drew o := by
  obtain ⟨hd, hop, hg⟩ := Loose.op_of ho (show _ = some (some 184, .binOp .eql 9 (.tmp 183) (.const (.string ⟨#[255, 255, 255, 255, 255, 255, 255, 255]⟩)) 9, some (84, true)) by kernel_rfl)
  have D : ∀ {k : Nat}, Loose.depBi akOps 217 87 k = true → Loose.Dep akOps a o k := fun h => Loose.Dep.at K.hn ho h
  exact Loose.isW (Loose.Want.dep 84 true 181 hg (by kernel_rfl) (D (k := 181) (by kernel_rfl)) (fun _ _ h => h)) 184 hd (.bool true) (fun _ => rfl) fun vals w' hF hdep => by
    have e1 : (frm a (dsts akOps) vals).eval (.tmp 183) = .string ⟨([255, 255, 255, 255, 255, 255, 255, 255] : List UInt8).toArray⟩ := (D (k := 183) (by kernel_rfl)).eval.trans (hdep 183 (D (k := 183) (by kernel_rfl)).dep); have e2 : (frm a (dsts akOps) vals).eval (.const (.string ⟨#[255, 255, 255, 255, 255, 255, 255, 255]⟩)) = .string ⟨#[255, 255, 255, 255, 255, 255, 255, 255]⟩ := rfl; unfold execOp; simp only [hop, e1, e2]; first | (go_simp; done) | (go_simp; rfl)
theorem akst88 {Q : Exit → Act → World → Prop} {a : Act} {W : World} {g : Nat} {gx : Nat} {gn : Nat} {gy : Nat} {gz : Nat} {pe : Nat} {po : Nat} {Ce : Nat} {Sg : Option Addr} {Tg : Nat} {Al : Option Addr} {Cl : Nat} (K : akCtx g gx gn gy gz pe po Ce Sg Tg Al Cl a W) (o : Oper) (ho : akOps[88]? = some o) : Loose.Step Tryd.prog akOps Q (akF g gx gn gy gz pe po Ce Sg Tg Al Cl) a W.drew o := by
  obtain ⟨hd, hop, hg⟩ := Loose.op_of ho (show _ = some (some 185, .pick (.tmp 181) (.tmp 184) (.const (.bool false)), none) by kernel_rfl)
  have D : ∀ {k : Nat}, Loose.depBi akOps 217 88 k = true → Loose.Dep akOps a o k := fun h => Loose.Dep.at K.hn ho h
  exact Loose.isW (Loose.Want.plain hg) 185 hd (.bool true) (fun _ => rfl) fun vals w' hF hdep => by
    have e1 : (frm a (dsts akOps) vals).eval (.tmp 181) = .bool true := (D (k := 181) (by kernel_rfl)).eval.trans (hdep 181 (D (k := 181) (by kernel_rfl)).dep); have e2 : (frm a (dsts akOps) vals).eval (.tmp 184) = .bool true := (D (k := 184) (by kernel_rfl)).eval.trans (hdep 184 (D (k := 184) (by kernel_rfl)).dep); have e3 : (frm a (dsts akOps) vals).eval (.const (.bool false)) = .bool false := rfl; unfold execOp; simp only [hop, e1, e2, e3]; first | (go_simp; done) | (go_simp; rfl)
theorem akst89 {Q : Exit → Act → World → Prop} {a : Act} {W : World} {g : Nat} {gx : Nat} {gn : Nat} {gy : Nat} {gz : Nat} {pe : Nat} {po : Nat} {Ce : Nat} {Sg : Option Addr} {Tg : Nat} {Al : Option Addr} {Cl : Nat} (K : akCtx g gx gn gy gz pe po Ce Sg Tg Al Cl a W) (o : Oper) (ho : akOps[89]? = some o) : Loose.Step Tryd.prog akOps Q (akF g gx gn gy gz pe po Ce Sg Tg Al Cl) a W.drew o := by
  obtain ⟨hd, hop, hg⟩ := Loose.op_of ho (show _ = some (some 186, .move (.tmp 185), none) by kernel_rfl)
  have D : ∀ {k : Nat}, Loose.depBi akOps 217 89 k = true → Loose.Dep akOps a o k := fun h => Loose.Dep.at K.hn ho h
  exact Loose.isW (Loose.Want.plain hg) 186 hd (.bool true) (fun _ => rfl) fun vals w' hF hdep => by
    have e1 : (frm a (dsts akOps) vals).eval (.tmp 185) = .bool true := (D (k := 185) (by kernel_rfl)).eval.trans (hdep 185 (D (k := 185) (by kernel_rfl)).dep); unfold execOp; simp only [hop, e1]; first | (go_simp; done) | (go_simp; rfl)
theorem akst90 {Q : Exit → Act → World → Prop} {a : Act} {W : World} {g : Nat} {gx : Nat} {gn : Nat} {gy : Nat} {gz : Nat} {pe : Nat} {po : Nat} {Ce : Nat} {Sg : Option Addr} {Tg : Nat} {Al : Option Addr} {Cl : Nat} (K : akCtx g gx gn gy gz pe po Ce Sg Tg Al Cl a W) (o : Oper) (ho : akOps[90]? = some o) : Loose.Step Tryd.prog akOps Q (akF g gx gn gy gz pe po Ce Sg Tg Al Cl) a W.drew o := by
  obtain ⟨hd, hop, hg⟩ := Loose.op_of ho (show _ = some (some 187, .call { callee := .value (.func 10), args := #[.const (.slice none 0 0)], argTypes := #[26] }, some (89, true)) by kernel_rfl)
  have D : ∀ {k : Nat}, Loose.depBi akOps 217 90 k = true → Loose.Dep akOps a o k := fun h => Loose.Dep.at K.hn ho h
  exact Loose.callW (Loose.Want.dep 89 true 186 hg (by kernel_rfl) (D (k := 186) (by kernel_rfl)) (fun _ _ h => h)) 187 hd 10 _ _ hop _ Tryd.func10 (by kernel_rfl) (by kernel_rfl) fun vals w' hF hdep => by
    have e1 : (frm a (dsts akOps) vals).eval (.const (.slice none 0 0)) = .slice none 0 0 := rfl; rw [Loose.map1 e1]; exact (of_none_is w').mono fun e w'' ⟨he, hf⟩ => ⟨_, he, rfl, hf⟩
theorem akst91 {Q : Exit → Act → World → Prop} {a : Act} {W : World} {g : Nat} {gx : Nat} {gn : Nat} {gy : Nat} {gz : Nat} {pe : Nat} {po : Nat} {Ce : Nat} {Sg : Option Addr} {Tg : Nat} {Al : Option Addr} {Cl : Nat} (K : akCtx g gx gn gy gz pe po Ce Sg Tg Al Cl a W) (o : Oper) (ho : akOps[91]? = some o) : Loose.Step Tryd.prog akOps Q (akF g gx gn gy gz pe po Ce Sg Tg Al Cl) a W.drew o := by
  obtain ⟨hd, hop, hg⟩ := Loose.op_of ho (show _ = some (some 188, .load 24 (.tmp 19), some (89, true)) by kernel_rfl)
  have D : ∀ {k : Nat}, Loose.depBi akOps 217 91 k = true → Loose.Dep akOps a o k := fun h => Loose.Dep.at K.hn ho h
  exact Loose.isW (Loose.Want.dep 89 true 186 hg (by kernel_rfl) (D (k := 186) (by kernel_rfl)) (fun _ _ h => h)) 188 hd (.agg #[.int .i64 0, .int .i64 0, .int .i64 0, .int .i64 0, .int .i64 0, .bool false]) (fun _ => rfl) fun vals w' hF hdep => by
    have e1 : (frm a (dsts akOps) vals).eval (.tmp 19) = .pointer (some ⟨gn, 0, none⟩) := (frm_eval_old a _ vals 19 (by kernel_rfl)).trans K.h19; have hh := K.r0 w' (Fr.trans' (Fr.refl _ _).drew hF); unfold execOp; simp only [hop, e1, Instr.loadAt, Instr.sureAddr, Sem.run_bind, Sem.run_pure, Result.andThen_ok, run_loadVar_row w' (gn) 24 24 _ _ _ hh Tryd.underlying24 rfl (by kernel_rfl)]
theorem akst92 {Q : Exit → Act → World → Prop} {a : Act} {W : World} {g : Nat} {gx : Nat} {gn : Nat} {gy : Nat} {gz : Nat} {pe : Nat} {po : Nat} {Ce : Nat} {Sg : Option Addr} {Tg : Nat} {Al : Option Addr} {Cl : Nat} (K : akCtx g gx gn gy gz pe po Ce Sg Tg Al Cl a W) (o : Oper) (ho : akOps[92]? = some o) : Loose.Step Tryd.prog akOps Q (akF g gx gn gy gz pe po Ce Sg Tg Al Cl) a W.drew o := by
  obtain ⟨hd, hop, hg⟩ := Loose.op_of ho (show _ = some (some 189, .binOp .eql 24 (.tmp 187) (.tmp 188) 24, some (89, true)) by kernel_rfl)
  have D : ∀ {k : Nat}, Loose.depBi akOps 217 92 k = true → Loose.Dep akOps a o k := fun h => Loose.Dep.at K.hn ho h
  exact Loose.isW (Loose.Want.dep 89 true 186 hg (by kernel_rfl) (D (k := 186) (by kernel_rfl)) (fun _ _ h => h)) 189 hd (.bool true) (fun _ => rfl) fun vals w' hF hdep => by
    have e1 : (frm a (dsts akOps) vals).eval (.tmp 187) = .agg #[.int .i64 0, .int .i64 0, .int .i64 0, .int .i64 0, .int .i64 0, .bool false] := (D (k := 187) (by kernel_rfl)).eval.trans (hdep 187 (D (k := 187) (by kernel_rfl)).dep); have e2 : (frm a (dsts akOps) vals).eval (.tmp 188) = .agg #[.int .i64 0, .int .i64 0, .int .i64 0, .int .i64 0, .int .i64 0, .bool false] := (D (k := 188) (by kernel_rfl)).eval.trans (hdep 188 (D (k := 188) (by kernel_rfl)).dep); have heq := fun w => eq_go ⟨0, 0, 0, 0, 0, false⟩ w; unfold execOp; simp only [hop, e1, e2]; first | (go_simp; done) | (go_simp; rfl)
theorem akst93 {Q : Exit → Act → World → Prop} {a : Act} {W : World} {g : Nat} {gx : Nat} {gn : Nat} {gy : Nat} {gz : Nat} {pe : Nat} {po : Nat} {Ce : Nat} {Sg : Option Addr} {Tg : Nat} {Al : Option Addr} {Cl : Nat} (K : akCtx g gx gn gy gz pe po Ce Sg Tg Al Cl a W) (o : Oper) (ho : akOps[93]? = some o) : Loose.Step Tryd.prog akOps Q (akF g gx gn gy gz pe po Ce Sg Tg Al Cl) a W.drew o := by
  obtain ⟨hd, hop, hg⟩ := Loose.op_of ho (show _ = some (some 190, .pick (.tmp 186) (.tmp 189) (.const (.bool false)), none) by kernel_rfl)
  have D : ∀ {k : Nat}, Loose.depBi akOps 217 93 k = true → Loose.Dep akOps a o k := fun h => Loose.Dep.at K.hn ho h
  exact Loose.isW (Loose.Want.plain hg) 190 hd (.bool true) (fun _ => rfl) fun vals w' hF hdep => by
    have e1 : (frm a (dsts akOps) vals).eval (.tmp 186) = .bool true := (D (k := 186) (by kernel_rfl)).eval.trans (hdep 186 (D (k := 186) (by kernel_rfl)).dep); have e2 : (frm a (dsts akOps) vals).eval (.tmp 189) = .bool true := (D (k := 189) (by kernel_rfl)).eval.trans (hdep 189 (D (k := 189) (by kernel_rfl)).dep); have e3 : (frm a (dsts akOps) vals).eval (.const (.bool false)) = .bool false := rfl; unfold execOp; simp only [hop, e1, e2, e3]; first | (go_simp; done) | (go_simp; rfl)
theorem akst94 {Q : Exit → Act → World → Prop} {a : Act} {W : World} {g : Nat} {gx : Nat} {gn : Nat} {gy : Nat} {gz : Nat} {pe : Nat} {po : Nat} {Ce : Nat} {Sg : Option Addr} {Tg : Nat} {Al : Option Addr} {Cl : Nat} (K : akCtx g gx gn gy gz pe po Ce Sg Tg Al Cl a W) (o : Oper) (ho : akOps[94]? = some o) : Loose.Step Tryd.prog akOps Q (akF g gx gn gy gz pe po Ce Sg Tg Al Cl) a W.drew o := by
  obtain ⟨hd, hop, hg⟩ := Loose.op_of ho (show _ = some (some 191, .move (.tmp 190), none) by kernel_rfl)
  have D : ∀ {k : Nat}, Loose.depBi akOps 217 94 k = true → Loose.Dep akOps a o k := fun h => Loose.Dep.at K.hn ho h
  exact Loose.isW (Loose.Want.plain hg) 191 hd (.bool true) (fun _ => rfl) fun vals w' hF hdep => by
    have e1 : (frm a (dsts akOps) vals).eval (.tmp 190) = .bool true := (D (k := 190) (by kernel_rfl)).eval.trans (hdep 190 (D (k := 190) (by kernel_rfl)).dep); unfold execOp; simp only [hop, e1]; first | (go_simp; done) | (go_simp; rfl)
theorem akst95 {Q : Exit → Act → World → Prop} {a : Act} {W : World} {g : Nat} {gx : Nat} {gn : Nat} {gy : Nat} {gz : Nat} {pe : Nat} {po : Nat} {Ce : Nat} {Sg : Option Addr} {Tg : Nat} {Al : Option Addr} {Cl : Nat} (K : akCtx g gx gn gy gz pe po Ce Sg Tg Al Cl a W) (o : Oper) (ho : akOps[95]? = some o) : Loose.Step Tryd.prog akOps Q (akF g gx gn gy gz pe po Ce Sg Tg Al Cl) a W.drew o := by
  obtain ⟨hd, hop, hg⟩ := Loose.op_of ho (show _ = some (some 192, .fieldAddr 24 (.tmp 20) 5, some (94, true)) by kernel_rfl)
  have D : ∀ {k : Nat}, Loose.depBi akOps 217 95 k = true → Loose.Dep akOps a o k := fun h => Loose.Dep.at K.hn ho h
  exact Loose.isW (Loose.Want.dep 94 true 191 hg (by kernel_rfl) (D (k := 191) (by kernel_rfl)) (fun _ _ h => h)) 192 hd (.pointer (some ⟨gx, 5, none⟩)) (fun _ => rfl) fun vals w' hF hdep => by
    have e1 : (frm a (dsts akOps) vals).eval (.tmp 20) = .pointer (some ⟨gx, 0, none⟩) := (frm_eval_old a _ vals 20 (by kernel_rfl)).trans K.h20; unfold execOp; simp only [hop, e1]; first | (go_simp; done) | (go_simp; rfl)
theorem akst96 {Q : Exit → Act → World → Prop} {a : Act} {W : World} {g : Nat} {gx : Nat} {gn : Nat} {gy : Nat} {gz : Nat} {pe : Nat} {po : Nat} {Ce : Nat} {Sg : Option Addr} {Tg : Nat} {Al : Option Addr} {Cl : Nat} (K : akCtx g gx gn gy gz pe po Ce Sg Tg Al Cl a W) (o : Oper) (ho : akOps[96]? = some o) : Loose.Step Tryd.prog akOps Q (akF g gx gn gy gz pe po Ce Sg Tg Al Cl) a W.drew o := by
  obtain ⟨hd, hop, hg⟩ := Loose.op_of ho (show _ = some (some 193, .load 4 (.tmp 192), some (94, true)) by kernel_rfl)
  have D : ∀ {k : Nat}, Loose.depBi akOps 217 96 k = true → Loose.Dep akOps a o k := fun h => Loose.Dep.at K.hn ho h
  exact Loose.isW (Loose.Want.dep 94 true 191 hg (by kernel_rfl) (D (k := 191) (by kernel_rfl)) (fun _ _ h => h)) 193 hd (.bool true) (fun _ => rfl) fun vals w' hF hdep => by
    have e1 : (frm a (dsts akOps) vals).eval (.tmp 192) = .pointer (some ⟨gx, 5, none⟩) := (D (k := 192) (by kernel_rfl)).eval.trans (hdep 192 (D (k := 192) (by kernel_rfl)).dep); have hc := K.c8 w' (Fr.trans' (Fr.refl _ _).drew hF); unfold execOp; simp only [hop, e1]; first | (go_simp; done) | (go_simp; rfl)
theorem akst97 {Q : Exit → Act → World → Prop} {a : Act} {W : World} {g : Nat} {gx : Nat} {gn : Nat} {gy : Nat} {gz : Nat} {pe : Nat} {po : Nat} {Ce : Nat} {Sg : Option Addr} {Tg : Nat} {Al : Option Addr} {Cl : Nat} (K : akCtx g gx gn gy gz pe po Ce Sg Tg Al Cl a W) (o : Oper) (ho : akOps[97]? = some o) : Loose.Step Tryd.prog akOps Q (akF g gx gn gy gz pe po Ce Sg Tg Al Cl) a W.drew o := by
  obtain ⟨hd, hop, hg⟩ := Loose.op_of ho (show _ = some (some 194, .pick (.tmp 191) (.tmp 193) (.const (.bool false)), none) by kernel_rfl)
  have D : ∀ {k : Nat}, Loose.depBi akOps 217 97 k = true → Loose.Dep akOps a o k := fun h => Loose.Dep.at K.hn ho h
  exact Loose.isW (Loose.Want.plain hg) 194 hd (.bool true) (fun _ => rfl) fun vals w' hF hdep => by
    have e1 : (frm a (dsts akOps) vals).eval (.tmp 191) = .bool true := (D (k := 191) (by kernel_rfl)).eval.trans (hdep 191 (D (k := 191) (by kernel_rfl)).dep); have e2 : (frm a (dsts akOps) vals).eval (.tmp 193) = .bool true := (D (k := 193) (by kernel_rfl)).eval.trans (hdep 193 (D (k := 193) (by kernel_rfl)).dep); have e3 : (frm a (dsts akOps) vals).eval (.const (.bool false)) = .bool false := rfl; unfold execOp; simp only [hop, e1, e2, e3]; first | (go_simp; done) | (go_simp; rfl)
theorem akst98 {Q : Exit → Act → World → Prop} {a : Act} {W : World} {g : Nat} {gx : Nat} {gn : Nat} {gy : Nat} {gz : Nat} {pe : Nat} {po : Nat} {Ce : Nat} {Sg : Option Addr} {Tg : Nat} {Al : Option Addr} {Cl : Nat} (K : akCtx g gx gn gy gz pe po Ce Sg Tg Al Cl a W) (o : Oper) (ho : akOps[98]? = some o) : Loose.Step Tryd.prog akOps Q (akF g gx gn gy gz pe po Ce Sg Tg Al Cl) a W.drew o := by
  obtain ⟨hd, hop, hg⟩ := Loose.op_of ho (show _ = some (some 195, .move (.tmp 194), none) by kernel_rfl)
  have D : ∀ {k : Nat}, Loose.depBi akOps 217 98 k = true → Loose.Dep akOps a o k := fun h => Loose.Dep.at K.hn ho h
  exact Loose.isW (Loose.Want.plain hg) 195 hd (.bool true) (fun _ => rfl) fun vals w' hF hdep => by
    have e1 : (frm a (dsts akOps) vals).eval (.tmp 194) = .bool true := (D (k := 194) (by kernel_rfl)).eval.trans (hdep 194 (D (k := 194) (by kernel_rfl)).dep); unfold execOp; simp only [hop, e1]; first | (go_simp; done) | (go_simp; rfl)
theorem akst99 {Q : Exit → Act → World → Prop} {a : Act} {W : World} {g : Nat} {gx : Nat} {gn : Nat} {gy : Nat} {gz : Nat} {pe : Nat} {po : Nat} {Ce : Nat} {Sg : Option Addr} {Tg : Nat} {Al : Option Addr} {Cl : Nat} (K : akCtx g gx gn gy gz pe po Ce Sg Tg Al Cl a W) (o : Oper) (ho : akOps[99]? = some o) : Loose.Step Tryd.prog akOps Q (akF g gx gn gy gz pe po Ce Sg Tg Al Cl) a W.drew o := by
  obtain ⟨hd, hop, hg⟩ := Loose.op_of ho (show _ = some (some 196, .fieldAddr 24 (.tmp 20) 0, some (98, true)) by kernel_rfl)
  have D : ∀ {k : Nat}, Loose.depBi akOps 217 99 k = true → Loose.Dep akOps a o k := fun h => Loose.Dep.at K.hn ho h
  exact Loose.isW (Loose.Want.dep 98 true 195 hg (by kernel_rfl) (D (k := 195) (by kernel_rfl)) (fun _ _ h => h)) 196 hd (.pointer (some ⟨gx, 0, none⟩)) (fun _ => rfl) fun vals w' hF hdep => by
    have e1 : (frm a (dsts akOps) vals).eval (.tmp 20) = .pointer (some ⟨gx, 0, none⟩) := (frm_eval_old a _ vals 20 (by kernel_rfl)).trans K.h20; unfold execOp; simp only [hop, e1]; first | (go_simp; done) | (go_simp; rfl)
theorem akst100 {Q : Exit → Act → World → Prop} {a : Act} {W : World} {g : Nat} {gx : Nat} {gn : Nat} {gy : Nat} {gz : Nat} {pe : Nat} {po : Nat} {Ce : Nat} {Sg : Option Addr} {Tg : Nat} {Al : Option Addr} {Cl : Nat} (K : akCtx g gx gn gy gz pe po Ce Sg Tg Al Cl a W) (o : Oper) (ho : akOps[100]? = some o) : Loose.Step Tryd.prog akOps Q (akF g gx gn gy gz pe po Ce Sg Tg Al Cl) a W.drew o := by
  obtain ⟨hd, hop, hg⟩ := Loose.op_of ho (show _ = some (some 197, .load 3 (.tmp 196), some (98, true)) by kernel_rfl)
  have D : ∀ {k : Nat}, Loose.depBi akOps 217 100 k = true → Loose.Dep akOps a o k := fun h => Loose.Dep.at K.hn ho h
  exact Loose.isW (Loose.Want.dep 98 true 195 hg (by kernel_rfl) (D (k := 195) (by kernel_rfl)) (fun _ _ h => h)) 197 hd (.int .i64 2) (fun _ => rfl) fun vals w' hF hdep => by
    have e1 : (frm a (dsts akOps) vals).eval (.tmp 196) = .pointer (some ⟨gx, 0, none⟩) := (D (k := 196) (by kernel_rfl)).eval.trans (hdep 196 (D (k := 196) (by kernel_rfl)).dep); have hc := K.c9 w' (Fr.trans' (Fr.refl _ _).drew hF); unfold execOp; simp only [hop, e1]; first | (go_simp; done) | (go_simp; rfl)
theorem akst101 {Q : Exit → Act → World → Prop} {a : Act} {W : World} {g : Nat} {gx : Nat} {gn : Nat} {gy : Nat} {gz : Nat} {pe : Nat} {po : Nat} {Ce : Nat} {Sg : Option Addr} {Tg : Nat} {Al : Option Addr} {Cl : Nat} (K : akCtx g gx gn gy gz pe po Ce Sg Tg Al Cl a W) (o : Oper) (ho : akOps[101]? = some o) : Loose.Step Tryd.prog akOps Q (akF g gx gn gy gz pe po Ce Sg Tg Al Cl) a W.drew o := by
  obtain ⟨hd, hop, hg⟩ := Loose.op_of ho (show _ = some (some 198, .binOp .eql 3 (.tmp 197) (.const (.int .i64 2)) 3, some (98, true)) by kernel_rfl)
  have D : ∀ {k : Nat}, Loose.depBi akOps 217 101 k = true → Loose.Dep akOps a o k := fun h => Loose.Dep.at K.hn ho h
  exact Loose.isW (Loose.Want.dep 98 true 195 hg (by kernel_rfl) (D (k := 195) (by kernel_rfl)) (fun _ _ h => h)) 198 hd (.bool true) (fun _ => rfl) fun vals w' hF hdep => by
    have e1 : (frm a (dsts akOps) vals).eval (.tmp 197) = .int .i64 2 := (D (k := 197) (by kernel_rfl)).eval.trans (hdep 197 (D (k := 197) (by kernel_rfl)).dep); have e2 : (frm a (dsts akOps) vals).eval (.const (.int .i64 2)) = .int .i64 2 := rfl; unfold execOp; simp only [hop, e1, e2]; first | (go_simp; done) | (go_simp; rfl)
theorem akst102 {Q : Exit → Act → World → Prop} {a : Act} {W : World} {g : Nat} {gx : Nat} {gn : Nat} {gy : Nat} {gz : Nat} {pe : Nat} {po : Nat} {Ce : Nat} {Sg : Option Addr} {Tg : Nat} {Al : Option Addr} {Cl : Nat} (K : akCtx g gx gn gy gz pe po Ce Sg Tg Al Cl a W) (o : Oper) (ho : akOps[102]? = some o) : Loose.Step Tryd.prog akOps Q (akF g gx gn gy gz pe po Ce Sg Tg Al Cl) a W.drew o := by
  obtain ⟨hd, hop, hg⟩ := Loose.op_of ho (show _ = some (some 199, .pick (.tmp 195) (.tmp 198) (.const (.bool false)), none) by kernel_rfl)
  have D : ∀ {k : Nat}, Loose.depBi akOps 217 102 k = true → Loose.Dep akOps a o k := fun h => Loose.Dep.at K.hn ho h
  exact Loose.isW (Loose.Want.plain hg) 199 hd (.bool true) (fun _ => rfl) fun vals w' hF hdep => by
    have e1 : (frm a (dsts akOps) vals).eval (.tmp 195) = .bool true := (D (k := 195) (by kernel_rfl)).eval.trans (hdep 195 (D (k := 195) (by kernel_rfl)).dep); have e2 : (frm a (dsts akOps) vals).eval (.tmp 198) = .bool true := (D (k := 198) (by kernel_rfl)).eval.trans (hdep 198 (D (k := 198) (by kernel_rfl)).dep); have e3 : (frm a (dsts akOps) vals).eval (.const (.bool false)) = .bool false := rfl; unfold execOp; simp only [hop, e1, e2, e3]; first | (go_simp; done) | (go_simp; rfl)
theorem akst103 {Q : Exit → Act → World → Prop} {a : Act} {W : World} {g : Nat} {gx : Nat} {gn : Nat} {gy : Nat} {gz : Nat} {pe : Nat} {po : Nat} {Ce : Nat} {Sg : Option Addr} {Tg : Nat} {Al : Option Addr} {Cl : Nat} (K : akCtx g gx gn gy gz pe po Ce Sg Tg Al Cl a W) (o : Oper) (ho : akOps[103]? = some o) : Loose.Step Tryd.prog akOps Q (akF g gx gn gy gz pe po Ce Sg Tg Al Cl) a W.drew o := by
  obtain ⟨hd, hop, hg⟩ := Loose.op_of ho (show _ = some (some 200, .move (.tmp 199), none) by kernel_rfl)
  have D : ∀ {k : Nat}, Loose.depBi akOps 217 103 k = true → Loose.Dep akOps a o k := fun h => Loose.Dep.at K.hn ho h
  exact Loose.isW (Loose.Want.plain hg) 200 hd (.bool true) (fun _ => rfl) fun vals w' hF hdep => by
    have e1 : (frm a (dsts akOps) vals).eval (.tmp 199) = .bool true := (D (k := 199) (by kernel_rfl)).eval.trans (hdep 199 (D (k := 199) (by kernel_rfl)).dep); unfold execOp; simp only [hop, e1]; first | (go_simp; done) | (go_simp; rfl)
theorem akst104 {Q : Exit → Act → World → Prop} {a : Act} {W : World} {g : Nat} {gx : Nat} {gn : Nat} {gy : Nat} {gz : Nat} {pe : Nat} {po : Nat} {Ce : Nat} {Sg : Option Addr} {Tg : Nat} {Al : Option Addr} {Cl : Nat} (K : akCtx g gx gn gy gz pe po Ce Sg Tg Al Cl a W) (o : Oper) (ho : akOps[104]? = some o) : Loose.Step Tryd.prog akOps Q (akF g gx gn gy gz pe po Ce Sg Tg Al Cl) a W.drew o := by
  obtain ⟨hd, hop, hg⟩ := Loose.op_of ho (show _ = some (some 201, .load 24 (.tmp 21), some (103, true)) by kernel_rfl)
  have D : ∀ {k : Nat}, Loose.depBi akOps 217 104 k = true → Loose.Dep akOps a o k := fun h => Loose.Dep.at K.hn ho h
  exact Loose.isW (Loose.Want.dep 103 true 200 hg (by kernel_rfl) (D (k := 200) (by kernel_rfl)) (fun _ _ h => h)) 201 hd (.agg #[.int .i64 2, .int .i64 6, .int .i64 2, .int .i64 4, .int .i64 2, .bool false]) (fun _ => rfl) fun vals w' hF hdep => by
    have e1 : (frm a (dsts akOps) vals).eval (.tmp 21) = .pointer (some ⟨gy, 0, none⟩) := (frm_eval_old a _ vals 21 (by kernel_rfl)).trans K.h21; have hh := K.r1 w' (Fr.trans' (Fr.refl _ _).drew hF); unfold execOp; simp only [hop, e1, Instr.loadAt, Instr.sureAddr, Sem.run_bind, Sem.run_pure, Result.andThen_ok, run_loadVar_row w' (gy) 24 24 _ _ _ hh Tryd.underlying24 rfl (by kernel_rfl)]
theorem akst105 {Q : Exit → Act → World → Prop} {a : Act} {W : World} {g : Nat} {gx : Nat} {gn : Nat} {gy : Nat} {gz : Nat} {pe : Nat} {po : Nat} {Ce : Nat} {Sg : Option Addr} {Tg : Nat} {Al : Option Addr} {Cl : Nat} (K : akCtx g gx gn gy gz pe po Ce Sg Tg Al Cl a W) (o : Oper) (ho : akOps[105]? = some o) : Loose.Step Tryd.prog akOps Q (akF g gx gn gy gz pe po Ce Sg Tg Al Cl) a W.drew o := by
  obtain ⟨hd, hop, hg⟩ := Loose.op_of ho (show _ = some (some 202, .buildSlice 52 2 #[(0, .const (.int .i64 4)), (1, .const (.int .i64 2))], some (103, true)) by kernel_rfl)
  have D : ∀ {k : Nat}, Loose.depBi akOps 217 105 k = true → Loose.Dep akOps a o k := fun h => Loose.Dep.at K.hn ho h
  exact Loose.valueW (Loose.Want.dep 103 true 200 hg (by kernel_rfl) (D (k := 200) (by kernel_rfl)) (fun _ _ h => h)) 202 hd fun vals w' hF hdep => ⟨.slice (some ⟨w'.heap.size, 0, none⟩) 2 2, w'.alloc (.cells #[.int .i64 4, .int .i64 2] 2), by have e1 : (frm a (dsts akOps) vals).eval (.const (.int .i64 4)) = .int .i64 4 := rfl; have e2 : (frm a (dsts akOps) vals).eval (.const (.int .i64 2)) = .int .i64 2 := rfl; unfold execOp; simp only [hop, e1, e2]; first | (go_simp; done) | (go_simp; rfl), ints_lit w' [4, 2] _ rfl _ rfl _ _ rfl, (Fr.refl _ _).alloc _⟩
theorem akst106 {Q : Exit → Act → World → Prop} {a : Act} {W : World} {g : Nat} {gx : Nat} {gn : Nat} {gy : Nat} {gz : Nat} {pe : Nat} {po : Nat} {Ce : Nat} {Sg : Option Addr} {Tg : Nat} {Al : Option Addr} {Cl : Nat} (K : akCtx g gx gn gy gz pe po Ce Sg Tg Al Cl a W) (o : Oper) (ho : akOps[106]? = some o) : Loose.Step Tryd.prog akOps Q (akF g gx gn gy gz pe po Ce Sg Tg Al Cl) a W.drew o := by
  obtain ⟨hd, hop, hg⟩ := Loose.op_of ho (show _ = some (some 203, .call { callee := .value (.func 11), args := #[.tmp 202], argTypes := #[52] }, some (103, true)) by kernel_rfl)
  have D : ∀ {k : Nat}, Loose.depBi akOps 217 106 k = true → Loose.Dep akOps a o k := fun h => Loose.Dep.at K.hn ho h
  exact Loose.callW (Loose.Want.dep 103 true 200 hg (by kernel_rfl) (D (k := 200) (by kernel_rfl)) (fun _ _ h => h)) 203 hd 11 _ _ hop _ Tryd.func11 (by kernel_rfl) (by kernel_rfl) fun vals w' hF hdep => by
    have e1 : (frm a (dsts akOps) vals).eval (.tmp 202) = vals 202 := (D (k := 202) (by kernel_rfl)).eval; rw [Loose.map1 e1]; exact (vals_any (vals 202) [4, 2] (by simp) w' (hdep 202 (D (k := 202) (by kernel_rfl)).dep)).mono fun e w'' ⟨A, C, he, hp, hf⟩ => ⟨_, he, hp, hf⟩
theorem akst107 {Q : Exit → Act → World → Prop} {a : Act} {W : World} {g : Nat} {gx : Nat} {gn : Nat} {gy : Nat} {gz : Nat} {pe : Nat} {po : Nat} {Ce : Nat} {Sg : Option Addr} {Tg : Nat} {Al : Option Addr} {Cl : Nat} (K : akCtx g gx gn gy gz pe po Ce Sg Tg Al Cl a W) (o : Oper) (ho : akOps[107]? = some o) : Loose.Step Tryd.prog akOps Q (akF g gx gn gy gz pe po Ce Sg Tg Al Cl) a W.drew o := by
  obtain ⟨hd, hop, hg⟩ := Loose.op_of ho (show _ = some (some 204, .call { callee := .value (.func 10), args := #[.tmp 203], argTypes := #[26] }, some (103, true)) by kernel_rfl)
  have D : ∀ {k : Nat}, Loose.depBi akOps 217 107 k = true → Loose.Dep akOps a o k := fun h => Loose.Dep.at K.hn ho h
  exact Loose.callW (Loose.Want.dep 103 true 200 hg (by kernel_rfl) (D (k := 200) (by kernel_rfl)) (fun _ _ h => h)) 204 hd 10 _ _ hop _ Tryd.func10 (by kernel_rfl) (by kernel_rfl) fun vals w' hF hdep => by
    have e1 : (frm a (dsts akOps) vals).eval (.tmp 203) = vals 203 := (D (k := 203) (by kernel_rfl)).eval; rw [Loose.map1 e1]; exact (of_is [4, 2] ⟨2, 6, 2, 4, 2, false⟩ (by kernel_rfl) (fun x hx => by simp only [List.mem_cons, List.not_mem_nil, or_false] at hx; unfold Fit; omega) (by simp) _ w' (hdep 203 (D (k := 203) (by kernel_rfl)).dep)).mono fun e w'' ⟨he, hf⟩ => ⟨_, he, rfl, hf⟩
theorem akst108 {Q : Exit → Act → World → Prop} {a : Act} {W : World} {g : Nat} {gx : Nat} {gn : Nat} {gy : Nat} {gz : Nat} {pe : Nat} {po : Nat} {Ce : Nat} {Sg : Option Addr} {Tg : Nat} {Al : Option Addr} {Cl : Nat} (K : akCtx g gx gn gy gz pe po Ce Sg Tg Al Cl a W) (o : Oper) (ho : akOps[108]? = some o) : Loose.Step Tryd.prog akOps Q (akF g gx gn gy gz pe po Ce Sg Tg Al Cl) a W.drew o := by
  obtain ⟨hd, hop, hg⟩ := Loose.op_of ho (show _ = some (some 205, .binOp .eql 24 (.tmp 201) (.tmp 204) 24, some (103, true)) by kernel_rfl)
  have D : ∀ {k : Nat}, Loose.depBi akOps 217 108 k = true → Loose.Dep akOps a o k := fun h => Loose.Dep.at K.hn ho h
  exact Loose.isW (Loose.Want.dep 103 true 200 hg (by kernel_rfl) (D (k := 200) (by kernel_rfl)) (fun _ _ h => h)) 205 hd (.bool true) (fun _ => rfl) fun vals w' hF hdep => by
    have e1 : (frm a (dsts akOps) vals).eval (.tmp 201) = .agg #[.int .i64 2, .int .i64 6, .int .i64 2, .int .i64 4, .int .i64 2, .bool false] := (D (k := 201) (by kernel_rfl)).eval.trans (hdep 201 (D (k := 201) (by kernel_rfl)).dep); have e2 : (frm a (dsts akOps) vals).eval (.tmp 204) = .agg #[.int .i64 2, .int .i64 6, .int .i64 2, .int .i64 4, .int .i64 2, .bool false] := (D (k := 204) (by kernel_rfl)).eval.trans (hdep 204 (D (k := 204) (by kernel_rfl)).dep); have heq := fun w => eq_go ⟨2, 6, 2, 4, 2, false⟩ w; unfold execOp; simp only [hop, e1, e2]; first | (go_simp; done) | (go_simp; rfl)
theorem akst109 {Q : Exit → Act → World → Prop} {a : Act} {W : World} {g : Nat} {gx : Nat} {gn : Nat} {gy : Nat} {gz : Nat} {pe : Nat} {po : Nat} {Ce : Nat} {Sg : Option Addr} {Tg : Nat} {Al : Option Addr} {Cl : Nat} (K : akCtx g gx gn gy gz pe po Ce Sg Tg Al Cl a W) (o : Oper) (ho : akOps[109]? = some o) : Loose.Step Tryd.prog akOps Q (akF g gx gn gy gz pe po Ce Sg Tg Al Cl) a W.drew o := by
  obtain ⟨hd, hop, hg⟩ := Loose.op_of ho (show _ = some (some 206, .pick (.tmp 200) (.tmp 205) (.const (.bool false)), none) by kernel_rfl)
  have D : ∀ {k : Nat}, Loose.depBi akOps 217 109 k = true → Loose.Dep akOps a o k := fun h => Loose.Dep.at K.hn ho h
  exact Loose.isW (Loose.Want.plain hg) 206 hd (.bool true) (fun _ => rfl) fun vals w' hF hdep => by
    have e1 : (frm a (dsts akOps) vals).eval (.tmp 200) = .bool true := (D (k := 200) (by kernel_rfl)).eval.trans (hdep 200 (D (k := 200) (by kernel_rfl)).dep); have e2 : (frm a (dsts akOps) vals).eval (.tmp 205) = .bool true := (D (k := 205) (by kernel_rfl)).eval.trans (hdep 205 (D (k := 205) (by kernel_rfl)).dep); have e3 : (frm a (dsts akOps) vals).eval (.const (.bool false)) = .bool false := rfl; unfold execOp; simp only [hop, e1, e2, e3]; first | (go_simp; done) | (go_simp; rfl)
theorem akst110 {Q : Exit → Act → World → Prop} {a : Act} {W : World} {g : Nat} {gx : Nat} {gn : Nat} {gy : Nat} {gz : Nat} {pe : Nat} {po : Nat} {Ce : Nat} {Sg : Option Addr} {Tg : Nat} {Al : Option Addr} {Cl : Nat} (K : akCtx g gx gn gy gz pe po Ce Sg Tg Al Cl a W) (o : Oper) (ho : akOps[110]? = some o) : Loose.Step Tryd.prog akOps Q (akF g gx gn gy gz pe po Ce Sg Tg Al Cl) a W.drew o := by
  obtain ⟨hd, hop, hg⟩ := Loose.op_of ho (show _ = some (some 207, .move (.tmp 206), none) by kernel_rfl)
  have D : ∀ {k : Nat}, Loose.depBi akOps 217 110 k = true → Loose.Dep akOps a o k := fun h => Loose.Dep.at K.hn ho h
  exact Loose.isW (Loose.Want.plain hg) 207 hd (.bool true) (fun _ => rfl) fun vals w' hF hdep => by
    have e1 : (frm a (dsts akOps) vals).eval (.tmp 206) = .bool true := (D (k := 206) (by kernel_rfl)).eval.trans (hdep 206 (D (k := 206) (by kernel_rfl)).dep); unfold execOp; simp only [hop, e1]; first | (go_simp; done) | (go_simp; rfl)
theorem akst111 {Q : Exit → Act → World → Prop} {a : Act} {W : World} {g : Nat} {gx : Nat} {gn : Nat} {gy : Nat} {gz : Nat} {pe : Nat} {po : Nat} {Ce : Nat} {Sg : Option Addr} {Tg : Nat} {Al : Option Addr} {Cl : Nat} (K : akCtx g gx gn gy gz pe po Ce Sg Tg Al Cl a W) (o : Oper) (ho : akOps[111]? = some o) : Loose.Step Tryd.prog akOps Q (akF g gx gn gy gz pe po Ce Sg Tg Al Cl) a W.drew o := by
  obtain ⟨hd, hop, hg⟩ := Loose.op_of ho (show _ = some (some 208, .load 24 (.tmp 22), some (110, true)) by kernel_rfl)
  have D : ∀ {k : Nat}, Loose.depBi akOps 217 111 k = true → Loose.Dep akOps a o k := fun h => Loose.Dep.at K.hn ho h
  exact Loose.isW (Loose.Want.dep 110 true 207 hg (by kernel_rfl) (D (k := 207) (by kernel_rfl)) (fun _ _ h => h)) 208 hd (.agg #[.int .i64 2, .int .i64 6, .int .i64 2, .int .i64 4, .int .i64 2, .bool false]) (fun _ => rfl) fun vals w' hF hdep => by
    have e1 : (frm a (dsts akOps) vals).eval (.tmp 22) = .pointer (some ⟨gz, 0, none⟩) := (frm_eval_old a _ vals 22 (by kernel_rfl)).trans K.h22; have hh := K.r2 w' (Fr.trans' (Fr.refl _ _).drew hF); unfold execOp; simp only [hop, e1, Instr.loadAt, Instr.sureAddr, Sem.run_bind, Sem.run_pure, Result.andThen_ok, run_loadVar_row w' (gz) 24 24 _ _ _ hh Tryd.underlying24 rfl (by kernel_rfl)]
theorem akst112 {Q : Exit → Act → World → Prop} {a : Act} {W : World} {g : Nat} {gx : Nat} {gn : Nat} {gy : Nat} {gz : Nat} {pe : Nat} {po : Nat} {Ce : Nat} {Sg : Option Addr} {Tg : Nat} {Al : Option Addr} {Cl : Nat} (K : akCtx g gx gn gy gz pe po Ce Sg Tg Al Cl a W) (o : Oper) (ho : akOps[112]? = some o) : Loose.Step Tryd.prog akOps Q (akF g gx gn gy gz pe po Ce Sg Tg Al Cl) a W.drew o := by
  obtain ⟨hd, hop, hg⟩ := Loose.op_of ho (show _ = some (some 209, .load 24 (.tmp 21), some (110, true)) by kernel_rfl)
  have D : ∀ {k : Nat}, Loose.depBi akOps 217 112 k = true → Loose.Dep akOps a o k := fun h => Loose.Dep.at K.hn ho h
  exact Loose.isW (Loose.Want.dep 110 true 207 hg (by kernel_rfl) (D (k := 207) (by kernel_rfl)) (fun _ _ h => h)) 209 hd (.agg #[.int .i64 2, .int .i64 6, .int .i64 2, .int .i64 4, .int .i64 2, .bool false]) (fun _ => rfl) fun vals w' hF hdep => by
    have e1 : (frm a (dsts akOps) vals).eval (.tmp 21) = .pointer (some ⟨gy, 0, none⟩) := (frm_eval_old a _ vals 21 (by kernel_rfl)).trans K.h21; have hh := K.r1 w' (Fr.trans' (Fr.refl _ _).drew hF); unfold execOp; simp only [hop, e1, Instr.loadAt, Instr.sureAddr, Sem.run_bind, Sem.run_pure, Result.andThen_ok, run_loadVar_row w' (gy) 24 24 _ _ _ hh Tryd.underlying24 rfl (by kernel_rfl)]
theorem akst113 {Q : Exit → Act → World → Prop} {a : Act} {W : World} {g : Nat} {gx : Nat} {gn : Nat} {gy : Nat} {gz : Nat} {pe : Nat} {po : Nat} {Ce : Nat} {Sg : Option Addr} {Tg : Nat} {Al : Option Addr} {Cl : Nat} (K : akCtx g gx gn gy gz pe po Ce Sg Tg Al Cl a W) (o : Oper) (ho : akOps[113]? = some o) : Loose.Step Tryd.prog akOps Q (akF g gx gn gy gz pe po Ce Sg Tg Al Cl) a W.drew o := by
  obtain ⟨hd, hop, hg⟩ := Loose.op_of ho (show _ = some (some 210, .binOp .eql 24 (.tmp 208) (.tmp 209) 24, some (110, true)) by kernel_rfl)
  have D : ∀ {k : Nat}, Loose.depBi akOps 217 113 k = true → Loose.Dep akOps a o k := fun h => Loose.Dep.at K.hn ho h
  exact Loose.isW (Loose.Want.dep 110 true 207 hg (by kernel_rfl) (D (k := 207) (by kernel_rfl)) (fun _ _ h => h)) 210 hd (.bool true) (fun _ => rfl) fun vals w' hF hdep => by
    have e1 : (frm a (dsts akOps) vals).eval (.tmp 208) = .agg #[.int .i64 2, .int .i64 6, .int .i64 2, .int .i64 4, .int .i64 2, .bool false] := (D (k := 208) (by kernel_rfl)).eval.trans (hdep 208 (D (k := 208) (by kernel_rfl)).dep); have e2 : (frm a (dsts akOps) vals).eval (.tmp 209) = .agg #[.int .i64 2, .int .i64 6, .int .i64 2, .int .i64 4, .int .i64 2, .bool false] := (D (k := 209) (by kernel_rfl)).eval.trans (hdep 209 (D (k := 209) (by kernel_rfl)).dep); have heq := fun w => eq_go ⟨2, 6, 2, 4, 2, false⟩ w; unfold execOp; simp only [hop, e1, e2]; first | (go_simp; done) | (go_simp; rfl)
theorem akst114 {Q : Exit → Act → World → Prop} {a : Act} {W : World} {g : Nat} {gx : Nat} {gn : Nat} {gy : Nat} {gz : Nat} {pe : Nat} {po : Nat} {Ce : Nat} {Sg : Option Addr} {Tg : Nat} {Al : Option Addr} {Cl : Nat} (K : akCtx g gx gn gy gz pe po Ce Sg Tg Al Cl a W) (o : Oper) (ho : akOps[114]? = some o) : Loose.Step Tryd.prog akOps Q (akF g gx gn gy gz pe po Ce Sg Tg Al Cl) a W.drew o := by
  obtain ⟨hd, hop, hg⟩ := Loose.op_of ho (show _ = some (some 211, .pick (.tmp 207) (.tmp 210) (.const (.bool false)), none) by kernel_rfl)
  have D : ∀ {k : Nat}, Loose.depBi akOps 217 114 k = true → Loose.Dep akOps a o k := fun h => Loose.Dep.at K.hn ho h
  exact Loose.isW (Loose.Want.plain hg) 211 hd (.bool true) (fun _ => rfl) fun vals w' hF hdep => by
    have e1 : (frm a (dsts akOps) vals).eval (.tmp 207) = .bool true := (D (k := 207) (by kernel_rfl)).eval.trans (hdep 207 (D (k := 207) (by kernel_rfl)).dep); have e2 : (frm a (dsts akOps) vals).eval (.tmp 210) = .bool true := (D (k := 210) (by kernel_rfl)).eval.trans (hdep 210 (D (k := 210) (by kernel_rfl)).dep); have e3 : (frm a (dsts akOps) vals).eval (.const (.bool false)) = .bool false := rfl; unfold execOp; simp only [hop, e1, e2, e3]; first | (go_simp; done) | (go_simp; rfl)
theorem akst115 {Q : Exit → Act → World → Prop} {a : Act} {W : World} {g : Nat} {gx : Nat} {gn : Nat} {gy : Nat} {gz : Nat} {pe : Nat} {po : Nat} {Ce : Nat} {Sg : Option Addr} {Tg : Nat} {Al : Option Addr} {Cl : Nat} (K : akCtx g gx gn gy gz pe po Ce Sg Tg Al Cl a W) (o : Oper) (ho : akOps[115]? = some o) : Loose.Step Tryd.prog akOps Q (akF g gx gn gy gz pe po Ce Sg Tg Al Cl) a W.drew o := by
  obtain ⟨hd, hop, hg⟩ := Loose.op_of ho (show _ = some (some 212, .move (.tmp 211), none) by kernel_rfl)
  have D : ∀ {k : Nat}, Loose.depBi akOps 217 115 k = true → Loose.Dep akOps a o k := fun h => Loose.Dep.at K.hn ho h
  exact Loose.isW (Loose.Want.plain hg) 212 hd (.bool true) (fun _ => rfl) fun vals w' hF hdep => by
    have e1 : (frm a (dsts akOps) vals).eval (.tmp 211) = .bool true := (D (k := 211) (by kernel_rfl)).eval.trans (hdep 211 (D (k := 211) (by kernel_rfl)).dep); unfold execOp; simp only [hop, e1]; first | (go_simp; done) | (go_simp; rfl)
theorem akst116 {Q : Exit → Act → World → Prop} {a : Act} {W : World} {g : Nat} {gx : Nat} {gn : Nat} {gy : Nat} {gz : Nat} {pe : Nat} {po : Nat} {Ce : Nat} {Sg : Option Addr} {Tg : Nat} {Al : Option Addr} {Cl : Nat} (K : akCtx g gx gn gy gz pe po Ce Sg Tg Al Cl a W) (o : Oper) (ho : akOps[116]? = some o) : Loose.Step Tryd.prog akOps Q (akF g gx gn gy gz pe po Ce Sg Tg Al Cl) a W.drew o := by
  obtain ⟨hd, hop, hg⟩ := Loose.op_of ho (show _ = some (some 213, .load 24 (.tmp 3), some (115, true)) by kernel_rfl)
  have D : ∀ {k : Nat}, Loose.depBi akOps 217 116 k = true → Loose.Dep akOps a o k := fun h => Loose.Dep.at K.hn ho h
  exact Loose.isW (Loose.Want.dep 115 true 212 hg (by kernel_rfl) (D (k := 212) (by kernel_rfl)) (fun _ _ h => h)) 213 hd (.agg #[.int .i64 2, .int .i64 0, .int .i64 1, .int .i64 9223372036854775807, .int .i64 1, .bool true]) (fun _ => rfl) fun vals w' hF hdep => by
    have e1 : (frm a (dsts akOps) vals).eval (.tmp 3) = .pointer (some ⟨g, 0, none⟩) := (frm_eval_old a _ vals 3 (by kernel_rfl)).trans K.h3; have hh := K.r3 w' (Fr.trans' (Fr.refl _ _).drew hF); unfold execOp; simp only [hop, e1, Instr.loadAt, Instr.sureAddr, Sem.run_bind, Sem.run_pure, Result.andThen_ok, run_loadVar_row w' (g) 24 24 _ _ _ hh Tryd.underlying24 rfl (by kernel_rfl)]
theorem akst117 {Q : Exit → Act → World → Prop} {a : Act} {W : World} {g : Nat} {gx : Nat} {gn : Nat} {gy : Nat} {gz : Nat} {pe : Nat} {po : Nat} {Ce : Nat} {Sg : Option Addr} {Tg : Nat} {Al : Option Addr} {Cl : Nat} (K : akCtx g gx gn gy gz pe po Ce Sg Tg Al Cl a W) (o : Oper) (ho : akOps[117]? = some o) : Loose.Step Tryd.prog akOps Q (akF g gx gn gy gz pe po Ce Sg Tg Al Cl) a W.drew o := by
  obtain ⟨hd, hop, hg⟩ := Loose.op_of ho (show _ = some (some 214, .call { callee := .value (.func 14), args := #[.tmp 213], argTypes := #[24] }, some (115, true)) by kernel_rfl)
  have D : ∀ {k : Nat}, Loose.depBi akOps 217 117 k = true → Loose.Dep akOps a o k := fun h => Loose.Dep.at K.hn ho h
  exact Loose.callW (Loose.Want.dep 115 true 212 hg (by kernel_rfl) (D (k := 212) (by kernel_rfl)) (fun _ _ h => h)) 214 hd 14 _ _ hop _ Tryd.func14 (by kernel_rfl) (by kernel_rfl) fun vals w' hF hdep => by
    have e1 : (frm a (dsts akOps) vals).eval (.tmp 213) = .agg #[.int .i64 2, .int .i64 0, .int .i64 1, .int .i64 9223372036854775807, .int .i64 1, .bool true] := (D (k := 213) (by kernel_rfl)).eval.trans (hdep 213 (D (k := 213) (by kernel_rfl)).dep); rw [Loose.map1 e1]; exact (text_is_of ⟨2, 0, 1, 9223372036854775807, 1, true⟩ [99, 111, 117, 110, 116, 32, 50, 32, 115, 117, 109, 32, 111, 118, 101, 114, 32, 109, 105, 110, 32, 49, 32, 109, 97, 120, 32, 57, 50, 50, 51, 51, 55, 50, 48, 51, 54, 56, 53, 52, 55, 55, 53, 56, 48, 55, 32, 108, 97, 115, 116, 32, 49] (by unfold SizedA Fit; simp) (by decide +kernel) w' (K.laid.fr (Fr.trans' (Fr.refl _ _).drew hF))).mono fun e w'' ⟨he, hf⟩ => ⟨_, he, rfl, hf⟩
theorem akst118 {Q : Exit → Act → World → Prop} {a : Act} {W : World} {g : Nat} {gx : Nat} {gn : Nat} {gy : Nat} {gz : Nat} {pe : Nat} {po : Nat} {Ce : Nat} {Sg : Option Addr} {Tg : Nat} {Al : Option Addr} {Cl : Nat} (K : akCtx g gx gn gy gz pe po Ce Sg Tg Al Cl a W) (o : Oper) (ho : akOps[118]? = some o) : Loose.Step Tryd.prog akOps Q (akF g gx gn gy gz pe po Ce Sg Tg Al Cl) a W.drew o := by
  obtain ⟨hd, hop, hg⟩ := Loose.op_of ho (show _ = some (some 215, .binOp .eql 9 (.tmp 214) (.const (.string ⟨#[99, 111, 117, 110, 116, 32, 50, 32, 115, 117, 109, 32, 111, 118, 101, 114, 32, 109, 105, 110, 32, 49, 32, 109, 97, 120, 32, 57, 50, 50, 51, 51, 55, 50, 48, 51, 54, 56, 53, 52, 55, 55, 53, 56, 48, 55, 32, 108, 97, 115, 116, 32, 49]⟩)) 9, some (115, true)) by kernel_rfl)
  have D : ∀ {k : Nat}, Loose.depBi akOps 217 118 k = true → Loose.Dep akOps a o k := fun h => Loose.Dep.at K.hn ho h
  exact Loose.isW (Loose.Want.dep 115 true 212 hg (by kernel_rfl) (D (k := 212) (by kernel_rfl)) (fun _ _ h => h)) 215 hd (.bool true) (fun _ => rfl) fun vals w' hF hdep => by
    have e1 : (frm a (dsts akOps) vals).eval (.tmp 214) = .string ⟨([99, 111, 117, 110, 116, 32, 50, 32, 115, 117, 109, 32, 111, 118, 101, 114, 32, 109, 105, 110, 32, 49, 32, 109, 97, 120, 32, 57, 50, 50, 51, 51, 55, 50, 48, 51, 54, 56, 53, 52, 55, 55, 53, 56, 48, 55, 32, 108, 97, 115, 116, 32, 49] : List UInt8).toArray⟩ := (D (k := 214) (by kernel_rfl)).eval.trans (hdep 214 (D (k := 214) (by kernel_rfl)).dep); have e2 : (frm a (dsts akOps) vals).eval (.const (.string ⟨#[99, 111, 117, 110, 116, 32, 50, 32, 115, 117, 109, 32, 111, 118, 101, 114, 32, 109, 105, 110, 32, 49, 32, 109, 97, 120, 32, 57, 50, 50, 51, 51, 55, 50, 48, 51, 54, 56, 53, 52, 55, 55, 53, 56, 48, 55, 32, 108, 97, 115, 116, 32, 49]⟩)) = .string ⟨#[99, 111, 117, 110, 116, 32, 50, 32, 115, 117, 109, 32, 111, 118, 101, 114, 32, 109, 105, 110, 32, 49, 32, 109, 97, 120, 32, 57, 50, 50, 51, 51, 55, 50, 48, 51, 54, 56, 53, 52, 55, 55, 53, 56, 48, 55, 32, 108, 97, 115, 116, 32, 49]⟩ := rfl; unfold execOp; simp only [hop, e1, e2]; first | (go_simp; done) | (go_simp; rfl)
theorem akst119 {Q : Exit → Act → World → Prop} {a : Act} {W : World} {g : Nat} {gx : Nat} {gn : Nat} {gy : Nat} {gz : Nat} {pe : Nat} {po : Nat} {Ce : Nat} {Sg : Option Addr} {Tg : Nat} {Al : Option Addr} {Cl : Nat} (K : akCtx g gx gn gy gz pe po Ce Sg Tg Al Cl a W) (o : Oper) (ho : akOps[119]? = some o) : Loose.Step Tryd.prog akOps Q (akF g gx gn gy gz pe po Ce Sg Tg Al Cl) a W.drew o := by
  obtain ⟨hd, hop, hg⟩ := Loose.op_of ho (show _ = some (some 216, .pick (.tmp 212) (.tmp 215) (.const (.bool false)), none) by kernel_rfl)
  have D : ∀ {k : Nat}, Loose.depBi akOps 217 119 k = true → Loose.Dep akOps a o k := fun h => Loose.Dep.at K.hn ho h
  exact Loose.isW (Loose.Want.plain hg) 216 hd (.bool true) (fun _ => rfl) fun vals w' hF hdep => by
    have e1 : (frm a (dsts akOps) vals).eval (.tmp 212) = .bool true := (D (k := 212) (by kernel_rfl)).eval.trans (hdep 212 (D (k := 212) (by kernel_rfl)).dep); have e2 : (frm a (dsts akOps) vals).eval (.tmp 215) = .bool true := (D (k := 215) (by kernel_rfl)).eval.trans (hdep 215 (D (k := 215) (by kernel_rfl)).dep); have e3 : (frm a (dsts akOps) vals).eval (.const (.bool false)) = .bool false := rfl; unfold execOp; simp only [hop, e1, e2, e3]; first | (go_simp; done) | (go_simp; rfl)
theorem akst120 {Q : Exit → Act → World → Prop} {a : Act} {W : World} {g : Nat} {gx : Nat} {gn : Nat} {gy : Nat} {gz : Nat} {pe : Nat} {po : Nat} {Ce : Nat} {Sg : Option Addr} {Tg : Nat} {Al : Option Addr} {Cl : Nat} (K : akCtx g gx gn gy gz pe po Ce Sg Tg Al Cl a W) (o : Oper) (ho : akOps[120]? = some o) : Loose.Step Tryd.prog akOps Q (akF g gx gn gy gz pe po Ce Sg Tg Al Cl) a W.drew o := by
  obtain ⟨hd, hop, hg⟩ := Loose.op_of ho (show _ = some (some 0, .assign (.tmp 216), none) by kernel_rfl)
  have D : ∀ {k : Nat}, Loose.depBi akOps 217 120 k = true → Loose.Dep akOps a o k := fun h => Loose.Dep.at K.hn ho h
  exact Loose.isW (Loose.Want.plain hg) 0 hd (.bool true) (fun _ => rfl) fun vals w' hF hdep => by
    have e1 : (frm a (dsts akOps) vals).eval (.tmp 216) = .bool true := (D (k := 216) (by kernel_rfl)).eval.trans (hdep 216 (D (k := 216) (by kernel_rfl)).dep); unfold execOp; simp only [hop, e1]; first | (go_simp; done) | (go_simp; rfl)
theorem akLen : akOps.length = 121 := by kernel_rfl
theorem akr {Q : Exit → Act → World → Prop} {a : Act} {W : World} {id : Nat} {g : Nat} {gx : Nat} {gn : Nat} {gy : Nat} {gz : Nat} {pe : Nat} {po : Nat} {Ce : Nat} {Sg : Option Addr} {Tg : Nat} {Al : Option Addr} {Cl : Nat} (K : akCtx g gx gn gy gz pe po Ce Sg Tg Al Cl a W)
    (hQ : ∀ (a' : Act) (w' : World), Fr0 W w' → a'.defers = a.defers → a'.eval (.tmp 0) = .bool true → Q .normal a' w') : (Code.region id akOps.toArray true).wp Tryd.prog Q a W := by
  refine Loose.regionAll (akF g gx gn gy gz pe po Ce Sg Tg Al Cl) (akmono g gx gn gy gz pe po Ce Sg Tg Al Cl) (by kernel_rfl) (by kernel_rfl) (by rw [K.hn]; kernel_rfl) (fun i o ho => ?_) (fun vals w' hF hv => ?_)
  · have hi : i < 121 := by rw [← akLen]; exact (List.getElem?_eq_some_iff.1 ho).1
    match i, hi, ho with
    | 0, _, ho => exact akst0 K o ho
    | 1, _, ho => exact akst1 K o ho
    | 2, _, ho => exact akst2 K o ho
    | 3, _, ho => exact akst3 K o ho
    | 4, _, ho => exact akst4 K o ho
    | 5, _, ho => exact akst5 K o ho
    | 6, _, ho => exact akst6 K o ho
    | 7, _, ho => exact akst7 K o ho
    | 8, _, ho => exact akst8 K o ho
    | 9, _, ho => exact akst9 K o ho
    | 10, _, ho => exact akst10 K o ho
    | 11, _, ho => exact akst11 K o ho
    | 12, _, ho => exact akst12 K o ho
    | 13, _, ho => exact akst13 K o ho
    | 14, _, ho => exact akst14 K o ho
    | 15, _, ho => exact akst15 K o ho
    | 16, _, ho => exact akst16 K o ho
    | 17, _, ho => exact akst17 K o ho
    | 18, _, ho => exact akst18 K o ho
    | 19, _, ho => exact akst19 K o ho
    | 20, _, ho => exact akst20 K o ho
    | 21, _, ho => exact akst21 K o ho
    | 22, _, ho => exact akst22 K o ho
    | 23, _, ho => exact akst23 K o ho
    | 24, _, ho => exact akst24 K o ho
    | 25, _, ho => exact akst25 K o ho
    | 26, _, ho => exact akst26 K o ho
    | 27, _, ho => exact akst27 K o ho
    | 28, _, ho => exact akst28 K o ho
    | 29, _, ho => exact akst29 K o ho
    | 30, _, ho => exact akst30 K o ho
    | 31, _, ho => exact akst31 K o ho
    | 32, _, ho => exact akst32 K o ho
    | 33, _, ho => exact akst33 K o ho
    | 34, _, ho => exact akst34 K o ho
    | 35, _, ho => exact akst35 K o ho
    | 36, _, ho => exact akst36 K o ho
    | 37, _, ho => exact akst37 K o ho
    | 38, _, ho => exact akst38 K o ho
    | 39, _, ho => exact akst39 K o ho
    | 40, _, ho => exact akst40 K o ho
    | 41, _, ho => exact akst41 K o ho
    | 42, _, ho => exact akst42 K o ho
    | 43, _, ho => exact akst43 K o ho
    | 44, _, ho => exact akst44 K o ho
    | 45, _, ho => exact akst45 K o ho
    | 46, _, ho => exact akst46 K o ho
    | 47, _, ho => exact akst47 K o ho
    | 48, _, ho => exact akst48 K o ho
    | 49, _, ho => exact akst49 K o ho
    | 50, _, ho => exact akst50 K o ho
    | 51, _, ho => exact akst51 K o ho
    | 52, _, ho => exact akst52 K o ho
    | 53, _, ho => exact akst53 K o ho
    | 54, _, ho => exact akst54 K o ho
    | 55, _, ho => exact akst55 K o ho
    | 56, _, ho => exact akst56 K o ho
    | 57, _, ho => exact akst57 K o ho
    | 58, _, ho => exact akst58 K o ho
    | 59, _, ho => exact akst59 K o ho
    | 60, _, ho => exact akst60 K o ho
    | 61, _, ho => exact akst61 K o ho
    | 62, _, ho => exact akst62 K o ho
    | 63, _, ho => exact akst63 K o ho
    | 64, _, ho => exact akst64 K o ho
    | 65, _, ho => exact akst65 K o ho
    | 66, _, ho => exact akst66 K o ho
    | 67, _, ho => exact akst67 K o ho
    | 68, _, ho => exact akst68 K o ho
    | 69, _, ho => exact akst69 K o ho
    | 70, _, ho => exact akst70 K o ho
    | 71, _, ho => exact akst71 K o ho
    | 72, _, ho => exact akst72 K o ho
    | 73, _, ho => exact akst73 K o ho
    | 74, _, ho => exact akst74 K o ho
    | 75, _, ho => exact akst75 K o ho
    | 76, _, ho => exact akst76 K o ho
    | 77, _, ho => exact akst77 K o ho
    | 78, _, ho => exact akst78 K o ho
    | 79, _, ho => exact akst79 K o ho
    | 80, _, ho => exact akst80 K o ho
    | 81, _, ho => exact akst81 K o ho
    | 82, _, ho => exact akst82 K o ho
    | 83, _, ho => exact akst83 K o ho
    | 84, _, ho => exact akst84 K o ho
    | 85, _, ho => exact akst85 K o ho
    | 86, _, ho => exact akst86 K o ho
    | 87, _, ho => exact akst87 K o ho
    | 88, _, ho => exact akst88 K o ho
    | 89, _, ho => exact akst89 K o ho
    | 90, _, ho => exact akst90 K o ho
    | 91, _, ho => exact akst91 K o ho
    | 92, _, ho => exact akst92 K o ho
    | 93, _, ho => exact akst93 K o ho
    | 94, _, ho => exact akst94 K o ho
    | 95, _, ho => exact akst95 K o ho
    | 96, _, ho => exact akst96 K o ho
    | 97, _, ho => exact akst97 K o ho
    | 98, _, ho => exact akst98 K o ho
    | 99, _, ho => exact akst99 K o ho
    | 100, _, ho => exact akst100 K o ho
    | 101, _, ho => exact akst101 K o ho
    | 102, _, ho => exact akst102 K o ho
    | 103, _, ho => exact akst103 K o ho
    | 104, _, ho => exact akst104 K o ho
    | 105, _, ho => exact akst105 K o ho
    | 106, _, ho => exact akst106 K o ho
    | 107, _, ho => exact akst107 K o ho
    | 108, _, ho => exact akst108 K o ho
    | 109, _, ho => exact akst109 K o ho
    | 110, _, ho => exact akst110 K o ho
    | 111, _, ho => exact akst111 K o ho
    | 112, _, ho => exact akst112 K o ho
    | 113, _, ho => exact akst113 K o ho
    | 114, _, ho => exact akst114 K o ho
    | 115, _, ho => exact akst115 K o ho
    | 116, _, ho => exact akst116 K o ho
    | 117, _, ho => exact akst117 K o ho
    | 118, _, ho => exact akst118 K o ho
    | 119, _, ho => exact akst119 K o ho
    | 120, _, ho => exact akst120 K o ho
  · refine hQ _ w' (Fr.trans' ((Fr.refl _ _).drew) hF) rfl ?_
    have hm : (0 : Nat) ∈ dsts akOps := List.contains_iff_mem.1 (by kernel_rfl)
    rw [frm_eval a _ vals 0 hm (by rw [K.hn]; decide)]
    obtain ⟨o9, h9, e9⟩ : ∃ o, akOps[120]? = some o ∧ o.dst = some 0 := ⟨_, rfl, by kernel_rfl⟩
    exact hv 120 o9 0 h9 e9
end Go.Proofs.YtbiokogihimboaaDoor.AggL
