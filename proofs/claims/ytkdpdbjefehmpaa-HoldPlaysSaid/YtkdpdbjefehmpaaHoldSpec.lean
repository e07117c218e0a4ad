/-
  What a hold keeps: a list of (handle, bytes, blocks), rising in its handles; where its slices lie. No program stands here.
-/
import Derived.Test.YtkdpdbjefehmpaaHoldMap
import Derived.Test.YtkdpdbjefehmpaaBlkSpec
import Derived.Test.YtkdpdbjefehmpaaAreIO
namespace Go.Proofs.Ytkdpdbjefehmpaa.Hold
open Go.RowKit Base Go.Maps Arena

/-- one that is kept: its handle, its bytes, its blocks; how the list of its blocks lies (A, C), how its bytes do (D, E: in the reference alone) -/
structure Ent where
  id : Int
  x : List UInt8
  T : List Nat
  A : Option Addr
  C : Nat
  D : Option Addr
  E : Nat
def Ent.cuts (e : Ent) : Value := .slice e.A e.T.length e.C
def Ent.bytes (e : Ent) : Value := .slice e.D e.x.length e.E
def Ent.val (e : Ent) : Value := .agg #[e.cuts, .int .i64 (e.x.length : Int)]
def pairs (es : List Ent) : List (Int × Value) := es.map fun e => (e.id, e.val)
def find (id : Int) (es : List Ent) : Option Ent := es.find? fun e => e.id == id
def drop (id : Int) (es : List Ent) : List Ent := es.filter fun e => !(e.id == id)
def live (es : List Ent) : Nat := (es.map fun e => e.x.length).sum
def ids (es : List Ent) : List Int := es.map fun e => e.id
theorem pairs_snoc (es : List Ent) (e : Ent) : pairs (es ++ [e]) = pairs es ++ [(e.id, e.val)] := by simp [pairs]
theorem pairs_drop (id : Int) (es : List Ent) : (pairs es).filter (fun p => !(p.1 == id)) = pairs (drop id es) := by
  unfold pairs drop
  rw [List.filter_map]
  rfl
theorem pairs_keys (es : List Ent) : (pairs es).map (·.1) = ids es := by
  unfold pairs ids
  rw [List.map_map]
  rfl
theorem pairs_any (id : Int) (es : List Ent) : (pairs es).any (fun p => p.1 == id) = (find id es).isSome := by
  induction es with
  | nil => rfl
  | cons e es ih =>
    show ((e.id == id) || (pairs es).any fun p => p.1 == id) = _
    rw [ih]
    unfold find
    rw [List.find?_cons]
    cases e.id == id <;> rfl
theorem pairs_find (id : Int) (es : List Ent) : (pairs es).find? (fun p => p.1 == id) = (find id es).map fun e => (e.id, e.val) := by
  unfold pairs find
  rw [List.find?_map]
  rfl
theorem pairs_length (es : List Ent) : (pairs es).length = es.length := by simp [pairs]
theorem find_mem {id : Int} {es : List Ent} {e : Ent} (h : find id es = some e) : e ∈ es ∧ e.id = id := ⟨List.mem_of_find?_eq_some h, by have := List.find?_some h; simpa using this⟩
theorem drop_mem {id : Int} {es : List Ent} {e : Ent} (h : e ∈ drop id es) : e ∈ es := (List.mem_filter.1 h).1
/-- a slice that lies in blocks of one's own, none of which is ever written -/
def Lies (w : World) (Own : Nat → Prop) (ne : List Nat) (A : Option Addr) : Prop := ∀ a, A = some a → Own a.block ∧ a.block < w.heap.size ∧ a.block ∉ ne
theorem Lies.mono {w w' : World} {Own Own' : Nat → Prop} {ne : List Nat} {A : Option Addr} (h : Lies w Own ne A) (hs : w.heap.size ≤ w'.heap.size) (ho : ∀ j, j < w.heap.size → Own j → Own' j) : Lies w' Own' ne A := fun a ha => by
  obtain ⟨h1, h2, h3⟩ := h a ha
  exact ⟨ho _ h2 h1, by omega, h3⟩
theorem cuts_fr {S : Nat → Prop} {w w' : World} {e : Ent} (hf : Fr S w w') (h : IntsIs w e.cuts (Blocks.nints e.T)) (hs : e.T ≠ [] → ∀ a, e.A = some a → ¬ S a.block) : IntsIs w' e.cuts (Blocks.nints e.T) := by
  by_cases h0 : e.T = []
  · obtain ⟨a, cap, pb, po, hv, hle, ha, hc⟩ := h
    rw [h0] at hv hle ha hc ⊢
    exact ⟨a, cap, pb, po, hv, hle, ha, fun j hj => absurd hj (by simp [Blocks.nints])⟩
  · refine h.fr hf (fun a n c hv => ?_)
    unfold Ent.cuts at hv
    simp only [Value.slice.injEq] at hv
    exact hs h0 a hv.1
theorem bytes_fr {S : Nat → Prop} {w w' : World} {v : Value} {x : List UInt8} (hf : Fr S w w') (h : BytesIs w v x) (hs : x ≠ [] → ∀ a n c, v = .slice (some a) n c → ¬ S a.block) : BytesIs w' v x := by
  by_cases h0 : x = []
  · subst h0
    obtain ⟨a, cap, pb, po, hv, hle, ha, hc⟩ := h
    exact ⟨a, cap, pb, po, hv, hle, ha, fun j hj => absurd hj (by simp)⟩
  · exact h.fr hf (hs h0)
/-- how many blocks so many bytes take -/
def need (n : Nat) : Nat := (n + 31) / 32
theorem needs_need (n : Nat) : Blocks.needs (n : Int) = (need n : Int) := by
  unfold Blocks.needs need
  split <;> omega
/-- the piece of x that goes into its k-th block -/
def piece (x : List UInt8) (k : Nat) : List UInt8 := (x.drop (32 * k)).take 32
theorem piece_length (x : List UInt8) (k : Nat) : (piece x k).length = min 32 (x.length - 32 * k) := by simp [piece]
/-- the arena's bytes behind so many pieces -/
def puts (L : List Int) (part : Nat) (T : List Nat) (x : List UInt8) : Nat → List UInt8 → List UInt8
  | 0, bs => bs
  | k + 1, bs => Arena.wrote L (puts L part T x k bs) (part : Int) ((T.getD k 0 : Int) * 32) (piece x k)
/-- what is read back of so many pieces -/
def gots (L : List Int) (part : Nat) (T : List Nat) (bs : List UInt8) (size : Nat) : Nat → List UInt8
  | 0 => []
  | k + 1 => gots L part T bs size k ++ Arena.readOut L bs (part : Int) ((T.getD k 0 : Int) * 32) ((min 32 (size - 32 * k) : Nat) : Int)
end Go.Proofs.Ytkdpdbjefehmpaa.Hold
