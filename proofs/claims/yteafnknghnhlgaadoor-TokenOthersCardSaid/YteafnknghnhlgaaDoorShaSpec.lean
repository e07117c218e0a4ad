/-
  SHA-256 as plain reckoning on Int, in the walk's own spelling; the state after so many whole blocks of a list of bytes. No program stands here.
-/
import Derived.WalkKit
namespace Go.Proofs.YteafnknghnhlgaaDoor.Sha
open Go

def M : Int := 4294967296
def be (b0 b1 b2 b3 : Int) : Int := bits .or .u32 (bits .or .u32 (bits .or .u32 (b0 * 16777216) (b1 * 65536)) (b2 * 256)) b3
/-- turned left by m places -/
def rl (x : Int) (m : Nat) : Int := bits .or .u32 (x * 2 ^ m % 4294967296) (x / 2 ^ (32 - m))
def x3 (a b c : Int) : Int := bits .xor .u32 (bits .xor .u32 a b) c
def near (x : Int) : Int := x3 (rl x 25) (rl x 14) (x / 8)
def far (x : Int) : Int := x3 (rl x 15) (rl x 13) (x / 1024)
def up0 (x : Int) : Int := x3 (rl x 30) (rl x 19) (rl x 10)
def up1 (x : Int) : Int := x3 (rl x 26) (rl x 21) (rl x 7)
def notU (x : Int) : Int := bits .xor .u32 IntKind.u32.max x
def choose (e f g : Int) : Int := bits .xor .u32 (bits .and .u32 e f) (bits .and .u32 (notU e) g)
def most (a b c : Int) : Int := x3 (bits .and .u32 a b) (bits .and .u32 a c) (bits .and .u32 b c)
def nextW (a b c d : Int) : Int := (a + near b + c + far d) % 4294967296

/-- the schedule's first n words -/
def sch (B : Nat → Int) : Nat → List Int
  | 0 => []
  | n + 1 => sch B n ++ [if n < 16 then be (B (4 * n)) (B (4 * n + 1)) (B (4 * n + 2)) (B (4 * n + 3))
      else nextW ((sch B n).getD (n - 16) 0) ((sch B n).getD (n - 15) 0) ((sch B n).getD (n - 7) 0) ((sch B n).getD (n - 2) 0)]
def W (B : Nat → Int) (i : Nat) : Int := (sch B 64).getD i 0

theorem sch_length (B : Nat → Int) : ∀ n, (sch B n).length = n
  | 0 => rfl
  | n + 1 => by simp [sch, sch_length B n]
theorem sch_getD (B : Nat → Int) (i : Nat) : ∀ m n, i < n → (sch B (n + m)).getD i 0 = (sch B n).getD i 0
  | 0, _, _ => rfl
  | m + 1, n, h => by
    rw [← sch_getD B i m n h, show n + (m + 1) = (n + m) + 1 from rfl, sch]
    simp only [List.getD_eq_getElem?_getD]
    rw [List.getElem?_append_left (by rw [sch_length]; omega)]
theorem W_sch (B : Nat → Int) (i n : Nat) (h : i < n) (hn : n ≤ 64) : (sch B n).getD i 0 = W B i := by
  have := sch_getD B i (64 - n) n h
  rw [show n + (64 - n) = 64 from by omega] at this
  exact this.symm
theorem sch_last (B : Nat → Int) (n : Nat) : (sch B (n + 1)).getD n 0 = (if n < 16 then be (B (4 * n)) (B (4 * n + 1)) (B (4 * n + 2)) (B (4 * n + 3))
      else nextW ((sch B n).getD (n - 16) 0) ((sch B n).getD (n - 15) 0) ((sch B n).getD (n - 7) 0) ((sch B n).getD (n - 2) 0)) := by
  simp only [List.getD_eq_getElem?_getD]
  rw [sch, List.getElem?_append_right (by rw [sch_length]; exact Nat.le_refl _), sch_length]
  simp
theorem W_lo (B : Nat → Int) (n : Nat) (h : n < 16) : W B n = be (B (4 * n)) (B (4 * n + 1)) (B (4 * n + 2)) (B (4 * n + 3)) := by
  rw [← W_sch B n (n + 1) (by omega) (by omega), sch_last, if_pos h]
theorem W_hi (B : Nat → Int) (n : Nat) (h : 16 ≤ n) (hn : n < 64) : W B n = nextW (W B (n - 16)) (W B (n - 15)) (W B (n - 7)) (W B (n - 2)) := by
  rw [← W_sch B n (n + 1) (by omega) (by omega), sch_last, if_neg (by omega)]
  rw [W_sch B (n - 16) n (by omega) (by omega), W_sch B (n - 15) n (by omega) (by omega), W_sch B (n - 7) n (by omega) (by omega), W_sch B (n - 2) n (by omega) (by omega)]

/-! ### All that is made is a word -/
theorem bits_lt (op : BinOp) (a b : Int) : 0 ≤ bits op .u32 a b ∧ bits op .u32 a b < 4294967296 := by
  simp only [bits, IntKind.wrap_u32']
  omega
theorem rl_lt (x : Int) (m : Nat) : 0 ≤ rl x m ∧ rl x m < 4294967296 := bits_lt _ _ _
theorem x3_lt (a b c : Int) : 0 ≤ x3 a b c ∧ x3 a b c < 4294967296 := bits_lt _ _ _
theorem be_lt (a b c d : Int) : 0 ≤ be a b c d ∧ be a b c d < 4294967296 := bits_lt _ _ _
theorem nextW_lt (a b c d : Int) : 0 ≤ nextW a b c d ∧ nextW a b c d < 4294967296 := by unfold nextW; omega
theorem W_lt (B : Nat → Int) (i : Nat) (h : i < 64) : 0 ≤ W B i ∧ W B i < 4294967296 := by
  by_cases h' : i < 16
  · rw [W_lo B i h']; exact be_lt _ _ _ _
  · rw [W_hi B i (by omega) h]; exact nextW_lt _ _ _ _

/-! ### A round, a block -/
structure St where
  a : Int
  b : Int
  c : Int
  d : Int
  e : Int
  f : Int
  g : Int
  h : Int
def St.at (s : St) : Nat → Int
  | 0 => s.a | 1 => s.b | 2 => s.c | 3 => s.d | 4 => s.e | 5 => s.f | 6 => s.g | _ => s.h
def first (k w : Int) (s : St) : Int := (s.h + up1 s.e + choose s.e s.f s.g + k + w) % 4294967296
def second (s : St) : Int := (up0 s.a + most s.a s.b s.c) % 4294967296
def rstep (k w : Int) (s : St) : St :=
  ⟨(first k w s + second s) % 4294967296, s.a, s.b, s.c, (s.d + first k w s) % 4294967296, s.e, s.f, s.g⟩
def rds (K V : Nat → Int) : Nat → St → St
  | 0, s => s
  | n + 1, s => rstep (K n) (V n) (rds K V n s)
def St.add (s t : St) : St := ⟨(s.a + t.a) % 4294967296, (s.b + t.b) % 4294967296, (s.c + t.c) % 4294967296, (s.d + t.d) % 4294967296, (s.e + t.e) % 4294967296, (s.f + t.f) % 4294967296, (s.g + t.g) % 4294967296, (s.h + t.h) % 4294967296⟩
def kl : List Int := [1116352408, 1899447441, 3049323471, 3921009573, 961987163, 1508970993, 2453635748, 2870763221, 3624381080, 310598401, 607225278, 1426881987, 1925078388, 2162078206, 2614888103, 3248222580, 3835390401, 4022224774, 264347078, 604807628, 770255983, 1249150122, 1555081692, 1996064986, 2554220882, 2821834349, 2952996808, 3210313671, 3336571891, 3584528711, 113926993, 338241895, 666307205, 773529912, 1294757372, 1396182291, 1695183700, 1986661051, 2177026350, 2456956037, 2730485921, 2820302411, 3259730800, 3345764771, 3516065817, 3600352804, 4094571909, 275423344, 430227734, 506948616, 659060556, 883997877, 958139571, 1322822218, 1537002063, 1747873779, 1955562222, 2024104815, 2227730452, 2361852424, 2428436474, 2756734187, 3204031479, 3329325298]
def K (i : Nat) : Int := kl.getD i 0
def block (B : Nat → Int) (s : St) : St := s.add (rds K (W B) 64 s)
def St.ok (s : St) : Prop := ∀ i, 0 ≤ s.at i ∧ s.at i < 4294967296
theorem St.ok_mk (a b c d e f g h : Int) (ha : 0 ≤ a ∧ a < 4294967296) (hb : 0 ≤ b ∧ b < 4294967296) (hc : 0 ≤ c ∧ c < 4294967296) (hd : 0 ≤ d ∧ d < 4294967296)
    (he : 0 ≤ e ∧ e < 4294967296) (hf : 0 ≤ f ∧ f < 4294967296) (hg : 0 ≤ g ∧ g < 4294967296) (hh : 0 ≤ h ∧ h < 4294967296) : (St.mk a b c d e f g h).ok := by
  intro i
  match i with
  | 0 => exact ha
  | 1 => exact hb
  | 2 => exact hc
  | 3 => exact hd
  | 4 => exact he
  | 5 => exact hf
  | 6 => exact hg
  | n + 7 => exact hh
theorem rstep_ok (k w : Int) (s : St) (h : s.ok) : (rstep k w s).ok :=
  St.ok_mk _ _ _ _ _ _ _ _ (by omega) (h 0) (h 1) (h 2) (by omega) (h 4) (h 5) (h 6)
theorem rds_ok (V : Nat → Int) (s : St) (h : s.ok) : ∀ n, (rds K V n s).ok
  | 0 => h
  | n + 1 => rstep_ok _ _ _ (rds_ok V s h n)
theorem add_ok (s t : St) : (s.add t).ok := St.ok_mk _ _ _ _ _ _ _ _ (by omega) (by omega) (by omega) (by omega) (by omega) (by omega) (by omega) (by omega)

/-! ### A message -/
def init : St := ⟨1779033703, 3144134277, 1013904242, 2773480762, 1359893119, 2600822924, 528734635, 1541459225⟩
theorem init_ok : init.ok := St.ok_mk _ _ _ _ _ _ _ _ (by decide) (by decide) (by decide) (by decide) (by decide) (by decide) (by decide) (by decide)
def blk (m : List UInt8) (k : Nat) (j : Nat) : Int := ((m.getD (64 * k + j) 0).toNat : Int)
/-- the state behind the first k whole blocks -/
def st (m : List UInt8) : Nat → St
  | 0 => init
  | k + 1 => block (blk m k) (st m k)
theorem st_ok (m : List UInt8) : ∀ k, (st m k).ok
  | 0 => init_ok
  | _ + 1 => add_ok _ _
theorem sch_congr (B C : Nat → Int) (h : ∀ j, j < 64 → B j = C j) : ∀ n, n ≤ 64 → sch B n = sch C n
  | 0, _ => rfl
  | n + 1, hn => by
    rw [sch, sch, sch_congr B C h n (by omega)]
    by_cases h' : n < 16
    · rw [if_pos h', if_pos h', h _ (by omega), h _ (by omega), h _ (by omega), h _ (by omega)]
    · rw [if_neg h', if_neg h']
theorem block_congr (B C : Nat → Int) (h : ∀ j, j < 64 → B j = C j) (s : St) : block B s = block C s := by
  have : W B = W C := by funext i; unfold W; rw [sch_congr B C h 64 (Nat.le_refl _)]
  unfold block; rw [this]
theorem blk_append (m l : List UInt8) (k j : Nat) (h : 64 * k + j < m.length) : blk (m ++ l) k j = blk m k j := by
  unfold blk; simp only [List.getD_eq_getElem?_getD]; rw [List.getElem?_append_left h]
theorem st_append (m l : List UInt8) : ∀ k, 64 * k ≤ m.length → st (m ++ l) k = st m k
  | 0, _ => rfl
  | k + 1, h => by
    rw [st, st, st_append m l k (by omega)]
    exact block_congr _ _ (fun j hj => blk_append m l k j (by omega)) _

/-! ### The padding and the sum -/
def zeros (n : Nat) : Nat := (119 - n % 64) % 64
def u64be (n : Nat) : List UInt8 := (List.range 8).map fun i => UInt8.ofNat (n / 2 ^ (56 - 8 * i))
def pad (m : List UInt8) : List UInt8 := m ++ [128] ++ List.replicate (zeros m.length) 0 ++ u64be (m.length * 8)
def fin (m : List UInt8) : St := st (pad m) ((pad m).length / 64)
def digest (m : List UInt8) : List UInt8 := (List.range 32).map fun i => UInt8.ofNat (((fin m).at (i / 4) / 2 ^ (24 - 8 * (i % 4))).toNat)
end Go.Proofs.YteafnknghnhlgaaDoor.Sha
