/-
  Contracts and plain facts, one behind the other: Wire Read Num Rvar Ref1 Ref2 Ref3 Refl PutsB.
-/
import Derived.Test.YtjihgcdhheoniaaDoorChecked
import Derived.Test.YtjihgcdhheoniaaDoorBase
import Derived.Laws.IdiomStrings
import Derived.Lib.BufferRead
import Derived.Deep.QuietTactic
import Derived.BigQuiet
/-
  Contracts of package wire: what is laid.
-/
namespace Go.Proofs.YtjihgcdhheoniaaDoor
open Go.RowKit
set_option linter.unusedVariables false
set_option linter.unusedSimpArgs false
set_option maxRecDepth 100000

theorem info_u8 : (Tryd.prog.info? 5).map (fun i => (i.zero, i.size, i.bytes)) = some (some (.int .u8 0), 1, 1) := by kernel_rfl

/-- What a call that lays bytes answers: new memory, that holds just these. -/
def Lays (w : World) (l : List UInt8) (e : Ending) (w' : World) : Prop :=
  ∃ g cap, e = .returned (.slice (some ⟨g, 0, none⟩) l.length cap) ∧ w.heap.size ≤ g ∧ w'.ownsRow w.heap.size 5 1 (.slice (some ⟨g, 0, none⟩) l.length cap) l.length (B8 l) ∧ Kept No w w'
theorem lays_not {w w' : World} {v : Value} {l : List UInt8} {n : Nat} {xs : List Value} (h : w'.ownsRow w.heap.size 5 1 v n xs) (hn : n = l.length) (hx : xs = B8 l) (h0 : v ≠ .slice none 0 0) (hk : Kept No w w') : Lays w l (.returned v) w' := by
  subst hn hx
  rcases h.2 with ⟨hv, _⟩ | ⟨g, cap, cur, hv, hg, _⟩
  · exact absurd hv h0
  · subst hv; exact ⟨g, cap, rfl, hg, h, hk⟩
theorem lays_of {w w' : World} {v : Value} {l : List UInt8} {n : Nat} {xs : List Value} (h : w'.ownsRow w.heap.size 5 1 v n xs) (hn : n = l.length) (hx : xs = B8 l) (h0 : 0 < l.length) (hk : Kept No w w') : Lays w l (.returned v) w' := by
  subst hn hx
  obtain ⟨g, cap, hv, hg, _⟩ := h.form h0
  subst hv
  exact ⟨g, cap, rfl, hg, h, hk⟩

theorem varsize_any (n : Int) (w : World) (h0 : 0 ≤ n) (h1 : n < 4294967296) :
    Calls Tryd.prog 61 #[.int .u32 n] w fun e w' =>
      e = .returned (.int .i64 (if n < 128 then 1 else if n < 16384 then 2 else if n < 2097152 then 3 else if n < 268435456 then 4 else 0)) ∧ w = w' := by
  rcases (show n < 128 ∨ (128 ≤ n ∧ n < 16384) ∨ (16384 ≤ n ∧ n < 2097152) ∨ (2097152 ≤ n ∧ n < 268435456) ∨ 268435456 ≤ n from by omega) with h | ⟨h, h'⟩ | ⟨h, h'⟩ | ⟨h, h'⟩ | h
  all_goals
    go_enter Tryd.func61, Tryd.ntmps61
    go_wp2
    refine wp_loop_rounds 5 ?_
    repeat (rw [rounds_succ]; go_wp2)
    go_ret
    refine ⟨?_, rfl⟩
    congr 2
    repeat (first | rw [if_pos (by omega)] | rw [if_neg (by omega)])

/-- A number's digits of base 128, the lowest first. -/
def var7 (n : Nat) : List UInt8 := if n < 128 then [byteOf n] else byteOf ((n : Int) % 128 + 128) :: var7 (n / 128)
termination_by n
decreasing_by omega
theorem var7_lt {n : Nat} (h : n < 128) : var7 n = [byteOf n] := by rw [var7, if_pos h]
theorem var7_ge {n : Nat} (h : ¬ n < 128) : var7 n = byteOf ((n : Int) % 128 + 128) :: var7 (n / 128) := by rw [var7, if_neg h]

end Go.Proofs.YtjihgcdhheoniaaDoor

/-
  Contracts of package wire: a Reader.
-/
namespace Go.Proofs.YtjihgcdhheoniaaDoor
open Go.RowKit
set_option linter.unusedVariables false
set_option linter.unusedSimpArgs false
set_option maxRecDepth 100000

/-- 'string(b)' of bytes that lie in a row. -/
theorem row_str {P : Program} {w : World} (src dst e : TypeId) (hs : P.underlying src = some (.slice e)) (he : P.underlying e = some (.int .u8)) (hd : P.underlying dst = some .string)
    {a : Option Addr} {l : List UInt8} (h : Row w a (B8 l)) (cap : Nat) (hn : a = none → cap = 0) : (convert src dst (.slice a l.length cap)).run P w = .ok (.string ⟨l.toArray⟩) w := by
  cases a with
  | none =>
    obtain rfl := hn rfl
    rcases h with h | ⟨b, off, h, _⟩
    · obtain rfl : l = [] := by cases l <;> simp_all [B8]
      exact Lib.run_convert_nil_bytes w src dst e 0 hs he hd
    · cases h
  | some ad => exact run_convert_bytes_back w src dst e ad cap l hs he hd fun j hj => h.at_add ad rfl j _ (B8_get l j hj)

/-- The bytes lie in a block of bytes. -/
def Typ (w : World) (a : Option Addr) (l : List UInt8) : Prop := ∀ b off, a = some ⟨b, off, none⟩ → l ≠ [] → ∃ cs fz, w.heap[b]? = some (.cells cs 5 fz)
theorem Typ.nil (w : World) (a : Option Addr) : Typ w a [] := fun _ _ _ h => absurd rfl h
theorem Typ.kept {w w' : World} {S : Nat → Prop} {a : Option Addr} {l : List UInt8} (h : Typ w a l) (hk : Kept S w w') (hS : ∀ b off, a = some ⟨b, off, none⟩ → l ≠ [] → ¬ S b) : Typ w' a l := by
  intro b off ha hl
  obtain ⟨cs, fz, hb⟩ := h b off ha hl
  exact ⟨cs, fz, (hk.block b (Array.getElem?_eq_some_iff.1 hb).1 (hS b off ha hl)).trans hb⟩
theorem blk_row_ne {w : World} {r b off : Nat} {t : TypeId} {x y : Value} {l : List UInt8} (hb : Blk w r t #[x, y]) (hx : ∀ n, x ≠ .int .u8 n) (hy : ∀ n, y ≠ .int .u8 n) (h : Row w (some ⟨b, off, none⟩) (B8 l)) (hl : B8 l ≠ []) : b ≠ r := by
  rintro rfl
  rcases h with h | ⟨b', off', h, _, hc⟩
  · exact hl h
  · injection h with h
    injection h with h1 h2
    subst h1 h2
    cases l with
    | nil => exact hl rfl
    | cons u l =>
      have := hc 0 _ rfl
      rw [hb.cell] at this
      match off, this with
      | 0, this => exact hx _ (by simpa using this)
      | 1, this => exact hy _ (by simpa using this)
      | k + 2, this => simp at this
theorem row_one {w w' : World} {r : Nat} {a : Option Addr} {t : TypeId} {x y : Value} {l : List UInt8} (hb : Blk w r t #[x, y]) (hx : ∀ n, x ≠ .int .u8 n) (hy : ∀ n, y ≠ .int .u8 n) (h : Row w a (B8 l)) (hk : Kept (One r) w w') : Row w' a (B8 l) :=
  h.kept hk fun b off ha hne he => blk_row_ne hb hx hy (ha ▸ h) hne he
/-- No byte lies in block b. -/
def NoByte (w : World) (b : Nat) : Prop := ∀ off n, w.cell? ⟨b, off, none⟩ ≠ some (.int .u8 n)
theorem NoByte.two {w : World} {b : Nat} {t : TypeId} {x y : Value} (hb : Blk w b t #[x, y]) (hx : ∀ n, x ≠ .int .u8 n) (hy : ∀ n, y ≠ .int .u8 n) : NoByte w b := by
  intro off n h
  rw [hb.cell] at h
  match off, h with
  | 0, h => exact hx _ (by simpa using h)
  | 1, h => exact hy _ (by simpa using h)
  | k + 2, h => simp at h
theorem NoByte.three {w : World} {b : Nat} {t : TypeId} {x y z : Value} (hb : Blk w b t #[x, y, z]) (hx : ∀ n, x ≠ .int .u8 n) (hy : ∀ n, y ≠ .int .u8 n) (hz : ∀ n, z ≠ .int .u8 n) : NoByte w b := by
  intro off n h
  rw [hb.cell] at h
  match off, h with
  | 0, h => exact hx _ (by simpa using h)
  | 1, h => exact hy _ (by simpa using h)
  | 2, h => exact hz _ (by simpa using h)
  | k + 3, h => simp at h
theorem row_nobyte {w w' : World} {S : Nat → Prop} {a : Option Addr} {l : List UInt8} (h : Row w a (B8 l)) (hk : Kept S w w') (hs : ∀ b, S b → b < w.heap.size → NoByte w b) : Row w' a (B8 l) := by
  refine h.kept hk fun b off ha hne hS => ?_
  rcases h with h | ⟨b', off', he, hlt, hc⟩
  · exact hne h
  · rw [ha] at he
    injection he with he
    injection he with e1 e2
    subst e1 e2
    cases l with
    | nil => exact hne rfl
    | cons u l => exact hs b hS hlt off _ (hc 0 _ rfl)
theorem row_notS {w : World} {S : Nat → Prop} {a : Option Addr} {l : List UInt8} (h : Row w a (B8 l)) (hs : ∀ b, S b → b < w.heap.size → NoByte w b) : ∀ b off, a = some ⟨b, off, none⟩ → l ≠ [] → ¬ S b := by
  intro b off ha hl hS
  rcases h with h | ⟨b', off', he, hlt, hc⟩
  · cases l with
    | nil => exact hl rfl
    | cons u l => simp [B8] at h
  · rw [ha] at he
    injection he with he
    injection he with e1 e2
    subst e1 e2
    cases l with
    | nil => exact hl rfl
    | cons u l => exact hs b hS hlt off _ (hc 0 _ rfl)
theorem row_none {w : World} {a : Option Addr} {l : List UInt8} {c : Nat} (h : Row w a (B8 l)) (hc : a = none → c = 0) : a = none → l.length = 0 ∧ c = 0 := by
  intro ha
  rcases h with h | ⟨b, off, h, _⟩
  · exact ⟨by cases l <;> simp_all [B8], hc ha⟩
  · rw [ha] at h; cases h

end Go.Proofs.YtjihgcdhheoniaaDoor

/-
  Contracts of package wire: what a Reader takes.
-/
namespace Go.Proofs.YtjihgcdhheoniaaDoor
open Go.RowKit
set_option linter.unusedVariables false
set_option linter.unusedSimpArgs false
set_option maxRecDepth 100000

/-- What is taken when n bytes are asked for, and the state behind it. -/
def taken (n : Int) (l : List UInt8) (err : Int) : List UInt8 := if err = 0 ∧ 0 ≤ n ∧ n ≤ l.length then l.take n.toNat else []
def leftL (n : Int) (l : List UInt8) (err : Int) : List UInt8 := if err = 0 then (if 0 ≤ n ∧ n ≤ l.length then l.drop n.toNat else []) else l
def leftE (n : Int) (l : List UInt8) (err : Int) : Int := if err = 0 then (if 0 ≤ n ∧ n ≤ l.length then 0 else 2) else err

theorem taken_le (n : Int) (l : List UInt8) (err : Int) : (taken n l err).length ≤ n.toNat := by unfold taken; split <;> simp; omega

/-- A number's value, the highest byte first. -/
def num (l : List UInt8) : Nat := l.foldl (fun n c => n * 256 + c.toNat) 0
theorem num_snoc (l : List UInt8) (c : UInt8) : num (l ++ [c]) = num l * 256 + c.toNat := by simp [num]
theorem num_lt (l : List UInt8) : num l < 256 ^ l.length := by
  have key : ∀ (m : Nat) (l : List UInt8), l.length = m → num l < 256 ^ l.length := by
    intro m
    induction m with
    | zero => intro l h; have : l = [] := List.eq_nil_of_length_eq_zero h; subst this; decide
    | succ m ih =>
      intro l h
      have hne : l ≠ [] := by rintro rfl; simp at h
      have e : l.dropLast ++ [l.getLast hne] = l := List.dropLast_concat_getLast hne
      rw [← e, num_snoc]
      have h1 := ih l.dropLast (by simp [h])
      have h2 := byte_lt (l.getLast hne)
      simp only [List.length_append, List.length_singleton, Nat.pow_succ]
      omega
  exact key _ l rfl
theorem num_take_succ (l : List UInt8) (k : Nat) (h : k < l.length) : num (l.take (k + 1)) = num (l.take k) * 256 + l[k].toNat := by
  rw [List.take_succ_eq_append_getElem h, num_snoc]

theorem num_le (n : Int) (l : List UInt8) (err : Int) (k : Nat) (hk : n.toNat ≤ k) : num (taken n l err) < 256 ^ k := by
  have h1 := num_lt (taken n l err)
  have h2 := taken_le n l err
  have h3 : 256 ^ (taken n l err).length ≤ 256 ^ k := Nat.pow_le_pow_right (by decide) (by omega)
  omega

def binTaken (l : List UInt8) (err : Int) : List UInt8 := taken (num (taken 2 l err)) (leftL 2 l err) (leftE 2 l err)
def binL (l : List UInt8) (err : Int) : List UInt8 := leftL (num (taken 2 l err)) (leftL 2 l err) (leftE 2 l err)
def binE (l : List UInt8) (err : Int) : Int := leftE (num (taken 2 l err)) (leftL 2 l err) (leftE 2 l err)

theorem typ_own {w : World} {base n c : Nat} {g : Nat} {xs : List Value} {l : List UInt8} (h : w.ownsRow base 5 1 (.slice (some ⟨g, 0, none⟩) n c) n xs) : Typ w (some ⟨g, 0, none⟩) l := by
  intro b off he _
  injection he with he
  injection he with e1 e2
  subst e1
  rcases h.2 with ⟨hv, _⟩ | ⟨g', cap, cur, hv, _, hg, _⟩
  · cases hv
  · injection hv with e1
    injection e1 with e1
    injection e1 with e1
    subst e1
    exact ⟨cur, (0, 0), hg⟩
end Go.Proofs.YtjihgcdhheoniaaDoor

/-
  Contracts of package wire: a Reader's Var; a Reader that isn't there.
-/
namespace Go.Proofs.YtjihgcdhheoniaaDoor
open Go.RowKit
set_option linter.unusedVariables false
set_option linter.unusedSimpArgs false
set_option maxRecDepth 100000

theorem ret_int {k : IntKind} {a b : Int} (h : a = b) : Ending.returned (.int k a) = .returned (.int k b) := by rw [h]

/-- What is told of a Var behind i digits whose sum is n; and the state behind it. -/
def rv : Nat → Nat → Nat → List UInt8 → Int → Nat × List UInt8 × Int
  | 0, _, _, _, _ => (0, [], 3)
  | f + 1, i, n, l, err =>
    if leftE 1 l err ≠ 0 then (0, leftL 1 l err, leftE 1 l err)
    else if 128 ≤ num (taken 1 l err) then rv f (i + 1) (n + num (taken 1 l err) % 128 * 128 ^ i) (leftL 1 l err) (leftE 1 l err)
    else if num (taken 1 l err) = 0 ∧ 0 < i then (0, [], 3)
    else (n + num (taken 1 l err) % 128 * 128 ^ i, leftL 1 l err, leftE 1 l err)

theorem rv_stop {f i n : Nat} {l : List UInt8} {err : Int} (h : leftE 1 l err ≠ 0) : rv (f + 1) i n l err = (0, leftL 1 l err, leftE 1 l err) := by rw [rv, if_pos h]
theorem rv_more {f i n : Nat} {l : List UInt8} {err : Int} (h : leftE 1 l err = 0) (h1 : 128 ≤ num (taken 1 l err)) : rv (f + 1) i n l err = rv f (i + 1) (n + num (taken 1 l err) % 128 * 128 ^ i) (leftL 1 l err) (leftE 1 l err) := by
  rw [rv, if_neg (by simpa using h), if_pos h1]
theorem rv_zero {f i n : Nat} {l : List UInt8} {err : Int} (h : leftE 1 l err = 0) (h1 : num (taken 1 l err) = 0) (hi : 0 < i) : rv (f + 1) i n l err = (0, [], 3) := by
  rw [rv, if_neg (by simpa using h), if_neg (by omega), if_pos ⟨h1, hi⟩]
theorem rv_done {f i n : Nat} {l : List UInt8} {err : Int} (h : leftE 1 l err = 0) (h1 : num (taken 1 l err) < 128) (hi : ¬ (num (taken 1 l err) = 0 ∧ 0 < i)) : rv (f + 1) i n l err = (n + num (taken 1 l err) % 128 * 128 ^ i, leftL 1 l err, leftE 1 l err) := by
  rw [rv, if_neg (by simpa using h), if_neg (by omega), if_neg hi]

theorem str_nil (w : World) : (convert 25 9 (.slice none 0 0)).run Tryd.prog w = .ok (.string ⟨#[]⟩) w := Lib.run_convert_nil_bytes w _ _ 5 0 Tryd.underlying25 Tryd.underlying5 Tryd.underlying9
end Go.Proofs.YtjihgcdhheoniaaDoor

/-
  Contracts of the document's own Reader (pouchref01).
-/
namespace Go.Proofs.YtjihgcdhheoniaaDoor
open Go.RowKit
set_option linter.unusedVariables false
set_option linter.unusedSimpArgs false
set_option maxRecDepth 100000

theorem size_list (B : ByteArray) : B.data.toList.length = B.size := by rw [Array.length_toList]; rfl

theorem extract_list (B : ByteArray) (a n : Nat) : B.extract a (a + n) = ⟨((B.data.toList.drop a).take n).toArray⟩ := by
  rw [Lib.extract_eq, show a + n - a = n from by omega]

def okT (n : Int) (l : List UInt8) (err : Int) : Bool := decide (err = 0 ∧ 0 ≤ n ∧ n ≤ l.length)
end Go.Proofs.YtjihgcdhheoniaaDoor

/-
  Contracts of the document's own Reader (pouchref01): Bin, Rest, Sub, Var.
-/
namespace Go.Proofs.YtjihgcdhheoniaaDoor
open Go.RowKit
set_option linter.unusedVariables false
set_option linter.unusedSimpArgs false
set_option maxRecDepth 100000

theorem one_nil : taken 1 [] 0 = [] ∧ leftL 1 [] 0 = [] ∧ leftE 1 [] 0 = 2 := by decide
theorem one_cons (c : UInt8) (t : List UInt8) : taken 1 (c :: t) 0 = [c] ∧ leftL 1 (c :: t) 0 = t ∧ leftE 1 (c :: t) 0 = 0 := by
  have h : (1 : Int) ≤ ((c :: t).length : Nat) := by simp; omega
  refine ⟨?_, ?_, ?_⟩
  · unfold taken; rw [if_pos ⟨rfl, by omega, h⟩]; rfl
  · unfold leftL; rw [if_pos rfl, if_pos ⟨by omega, h⟩]; rfl
  · unfold leftE; rw [if_pos rfl, if_pos ⟨by omega, h⟩]
theorem num_one (c : UInt8) : num [c] = c.toNat := by simp [num]
theorem rv_nil (f i n : Nat) : rv (f + 1) i n [] 0 = (0, [], 2) := by rw [rv_stop (by rw [one_nil.2.2]; decide), one_nil.2.1, one_nil.2.2]
theorem rv_err (f i n : Nat) (err : Int) (h : err ≠ 0) : rv (f + 1) i n [] err = (0, [], err) := by
  have e1 : leftE 1 [] err = err := by simp [leftE, h]
  have e2 : leftL 1 [] err = [] := by simp [leftL, h]
  rw [rv_stop (by rw [e1]; exact h), e1, e2]
theorem rv_cons_more (f i n : Nat) (c : UInt8) (t : List UInt8) (h : 128 ≤ c.toNat) : rv (f + 1) i n (c :: t) 0 = rv f (i + 1) (n + c.toNat % 128 * 128 ^ i) t 0 := by
  rw [rv_more (one_cons c t).2.2 (by rw [(one_cons c t).1, num_one]; exact h), (one_cons c t).1, num_one, (one_cons c t).2.1, (one_cons c t).2.2]
theorem rv_cons_zero (f i n : Nat) (c : UInt8) (t : List UInt8) (h : c.toNat = 0) (hi : 0 < i) : rv (f + 1) i n (c :: t) 0 = (0, [], 3) :=
  rv_zero (one_cons c t).2.2 (by rw [(one_cons c t).1, num_one]; exact h) hi
theorem rv_cons_done (f i n : Nat) (c : UInt8) (t : List UInt8) (h : c.toNat < 128) (hi : ¬ (c.toNat = 0 ∧ 0 < i)) : rv (f + 1) i n (c :: t) 0 = (n + c.toNat % 128 * 128 ^ i, t, 0) := by
  rw [rv_done (one_cons c t).2.2 (by rw [(one_cons c t).1, num_one]; exact h) (by rw [(one_cons c t).1, num_one]; exact hi), (one_cons c t).1, num_one, (one_cons c t).2.1, (one_cons c t).2.2]

end Go.Proofs.YtjihgcdhheoniaaDoor

/-
  Contract of the document's own Reader's Var, where nothing was wrong.
-/
namespace Go.Proofs.YtjihgcdhheoniaaDoor
open Go.RowKit
set_option linter.unusedVariables false
set_option linter.unusedSimpArgs false

end Go.Proofs.YtjihgcdhheoniaaDoor

/-
  Contracts of the document's own calls that lay bytes (pouchref01).
-/
namespace Go.Proofs.YtjihgcdhheoniaaDoor
open Go.RowKit
set_option linter.unusedVariables false
set_option linter.unusedSimpArgs false

end Go.Proofs.YtjihgcdhheoniaaDoor

/-
  What both sides lay, and what a Var is: for seats without stage 1's laws.
-/
namespace Go.Proofs.YtjihgcdhheoniaaDoor
open Go.RowKit
set_option linter.unusedVariables false
set_option linter.unusedSimpArgs false
set_option maxRecDepth 100000

/-- What is told of a Var is laid by just the bytes that it was taken from. -/
theorem rv_var7 : ∀ (f i n : Nat) (l : List UInt8) (x : Nat) (l' : List UInt8), rv f i n l 0 = (x, l', 0) → ∃ y, x = n + y * 128 ^ i ∧ l = var7 y ++ l' ∧ (0 < i → 0 < y) := by
  intro f
  induction f with
  | zero => intro i n l x l' h; simp [rv] at h
  | succ f ih =>
    intro i n l x l' h
    cases l with
    | nil => rw [rv_nil] at h; simp at h
    | cons c t =>
      by_cases hc : 128 ≤ c.toNat
      · rw [rv_cons_more _ _ _ _ _ hc] at h
        obtain ⟨y, hx, ht, hy⟩ := ih _ _ _ _ _ h
        have hy0 : 0 < y := hy (by omega)
        refine ⟨c.toNat % 128 + 128 * y, ?_, ?_, fun _ => by omega⟩
        · rw [hx, Nat.pow_succ, Nat.add_mul, Nat.mul_comm (128 ^ i) 128, ← Nat.mul_assoc, Nat.mul_comm y 128]; omega
        · rw [var7_ge (by omega), ht]
          have e1 : (c.toNat % 128 + 128 * y) / 128 = y := by omega
          have hlt := byte_lt c
          have e2 : byteOf (((c.toNat % 128 + 128 * y : Nat) : Int) % 128 + 128) = c := by
            unfold byteOf
            have : (((c.toNat % 128 + 128 * y : Nat) : Int) % 128 + 128).toNat = c.toNat := by omega
            rw [this]; simp
          rw [e1, e2]; rfl
      · by_cases hz : c.toNat = 0 ∧ 0 < i
        · rw [rv_cons_zero _ _ _ _ _ hz.1 hz.2] at h; simp at h
        · rw [rv_cons_done _ _ _ _ _ (by omega) hz] at h
          simp only [Prod.mk.injEq] at h
          obtain ⟨hx, ht, _⟩ := h
          have e : c.toNat % 128 = c.toNat := by omega
          rw [e] at hx
          refine ⟨c.toNat, hx.symm, ?_, fun hi => by omega⟩
          rw [var7_lt (by omega), ← ht]
          simp [byteOf]
theorem rv_lt : ∀ (f i n : Nat) (l : List UInt8) (err : Int), n < 128 ^ i → (rv f i n l err).1 < 128 ^ (i + f) := by
  intro f
  induction f with
  | zero => intro i n l err h; simp [rv]; exact Nat.pow_pos (by omega)
  | succ f ih =>
    intro i n l err h
    have hm : num (taken 1 l err) % 128 < 128 := Nat.mod_lt _ (by omega)
    have hb : n + num (taken 1 l err) % 128 * 128 ^ i < 128 ^ (i + 1) := by
      rw [Nat.pow_succ]
      have := Nat.mul_le_mul_right (128 ^ i) (show num (taken 1 l err) % 128 ≤ 127 from by omega)
      omega
    have hp : 128 ^ (i + 1) ≤ 128 ^ (i + (f + 1)) := Nat.pow_le_pow_right (by omega) (by omega)
    have hpos : 0 < 128 ^ (i + (f + 1)) := Nat.pow_pos (by omega)
    rw [rv]
    split
    · exact hpos
    · split
      · have := ih (i + 1) _ (leftL 1 l err) (leftE 1 l err) hb
        rwa [show i + 1 + f = i + (f + 1) from by omega] at this
      · split
        · exact hpos
        · exact Nat.lt_of_lt_of_le hb hp

theorem var7_len (n : Nat) (h : n ≤ 268435455) : (if (n : Int) < 128 then 1 else if (n : Int) < 16384 then 2 else if (n : Int) < 2097152 then 3 else if (n : Int) < 268435456 then 4 else 0) = ((var7 n).length : Int) := by
  rcases (show n < 128 ∨ (128 ≤ n ∧ n < 16384) ∨ (16384 ≤ n ∧ n < 2097152) ∨ (2097152 ≤ n ∧ n < 268435456) from by omega) with h | ⟨h, h'⟩ | ⟨h, h'⟩ | ⟨h, h'⟩
  · rw [if_pos (by omega), var7_lt h]; rfl
  · rw [if_neg (by omega), if_pos (by omega), var7_ge (by omega), var7_lt (by omega)]; rfl
  · rw [if_neg (by omega), if_neg (by omega), if_pos (by omega), var7_ge (by omega), var7_ge (by omega), var7_lt (by omega)]; rfl
  · rw [if_neg (by omega), if_neg (by omega), if_neg (by omega), if_pos (by omega), var7_ge (by omega), var7_ge (by omega), var7_ge (by omega), var7_lt (by omega)]; rfl
/-- The document's Var of n and the program's, and its size: of n within the bounds n's digits, else none. -/
def varL (n : Nat) : List UInt8 := if n ≤ 268435455 then var7 n else []
theorem varL_size (n : Nat) (h : n < 4294967296) (w : World) : Calls Tryd.prog 61 #[.int .u32 n] w fun e w' => e = .returned (.int .i64 (varL n).length) ∧ w = w' := by
  have h2 := varsize_any n w (by omega) (by omega)
  unfold varL
  by_cases h1 : n ≤ 268435455
  · rw [var7_len n h1] at h2; rw [if_pos h1]; exact h2
  · rw [if_neg h1]
    have e : (if (n : Int) < 128 then 1 else if (n : Int) < 16384 then 2 else if (n : Int) < 2097152 then 3 else if (n : Int) < 268435456 then 4 else 0) = (0 : Int) := by
      repeat rw [if_neg (by omega)]
    rw [e] at h2; exact h2

theorem varL_size0 (n : Nat) (h0 : ¬ n ≤ 268435455) (h : n < 4294967296) (w : World) : Calls Tryd.prog 61 #[.int .u32 n] w fun e w' => e = .returned (.int .i64 0) ∧ w = w' := by
  have h2 := varL_size n h w
  rw [varL, if_neg h0] at h2
  exact h2
theorem keepS {w5 w w' : World} {rb o : Nat} {v : Value} (h2 : Kept No w w') (hlt : rb < w5.heap.size) (h : w.cell? ⟨rb, o, none⟩ = some v ∧ Kept No w5 w) : w'.cell? ⟨rb, o, none⟩ = some v ∧ Kept No w5 w' :=
  ⟨(h2.cell (p := ⟨rb, o, none⟩) (Nat.lt_of_lt_of_le hlt h.2.size) (fun f => f)).trans h.1, h.2.trans h2⟩
theorem str_at {w : World} {a : Option Addr} {l : List UInt8} {m : Nat} (hm : Hid (l.length = m)) (h : Row w a (B8 l)) (cap : Nat) (hn : a = none → cap = 0) :
    (convert 25 9 (.slice a m cap)).run Tryd.prog w = .ok (.string ⟨l.toArray⟩) w := by
  have h1 := hm.out
  subst h1
  exact row_str _ _ _ Tryd.underlying25 Tryd.underlying5 Tryd.underlying9 h cap hn

/-- A number's bytes, the highest first. -/
def be : Nat → Nat → List UInt8
  | 0, _ => []
  | k + 1, n => byteOf (((n / 256 ^ k : Nat) : Int) % 256) :: be k n
theorem be_len : ∀ k n, (be k n).length = k
  | 0, _ => rfl
  | k + 1, n => by simp [be, be_len k n]
theorem be_succ (k n m : Nat) (h : m = n / 256 ^ k) : be (k + 1) n = byteOf ((m : Int) % 256) :: be k n := by subst h; rfl
theorem div_succ (n j m : Nat) (h : m = n / 256 ^ j) : m / 256 = n / 256 ^ (j + 1) := by
  subst h; rw [Nat.pow_succ, ← Nat.div_div_eq_div_mul]
theorem u64_quo (m : Nat) : Value.int .u64 ((m : Int) / 256) = .int .u64 ((m / 256 : Nat) : Int) := by
  congr 1

def addByte (l : List UInt8) (x : Nat) : List UInt8 := l ++ [byteOf ((x : Int) % 256)]
def addTwo (l : List UInt8) (x : Nat) : List UInt8 := l ++ [byteOf ((x : Int) % 65536 / 256), byteOf ((x : Int) % 65536 % 256)]
def addFour (l : List UInt8) (x : Nat) : List UInt8 := l ++ [byteOf ((x : Int) / 16777216), byteOf ((x : Int) / 65536 % 256), byteOf ((x : Int) / 256 % 256), byteOf ((x : Int) % 256)]
def addVar (l : List UInt8) (x : Nat) : List UInt8 := l ++ varL x
def addBin (l : List UInt8) (s : ByteArray) : List UInt8 := l ++ (byteOf ((s.size : Int) / 256) :: byteOf ((s.size : Int) % 256) :: s.data.toList)
theorem be_one (x : Nat) : be (0 + 1) (x % 256) = [byteOf ((x : Int) % 256)] := by
  simp only [be, Nat.pow_zero, Nat.div_one]
  congr 2; omega
theorem be_two (x : Nat) : be (1 + 1) (x % 65536) = [byteOf ((x : Int) % 65536 / 256), byteOf ((x : Int) % 65536 % 256)] := by
  simp only [be, Nat.pow_zero, Nat.div_one, Nat.pow_one]
  congr 2
  · omega
theorem be_four (x : Nat) (h : x ≤ 4294967295) : be (3 + 1) x = [byteOf ((x : Int) / 16777216), byteOf ((x : Int) / 65536 % 256), byteOf ((x : Int) / 256 % 256), byteOf ((x : Int) % 256)] := by
  simp only [be, Nat.pow_zero, Nat.div_one, Nat.pow_one]
  have e2 : (256 : Nat) ^ 2 = 65536 := by decide
  have e3 : (256 : Nat) ^ 3 = 16777216 := by decide
  rw [e2, e3, show (((x / 16777216 : Nat) : Int) % 256) = (x : Int) / 16777216 by omega, show (((x / 65536 : Nat) : Int) % 256) = (x : Int) / 65536 % 256 by omega, show (((x / 256 : Nat) : Int) % 256) = (x : Int) / 256 % 256 by omega]
theorem be_bin (x : Nat) (h : x ≤ 65535) : be (1 + 1) x = [byteOf ((x : Int) / 256), byteOf ((x : Int) % 256)] := by
  simp only [be, Nat.pow_zero, Nat.div_one, Nat.pow_one]
  rw [show (((x / 256 : Nat) : Int) % 256) = (x : Int) / 256 by omega]
theorem u64_mod (x m : Nat) : Value.int .u64 ((x : Int) % (m : Int)) = .int .u64 ((x % m : Nat) : Int) := by congr 1
theorem addTwo_eq (l : List UInt8) (n : Nat) (h : n ≤ 65535) : (l ++ be (1 + 1) n) = l ++ [byteOf ((n : Int) / 256), byteOf ((n : Int) % 256)] := by rw [be_bin n h]

end Go.Proofs.YtjihgcdhheoniaaDoor
