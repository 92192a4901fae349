/-
  Contracts of package wire: a Reader.
-/
import Derived.Test.YtfhcmmmgnkinoaaDoorWire
import Derived.Laws.IdiomStrings
import Derived.Lib.BufferRead
namespace Go.Proofs.YtfhcmmmgnkinoaaDoor
open Go.RowKit
set_option linter.unusedVariables false
set_option linter.unusedSimpArgs false
set_option maxRecDepth 100000

/-- 'string(b)' of bytes that lie in a row. -/
theorem row_str {P : Program} {w : World} (src dst e : TypeId) (hs : P.underlying src = some (.slice e)) (he : P.underlying e = some (.int .u8)) (hd : P.underlying dst = some .string)
    {a : Option Addr} {l : List UInt8} (h : Row w a (B8 l)) (cap : Nat) (hn : a = none → cap = 0) : (convert src dst (.slice a l.length cap)).run P w = .ok (.string ⟨l.toArray⟩) w := by
  cases a with
  | none =>
    obtain rfl := hn rfl
    rcases h with h | ⟨b, off, h, _⟩
    · obtain rfl : l = [] := by cases l <;> simp_all [B8]
      exact Lib.run_convert_nil_bytes w src dst e 0 hs he hd
    · cases h
  | some ad => exact run_convert_bytes_back w src dst e ad cap l hs he hd fun j hj => h.at_add ad rfl j _ (B8_get l j hj)

/-- The bytes lie in a block of bytes. -/
def Typ (w : World) (a : Option Addr) (l : List UInt8) : Prop := ∀ b off, a = some ⟨b, off, none⟩ → l ≠ [] → ∃ cs fz, w.heap[b]? = some (.cells cs 5 fz)
theorem Typ.nil (w : World) (a : Option Addr) : Typ w a [] := fun _ _ _ h => absurd rfl h
theorem Typ.kept {w w' : World} {S : Nat → Prop} {a : Option Addr} {l : List UInt8} (h : Typ w a l) (hk : Kept S w w') (hS : ∀ b off, a = some ⟨b, off, none⟩ → l ≠ [] → ¬ S b) : Typ w' a l := by
  intro b off ha hl
  obtain ⟨cs, fz, hb⟩ := h b off ha hl
  exact ⟨cs, fz, (hk.block b (Array.getElem?_eq_some_iff.1 hb).1 (hS b off ha hl)).trans hb⟩
/-- A Reader in block r: what it has left, what was wrong first. -/
def Rdr (w : World) (r : Nat) (l : List UInt8) (err : Int) : Prop :=
  ∃ a c, Blk w r 95 #[.slice a l.length c, .int .i64 err] ∧ l.length ≤ c ∧ (a = none → c = 0) ∧ Row w a (B8 l) ∧ l.length ≤ 140737000000000 ∧ (err ≠ 0 → l = []) ∧ Typ w a l
theorem Rdr.lt {w : World} {r : Nat} {l : List UInt8} {err : Int} (h : Rdr w r l err) : r < w.heap.size := by obtain ⟨a, c, hb, _⟩ := h; exact hb.lt
theorem blk_row_ne {w : World} {r b off : Nat} {t : TypeId} {x y : Value} {l : List UInt8} (hb : Blk w r t #[x, y]) (hx : ∀ n, x ≠ .int .u8 n) (hy : ∀ n, y ≠ .int .u8 n) (h : Row w (some ⟨b, off, none⟩) (B8 l)) (hl : B8 l ≠ []) : b ≠ r := by
  rintro rfl
  rcases h with h | ⟨b', off', h, _, hc⟩
  · exact hl h
  · injection h with h
    injection h with h1 h2
    subst h1 h2
    cases l with
    | nil => exact hl rfl
    | cons u l =>
      have := hc 0 _ rfl
      rw [hb.cell] at this
      match off, this with
      | 0, this => exact hx _ (by simpa using this)
      | 1, this => exact hy _ (by simpa using this)
      | k + 2, this => simp at this
theorem row_one {w w' : World} {r : Nat} {a : Option Addr} {t : TypeId} {x y : Value} {l : List UInt8} (hb : Blk w r t #[x, y]) (hx : ∀ n, x ≠ .int .u8 n) (hy : ∀ n, y ≠ .int .u8 n) (h : Row w a (B8 l)) (hk : Kept (One r) w w') : Row w' a (B8 l) :=
  h.kept hk fun b off ha hne he => blk_row_ne hb hx hy (ha ▸ h) hne he
/-- No byte lies in block b. -/
def NoByte (w : World) (b : Nat) : Prop := ∀ off n, w.cell? ⟨b, off, none⟩ ≠ some (.int .u8 n)
theorem NoByte.two {w : World} {b : Nat} {t : TypeId} {x y : Value} (hb : Blk w b t #[x, y]) (hx : ∀ n, x ≠ .int .u8 n) (hy : ∀ n, y ≠ .int .u8 n) : NoByte w b := by
  intro off n h
  rw [hb.cell] at h
  match off, h with
  | 0, h => exact hx _ (by simpa using h)
  | 1, h => exact hy _ (by simpa using h)
  | k + 2, h => simp at h
theorem NoByte.three {w : World} {b : Nat} {t : TypeId} {x y z : Value} (hb : Blk w b t #[x, y, z]) (hx : ∀ n, x ≠ .int .u8 n) (hy : ∀ n, y ≠ .int .u8 n) (hz : ∀ n, z ≠ .int .u8 n) : NoByte w b := by
  intro off n h
  rw [hb.cell] at h
  match off, h with
  | 0, h => exact hx _ (by simpa using h)
  | 1, h => exact hy _ (by simpa using h)
  | 2, h => exact hz _ (by simpa using h)
  | k + 3, h => simp at h
theorem row_nobyte {w w' : World} {S : Nat → Prop} {a : Option Addr} {l : List UInt8} (h : Row w a (B8 l)) (hk : Kept S w w') (hs : ∀ b, S b → b < w.heap.size → NoByte w b) : Row w' a (B8 l) := by
  refine h.kept hk fun b off ha hne hS => ?_
  rcases h with h | ⟨b', off', he, hlt, hc⟩
  · exact hne h
  · rw [ha] at he
    injection he with he
    injection he with e1 e2
    subst e1 e2
    cases l with
    | nil => exact hne rfl
    | cons u l => exact hs b hS hlt off _ (hc 0 _ rfl)
theorem row_notS {w : World} {S : Nat → Prop} {a : Option Addr} {l : List UInt8} (h : Row w a (B8 l)) (hs : ∀ b, S b → b < w.heap.size → NoByte w b) : ∀ b off, a = some ⟨b, off, none⟩ → l ≠ [] → ¬ S b := by
  intro b off ha hl hS
  rcases h with h | ⟨b', off', he, hlt, hc⟩
  · cases l with
    | nil => exact hl rfl
    | cons u l => simp [B8] at h
  · rw [ha] at he
    injection he with he
    injection he with e1 e2
    subst e1 e2
    cases l with
    | nil => exact hl rfl
    | cons u l => exact hs b hS hlt off _ (hc 0 _ rfl)
theorem Rdr.kept {w w' : World} {S : Nat → Prop} {r : Nat} {l : List UInt8} {err : Int} (h : Rdr w r l err) (hk : Kept S w w') (hr : ¬ S r) (hs : ∀ b, S b → b < w.heap.size → NoByte w b) : Rdr w' r l err := by
  obtain ⟨a, c, hb, h1, h2, h3, h4, h5, h6⟩ := h
  exact ⟨a, c, hb.kept hk hr, h1, h2, row_nobyte h3 hk hs, h4, h5, h6.kept hk (row_notS h3 hs)⟩
/-- What is no block of bytes may be changed. -/
theorem Rdr.keptTyp {w w' : World} {S : Nat → Prop} {r : Nat} {l : List UInt8} {err : Int} (h : Rdr w r l err) (hk : Kept S w w') (hr : ¬ S r) (hs : ∀ b, S b → ∀ cs fz, w.heap[b]? ≠ some (.cells cs 5 fz)) : Rdr w' r l err := by
  obtain ⟨a, c, hb, h1, h2, h3, h4, h5, h6⟩ := h
  have hn : ∀ b off, a = some ⟨b, off, none⟩ → l ≠ [] → ¬ S b := fun b off ha hl hS => by
    obtain ⟨cs, fz, hx⟩ := h6 b off ha hl
    exact hs b hS cs fz hx
  exact ⟨a, c, hb.kept hk hr, h1, h2, h3.kept hk (fun b off ha hx => hn b off ha (fun e => hx (by rw [e]; rfl))), h4, h5, h6.kept hk hn⟩
/-- A store into a block of another kind. -/
theorem Rdr.setOther {w : World} {r : Nat} {l : List UInt8} {err : Int} (h : Rdr w r l err) {q i : Nat} {t : TypeId} {cs : Array Value} (hq : Blk w q t cs) (ht : t ≠ 5) (hr : r ≠ q) (u : Value) : Rdr (w.setCell ⟨q, i, none⟩ u) r l err :=
  h.keptTyp ((Kept.refl (One q) w).setCell (p := ⟨q, i, none⟩) (.inr rfl) u) hr (fun b hb cs' fz hx => by
    obtain rfl : b = q := hb
    unfold Blk at hq
    rw [hq] at hx
    injection hx with hx
    injection hx with _ h2 _
    exact ht h2)
theorem Rdr.noByte {w : World} {r : Nat} {l : List UInt8} {err : Int} (h : Rdr w r l err) : NoByte w r := by
  obtain ⟨a, c, hb, _⟩ := h
  exact NoByte.two hb (by simp) (by simp)
theorem Rdr.keptNo {w w' : World} {r : Nat} {l : List UInt8} {err : Int} (h : Rdr w r l err) (hk : Kept No w w') : Rdr w' r l err := h.kept hk (fun f => f) (fun _ f => f.elim)

theorem Rdr.cells {w : World} {r : Nat} {l : List UInt8} {err : Int} (h : Rdr w r l err) :
    ∃ a c, w.cell? ⟨r, 0, none⟩ = some (.slice a l.length c) ∧ w.cell? ⟨r, 1, none⟩ = some (.int .i64 err) ∧ w.frozen? ⟨r, 0, none⟩ = false ∧ w.frozen? ⟨r, 1, none⟩ = false := by
  obtain ⟨a, c, hb, _⟩ := h
  exact ⟨a, c, by rw [hb.cell]; rfl, by rw [hb.cell]; rfl, hb.frozen 0, hb.frozen 1⟩
theorem Rdr.setErr {w : World} {r : Nat} {l : List UInt8} {err : Int} (h : Rdr w r l err) (e : Int) (he : e ≠ 0 → l = []) : Rdr (w.setCell ⟨r, 1, none⟩ (.int .i64 e)) r l e := by
  obtain ⟨a, c, hb, h1, h2, h3, h4, h5, h6⟩ := h
  have hk : Kept (One r) w (w.setCell ⟨r, 1, none⟩ (.int .i64 e)) := (Kept.refl (One r) w).setCell (p := ⟨r, 1, none⟩) (.inr rfl) _
  exact ⟨a, c, by simpa using hb.set_ 1 (.int .i64 e), h1, h2, row_one hb (by simp) (by simp) h3 hk, h4, he, h6.kept hk (row_notS h3 fun b hS _ => by have e : b = r := hS; rw [e]; exact NoByte.two hb (by simp) (by simp))⟩
theorem Rdr.far {w : World} {r s : Nat} {l : List UInt8} {err : Int} (h : Rdr w r l err) {l' : List UInt8} {err' : Int} (hs : Rdr w s l' err') (hne : r ≠ s) (p : Addr) (hp : p.block = s) (v : Value) : Rdr (w.setCell p v) r l err :=
  h.kept ((Kept.refl (One s) w).setCell (.inr hp) _) hne fun b hb _ => by
    obtain rfl : b = s := hb
    exact hs.noByte
theorem row_none {w : World} {a : Option Addr} {l : List UInt8} {c : Nat} (h : Row w a (B8 l)) (hc : a = none → c = 0) : a = none → l.length = 0 ∧ c = 0 := by
  intro ha
  rcases h with h | ⟨b, off, h, _⟩
  · exact ⟨by cases l <;> simp_all [B8], hc ha⟩
  · rw [ha] at h; cases h

theorem err_nil (w : World) : Calls Tryd.prog 23 #[.pointer none] w fun e w' => e = .returned (.int .i64 1) ∧ w = w' := by
  go_enter Tryd.func23, Tryd.ntmps23
  go_wp2
  go_ret
  exact ⟨rfl, rfl⟩
theorem err_any (w : World) (r : Nat) (l : List UInt8) (err : Int) (h : Rdr w r l err) : Calls Tryd.prog 23 #[.pointer (some ⟨r, 0, none⟩)] w fun e w' => e = .returned (.int .i64 err) ∧ w = w' := by
  obtain ⟨a, c, hb, h1, h2, h3, h4, h5⟩ := h
  have c0 := hb.cell 0
  have c1 := hb.cell 1
  simp at c0 c1
  go_enter Tryd.func23, Tryd.ntmps23
  go_wp2
  go_ret
  exact ⟨rfl, rfl⟩
theorem left_nil (w : World) : Calls Tryd.prog 22 #[.pointer none] w fun e w' => e = .returned (.int .i64 0) ∧ w = w' := by
  go_enter Tryd.func22, Tryd.ntmps22
  go_wp2
  go_ret
  exact ⟨rfl, rfl⟩
theorem left_any (w : World) (r : Nat) (l : List UInt8) (err : Int) (h : Rdr w r l err) : Calls Tryd.prog 22 #[.pointer (some ⟨r, 0, none⟩)] w fun e w' => e = .returned (.int .i64 l.length) ∧ w = w' := by
  obtain ⟨a, c, hb, h1, h2, h3, h4, h5⟩ := h
  have c0 := hb.cell 0
  have c1 := hb.cell 1
  simp at c0 c1
  go_enter Tryd.func22, Tryd.ntmps22
  go_wp2
  go_ret
  exact ⟨rfl, rfl⟩

/-- 'fail': nothing is left, and that is wrong. -/
theorem fail_any (w : World) (r : Nat) (l : List UInt8) (err : Int) (x : Int) (h : Rdr w r l err) :
    Calls Tryd.prog 91 #[.pointer (some ⟨r, 0, none⟩), .int .i64 x] w fun e w' => e = .returned (.tuple #[]) ∧ Rdr w' r [] x ∧ Kept (One r) w w' := by
  obtain ⟨a, c, hb, h1, h2, h3, h4, h5⟩ := h
  have c0 := hb.cell 0
  have c1 := hb.cell 1
  have f0 := hb.frozen 0
  have f1 := hb.frozen 1
  simp at c0 c1
  go_enter Tryd.func91, Tryd.ntmps91
  go_wp2
  go_end0
  have hb' := (hb.set_ 0 (.slice none 0 0)).set_ 1 (.int .i64 x)
  refine ⟨rfl, ⟨none, 0, by simpa using hb', by simp, by simp, Row.nil _ _, by simp, by simp, Typ.nil _ _⟩, ((Kept.refl (One r) w).setCell (p := ⟨r, 0, none⟩) (.inr rfl) _).setCell (p := ⟨r, 1, none⟩) (.inr rfl) _⟩

theorem take_bad (w : World) (r : Nat) (l : List UInt8) (err n : Int) (h : Rdr w r l err) (he : err ≠ 0) :
    Calls Tryd.prog 90 #[.pointer (some ⟨r, 0, none⟩), .int .i64 n] w fun e w' => e = .returned (.slice none 0 0) ∧ w = w' := by
  have hne : (err != 0) = true := by simpa using he
  go_enter Tryd.func90, Tryd.ntmps90
  go_wp2_with (go_at_call 23; refine (err_any _ r l err h).mono ?_; rintro e w1 ⟨rfl, rfl⟩)
  go_ret
  exact ⟨rfl, rfl⟩

theorem take_short (w : World) (r : Nat) (l : List UInt8) (n : Int) (h : Rdr w r l 0) (hn : n < 0 ∨ (l.length : Int) < n) :
    Calls Tryd.prog 90 #[.pointer (some ⟨r, 0, none⟩), .int .i64 n] w fun e w' => e = .returned (.slice none 0 0) ∧ Rdr w' r [] 2 ∧ Kept (One r) w w' := by
  have hf := fail_any w r l 0 2 h
  have he := err_any w r l 0 h
  obtain ⟨a, c, hb, h1, h2, h3, h4, h5⟩ := h
  have c0 := hb.cell 0
  have c1 := hb.cell 1
  simp at c0 c1
  have HF := Lib.hid hf
  have HE := Lib.hid he
  clear hf he h2 h5
  rcases hn with hn | hn
  all_goals
    go_enter Tryd.func90, Tryd.ntmps90
    go_wp2_with (first
      | (go_at_call 23; refine HE.out.mono ?_; rintro e w1 ⟨rfl, rfl⟩)
      | (go_at_call 91; refine HF.out.mono ?_; rintro e w1 ⟨rfl, hr1, hk1⟩))
    go_ret
    exact ⟨rfl, hr1, hk1⟩

theorem take_ok (w : World) (r : Nat) (l : List UInt8) (n : Int) (h : Rdr w r l 0) (hn : 0 ≤ n) (hl : n ≤ l.length) :
    Calls Tryd.prog 90 #[.pointer (some ⟨r, 0, none⟩), .int .i64 n] w fun e w' =>
      ∃ a c, e = .returned (.slice a (l.take n.toNat).length c) ∧ Row w' a (B8 (l.take n.toNat)) ∧ (a = none → c = 0) ∧ Rdr w' r (l.drop n.toNat) 0 ∧ Kept (One r) w w' := by
  have he := err_any w r l 0 h
  obtain ⟨a, c, hb, h1, h2, h3, h4, h5, h6⟩ := h
  have h6' := Lib.hid (fun w' (hk : Kept (One r) w w') => h6.kept hk (row_notS h3 fun b hS _ => by have e : b = r := hS; rw [e]; exact NoByte.two hb (by simp) (by simp)))
  clear h6
  have c0 := hb.cell 0
  have c1 := hb.cell 1
  have f0 := hb.frozen 0
  simp at c0 c1
  have HE := Lib.hid he
  have H2 := Lib.hid h2
  clear he h2 h5
  obtain ⟨n, rfl⟩ := Int.eq_ofNat_of_zero_le hn
  rw [Int.toNat_natCast]
  go_enter Tryd.func90, Tryd.ntmps90
  go_wp2_with (first
    | (go_at_call 23; refine HE.out.mono ?_; rintro e w1 ⟨rfl, rfl⟩))
  all_goals go_ret
  · subst h
    have hk : Kept (One r) w (w.setCell ⟨r, 0, none⟩ (.slice a (l.length - c) 0)) := (Kept.refl (One r) w).setCell (p := ⟨r, 0, none⟩) (.inr rfl) _
    have h3' := row_one hb (by simp) (by simp) h3 hk
    have e0 : l.drop c = [] := List.drop_eq_nil_of_le (by omega)
    have e1 : l.take c = l := List.take_of_length_le (by omega)
    have e2 : l.length = c := by omega
    rw [e1]
    refine ⟨a, c, by simp [e2], h3', H2.out, ⟨a, 0, ?_, by simp [e0], by simp, by rw [e0]; exact Row.nil _ _, by simp [e0], by simp, by rw [e0]; exact Typ.nil _ _⟩, hk⟩
    have := hb.set_ 0 (.slice a (l.length - c) 0)
    simpa [e0, e2] using this
  · have hk : Kept (One r) w (w.setCell ⟨r, 0, none⟩ (.slice (Option.map (fun x => x.add n) a) (l.length - n) (c - n))) := (Kept.refl (One r) w).setCell (p := ⟨r, 0, none⟩) (.inr rfl) _
    have h3' := row_one hb (by simp) (by simp) h3 hk
    refine ⟨a, c, by simp; omega, by rw [B8_take]; exact h3'.take n, H2.out, ⟨Option.map (fun x => x.add n) a, c - n, ?_, by simp; omega, ?_, ?_, by simp; omega, by simp, ?_⟩, hk⟩
    · have := hb.set_ 0 (.slice (Option.map (fun x => x.add n) a) (l.length - n) (c - n))
      simpa using this
    · intro hna
      have := H2.out (by simpa using hna)
      omega
    · have := h3'.drop (k := n) (cap := c) (by simpa using h1)
      rw [if_neg h] at this
      rw [B8_drop]
      exact this
    · intro b off hao hne
      have hl9 : l ≠ [] := fun e => hne (by rw [e]; simp)
      rcases h3' with h9 | ⟨b9, off9, ha9, hb9, _⟩
      · exact absurd h9 (by cases l <;> simp_all [B8])
      · refine h6'.out _ hk b off9 ?_ hl9
        rw [ha9] at hao ⊢
        simp only [Option.map_some, Addr.add] at hao
        split at hao
        · subst_vars; injection hao with hao; injection hao with e1 e2; rw [e1]
        · injection hao with hao; injection hao with e1 e2; rw [e1]

end Go.Proofs.YtfhcmmmgnkinoaaDoor
