/- An answer, read from its bytes: plain mathematics; no program is named here. -/
import Derived.Test.YtjohkmkgmbihkaaDoorTreePlain
import Derived.Test.YtjohkmkgmbihkaaDoorBookA
namespace Go.Proofs.YtjohkmkgmbihkaaDoor
/-- A tree as an answer tells of it. -/
inductive AT
  | empty
  | alone (d : ByteArray)
  | node (x : It) (l r : AT)
/-- So many bytes, and the rest. -/
def tk (s : ByteArray) (n : Nat) : Option (ByteArray × ByteArray) := if s.size < n then none else some (s.extract 0 n, s.extract n s.size)
/-- One byte's number, and the rest. -/
def num (s : ByteArray) : Option (Nat × ByteArray) := if s.size < 1 then none else some ((s.data.getD 0 0).toNat, s.extract 1 s.size)
def meas (s : ByteArray) : Option (ByteArray × ByteArray) := match num s with
  | none => none
  | some (n, r) => tk r n
def ent (s : ByteArray) : Option (It × ByteArray) := match meas s with
  | none => none
  | some (k, r1) => match meas r1 with
    | none => none
    | some (v, r2) => match num r2 with
      | none => none
      | some (h, r3) => if fault k v h = 0 then some (⟨k, v, h⟩, r3) else none
/-- Is a text three digits? -/
def hexB (c : UInt8) : Bool := decide (48 ≤ c.toNat ∧ c.toNat ≤ 57 ∨ 97 ≤ c.toNat ∧ c.toNat ≤ 102)
def isDig (s : ByteArray) : Bool := s.data.toList.all hexB && decide (s.size = 3)
abbrev Rdr := ByteArray → Nat → Option (AT × ByteArray × Nat)
def rdN (g : Rdr) (s : ByteArray) (n : Nat) : Option (AT × ByteArray × Nat) :=
  if n = 50 then none else match ent s with
  | none => none
  | some (x, s1) => match g s1 (n + 1) with
    | none => none
    | some (l, s2, n2) => match g s2 n2 with
      | none => none
      | some (r, s3, n3) => some (.node x l r, s3, n3)
def rdS (s : ByteArray) (n : Nat) : Option (AT × ByteArray × Nat) := match tk s 3 with
  | none => none
  | some (d, r) => if isDig d then some (.alone d, r, n) else none
def rdW (g : Rdr) (s : ByteArray) (n : Nat) : Option (AT × ByteArray × Nat) := match tk s 1 with
  | none => none
  | some (c, r) => if beq c ⟨#[78]⟩ then rdN g r n else if beq c ⟨#[69]⟩ then some (.empty, r, n) else if beq c ⟨#[83]⟩ then rdS r n else none
def rd : Nat → Rdr
  | 0 => rdW (fun _ _ => none)
  | f + 1 => rdW (rd f)
/-- An answer, read to its end. -/
def rdA (s : ByteArray) : Option AT := match rd 50 s 0 with
  | none => none
  | some (t, r, _) => if beq r ⟨#[]⟩ then some t else none
theorem tk_size {s t r : ByteArray} {n : Nat} (h : tk s n = some (t, r)) : t.size = n ∧ r.size + n = s.size ∧ t = s.extract 0 n ∧ r = s.extract n s.size := by
  unfold tk at h
  split at h
  · cases h
  · simp only [Option.some.injEq, Prod.mk.injEq] at h
    obtain ⟨rfl, rfl⟩ := h
    simp only [ByteArray.size_extract]
    refine ⟨by omega, by omega, trivial, trivial⟩
theorem num_lt {s r : ByteArray} {n : Nat} (h : num s = some (n, r)) : n < 256 ∧ r.size + 1 = s.size := by
  unfold num at h
  split at h
  · cases h
  · simp only [Option.some.injEq, Prod.mk.injEq] at h
    obtain ⟨rfl, rfl⟩ := h
    refine ⟨UInt8.toNat_lt _, ?_⟩
    simp only [ByteArray.size_extract]
    omega
theorem meas_size {s t r : ByteArray} (h : meas s = some (t, r)) : r.size ≤ s.size := by
  unfold meas at h
  split at h
  · cases h
  · next n q hq => have := num_lt hq; have := tk_size h; omega
theorem ent_size {s r : ByteArray} {x : It} (h : ent s = some (x, r)) : r.size ≤ s.size := by
  unfold ent at h
  split at h
  · cases h
  next k r1 h1 =>
  split at h
  · cases h
  next v r2 h2 =>
  split at h
  · cases h
  next hh r3 h3 =>
  split at h
  · simp only [Option.some.injEq, Prod.mk.injEq] at h
    obtain ⟨_, rfl⟩ := h
    have a := meas_size h1
    have b := meas_size h2
    have c := num_lt h3
    omega
  · cases h
def Less (g : Rdr) : Prop := ∀ s n t r m, g s n = some (t, r, m) → n ≤ 50 → n ≤ m ∧ m ≤ 50 ∧ r.size ≤ s.size
theorem rdN_less {g : Rdr} (hg : Less g) {s r : ByteArray} {n m : Nat} {t : AT} (h : rdN g s n = some (t, r, m)) (hn : n ≤ 50) : n ≤ m ∧ m ≤ 50 ∧ r.size ≤ s.size := by
  unfold rdN at h
  split at h
  · cases h
  next h50 =>
  split at h
  · cases h
  next x s1 h1 =>
  split at h
  · cases h
  next l s2 n2 h2 =>
  split at h
  · cases h
  next q s3 n3 h3 =>
  simp only [Option.some.injEq, Prod.mk.injEq] at h
  obtain ⟨_, rfl, rfl⟩ := h
  have a := ent_size h1
  have b := hg _ _ _ _ _ h2 (by omega)
  have c := hg _ _ _ _ _ h3 (by omega)
  omega
theorem rdS_less {s r : ByteArray} {n m : Nat} {t : AT} (h : rdS s n = some (t, r, m)) (hn : n ≤ 50) : n ≤ m ∧ m ≤ 50 ∧ r.size ≤ s.size := by
  unfold rdS at h
  split at h
  · cases h
  next d q hq =>
  split at h
  · simp only [Option.some.injEq, Prod.mk.injEq] at h
    obtain ⟨_, rfl, rfl⟩ := h
    have := tk_size hq
    omega
  · cases h
theorem rdW_less {g : Rdr} (hg : Less g) : Less (rdW g) := by
  intro s n t r m h hn
  unfold rdW at h
  split at h
  · cases h
  next c q hq =>
  have hq' := tk_size hq
  split at h
  · have := rdN_less hg h hn; omega
  split at h
  · simp only [Option.some.injEq, Prod.mk.injEq] at h
    obtain ⟨_, rfl, rfl⟩ := h
    omega
  split at h
  · have := rdS_less h hn; omega
  · cases h
theorem rd_less : ∀ f, Less (rd f)
  | 0 => rdW_less (fun s n t r m h _ => by cases h)
  | f + 1 => rdW_less (rd_less f)
end Go.Proofs.YtjohkmkgmbihkaaDoor
