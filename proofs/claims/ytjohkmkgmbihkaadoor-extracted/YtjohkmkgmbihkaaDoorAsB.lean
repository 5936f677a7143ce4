/- errors.As by its contracts, and what the program makes of its errors. -/
import Derived.Test.YtjohkmkgmbihkaaDoorAsA
import Derived.Test.YtjohkmkgmbihkaaDoorShelfE
import Derived.Test.YtjohkmkgmbihkaaDoorTreeA
namespace Go.Proofs.YtjohkmkgmbihkaaDoor
open Go.ChangeShapes Go.WideShapes Go.ChangeAt Go.RowKit Go.Extern.Stop Go.Stop Go.Extern
set_option linter.unusedVariables false
theorem chain_small {a b : ByteArray} {v : Value} : SizeOf.sizeOf v < SizeOf.sizeOf (Value.iface 81 (.agg #[.string a, .string b, v])) := by
  simp; omega
theorem Ext.frz {w w' : World} (h : Ext w w') {t : Nat} (ht : t < w.heap.size) : w'.frozen? ⟨t, 0, none⟩ = w.frozen? ⟨t, 0, none⟩ := by
  unfold World.frozen?; rw [h.block t ht]
theorem grown_set {w w' : World} {t : Nat} (h : Ext w w') (u : Value) : w.grownBy (w'.setCell ⟨t, 0, none⟩ u) (some t) :=
  ⟨h.os, h.tape, h.output, by simpa [World.setCell] using h.size, fun k hk hne => by
    rw [Below.heap_setCell _ _ _ _ (by intro e; exact hne (by rw [e]))]; exact h.block k hk⟩

set_option maxHeartbeats 4000000 in
set_option maxRecDepth 100000 in
/-- errors.as at a target of type Unread and a chain that ends in one of type Unread: true. -/
theorem as_Unread_Unread (err : Value) (hc : Chain 69 err) (a t : Nat) (old : Value) (w : World) (ha : w.cell? ⟨a, 0, none⟩ = some (.pointer (some ⟨t, 0, none⟩)))
    (ht : w.cell? ⟨t, 0, none⟩ = some old) (hf : w.frozen? ⟨t, 0, none⟩ = false) (tg : Value) :
    Calls Tryd.prog 48 #[err, tg, .agg #[.pointer (some ⟨2, 72, none⟩), .pointer (some ⟨a, 0, none⟩), .int .u64 150], .iface 125 (.agg #[.pointer (some ⟨2, 69, none⟩)])] w
      fun e w' => e = .returned (.bool true) ∧ w.grownBy w' (some t) := by
  have HC := hid hc
  have hta := World.block_lt_of_cell? w _ ha
  have htt := World.block_lt_of_cell? w _ ht
  simp only at hta htt
  have h131 := @run_callFunc_extern Tryd.prog 45 _ (fun args => ReflectliteValue.unpack (args.getD 0 (.tuple #[]))) Tryd.func45 (by kernel_rfl) (by kernel_rfl) (by kernel_rfl) (by kernel_rfl)
  have h141 := @run_callFunc_extern Tryd.prog 60 _ ReflectliteType.typeOf Tryd.func60 (by kernel_rfl) (by kernel_rfl) (by kernel_rfl) (by kernel_rfl)
  have h175 := @run_callFunc_extern Tryd.prog 101 _ (ReflectliteType.relation "AssignableTo" ReflectliteType.assignableTo) Tryd.func101 (by kernel_rfl) (by kernel_rfl) (by kernel_rfl) (by kernel_rfl)
  have h142 := @run_callFunc_extern Tryd.prog 61 _ (ReflectliteValue.method (ReflectliteValue.valueError "reflectlite.Value.Elem" 0) ReflectliteValue.elem) Tryd.func61 (by kernel_rfl) (by kernel_rfl) (by kernel_rfl) (by kernel_rfl)
  have h143 := @run_callFunc_extern Tryd.prog 62 _ ReflectliteValue.set Tryd.func62 (by kernel_rfl) (by kernel_rfl) (by kernel_rfl) (by kernel_rfl)
  have mA := methodAssignableTo
  have mU := methodUnwrap
  have bA := besideAs
  have bU := besideUnwrap
  have tB := typeOfBeside
  have a1 := assignBesideUnread
  have t1 := typeOfUnread
  have a2 := assignUnread
  have v1 := valueOfUnread
  have c1 := fun ob => ((Ext.refl w).alloc ob).keep1 ha
  have HA := hid ha
  have HT := hid ht
  have HF := hid hf
  clear hc ha ht hf
  go_enter Tryd.func48, Tryd.ntmps48
  go_wp2_with fail
  go_loopw [0] (fun e wr => Chain 69 e ∧ Ext w wr ∧ wr.cell? ⟨w.heap.size, 0, none⟩ = some (.pointer (some ⟨2, 72, none⟩)) ∧ wr.cell? ⟨w.heap.size, 1, none⟩ = some (.pointer (some ⟨a, 0, none⟩)) ∧ wr.cell? ⟨w.heap.size, 2, none⟩ = some (.int .u64 150)) (fun e _ => SizeOf.sizeOf e)
  case atStart => exact ⟨HC.out, (Ext.refl w).alloc _, cell_new _ _ _ 0, cell_new _ _ _ 1, cell_new _ _ _ 2⟩
  case round =>
    obtain ⟨hc, hx, q0, q1, q2⟩ := hrel
    have HX := hid hx
    clear hx
    cases hc with
    | base s =>
      have ha := HX.out.keep1 HA.out
      have el := elemVUnread ⟨a, 0, none⟩ ⟨t, 0, none⟩ wr ha
      have hx2 := HX.out.alloc (.cells #[.string s] 69)
      have st := setUnread t wr.heap.size s old (wr.alloc (.cells #[.string s] 69)) (cell_new _ _ _ 0) (hx2.keep1 HT.out) ((hx2.frz htt).trans HF.out)
      go_wp2_with fail
      go_ret
      exact ⟨rfl, grown_set hx2 _⟩
    | wrap x y v h =>
      obtain ⟨t1, u1, rfl⟩ := h.iface
      have HH := hid h
      clear h
      go_wp2_with fail
      refine (Unwrap_any x y _ _ ⟨_, _, rfl⟩).mono ?_
      rintro e w2 ⟨rfl, hx2⟩
      have HX2 := hid hx2
      clear hx2
      go_wp2_with fail
      go_roundw
      case rel => exact ⟨HH.out, HX.out.trans HX2.out, HX2.out.keep1 q0, HX2.out.keep1 q1, HX2.out.keep1 q2⟩
      case measure => exact chain_small

set_option maxHeartbeats 4000000 in
set_option maxRecDepth 100000 in
/-- errors.As at a target of type Unread. -/
theorem As_Unread_Unread (err : Value) (hc : Chain 69 err) (t : Nat) (old : Value) (w : World) (hg : ErrT w) (ht : w.cell? ⟨t, 0, none⟩ = some old) (hf : w.frozen? ⟨t, 0, none⟩ = false) :
    Calls Tryd.prog 23 #[err, .iface 72 (.pointer (some ⟨t, 0, none⟩))] w fun e w' => e = .returned (.bool true) ∧ w.grownBy w' (some t) := by
  obtain ⟨et, eu, rfl⟩ := hc.iface
  have HC := hid hc
  have hg' : w.cell? ⟨0, 0, none⟩ = some (.iface 125 (.agg #[.pointer (some ⟨2, 43, none⟩)])) := hg
  have h131 := @run_callFunc_extern Tryd.prog 45 _ (fun args => ReflectliteValue.unpack (args.getD 0 (.tuple #[]))) Tryd.func45 (by kernel_rfl) (by kernel_rfl) (by kernel_rfl) (by kernel_rfl)
  have h132 := @run_callFunc_extern Tryd.prog 46 _ (ReflectliteValue.methodAny (ReflectliteValue.valueError "reflectlite.Value.Type" 0) (fun t _ _ _ => ReflectliteType.toType t)) Tryd.func46 (by kernel_rfl) (by kernel_rfl) (by kernel_rfl) (by kernel_rfl)
  have h133 := @run_callFunc_extern Tryd.prog 47 _ (ReflectliteValue.method (ReflectliteValue.valueError "reflectlite.Value.IsNil" 0) ReflectliteValue.isNil) Tryd.func47 (by kernel_rfl) (by kernel_rfl) (by kernel_rfl) (by kernel_rfl)
  have h164 := @run_callFunc_extern Tryd.prog 89 _ (ReflectliteType.abiMethod fun t => do pure (.int .u8 (← Rtype.kind t))) Tryd.func89 (by kernel_rfl) (by kernel_rfl) (by kernel_rfl) (by kernel_rfl)
  have h177 := @run_callFunc_extern Tryd.prog 103 _ (ReflectliteType.method ReflectliteType.elem) Tryd.func103 (by kernel_rfl) (by kernel_rfl) (by kernel_rfl) (by kernel_rfl)
  have h178 := @run_callFunc_extern Tryd.prog 104 _ (ReflectliteType.relation "Implements" ReflectliteType.implements_) Tryd.func104 (by kernel_rfl) (by kernel_rfl) (by kernel_rfl) (by kernel_rfl)
  have f6 := valueOfPUnread
  have f7 := typePUnread
  have mK := methodKind
  have mE := methodElem
  have mI := methodImplements
  have k27 := kindPUnread
  have k25 := kindUnread
  have e27 := elemUnread
  have i25 := implementsUnread
  have hx1 := (Ext.refl w).alloc (.cells #[.pointer (some ⟨t, 0, none⟩)] 72)
  have d1 := cell_new w #[.pointer (some ⟨t, 0, none⟩)] 72 0
  have e1 : (w.alloc (.cells #[.pointer (some ⟨t, 0, none⟩)] 72)).heap.size = w.heap.size + 1 := by simp
  have hx2 := hx1.alloc (.cells #[.pointer (some ⟨2, 72, none⟩), .pointer (some ⟨w.heap.size, 0, none⟩), .int .u64 150] 104)
  have d2 := (((Ext.refl _).alloc (.cells #[.pointer (some ⟨2, 72, none⟩), .pointer (some ⟨w.heap.size, 0, none⟩), .int .u64 150] 104))).keep1 d1
  have n8 := isNilUnread ⟨w.heap.size, 0, none⟩ ⟨t, 0, none⟩ ((w.alloc (.cells #[.pointer (some ⟨t, 0, none⟩)] 72)).alloc (.cells #[.pointer (some ⟨2, 72, none⟩), .pointer (some ⟨w.heap.size, 0, none⟩), .int .u64 150] 104)) d2
  have hg2 := hx2.keep1 hg'
  have HT := hid (hx2.keep1 ht)
  have HF := hid ((hx2.frz (World.block_lt_of_cell? w _ ht)).trans hf)
  have HD := hid d2
  have HX2 := hid hx2
  clear hc hg hg' d1 d2 hx1 hx2 ht hf
  go_enter Tryd.func23, Tryd.ntmps23
  go_wp2_with fail
  refine (as_Unread_Unread _ HC.out w.heap.size t old _ HD.out HT.out HF.out _).mono ?_
  rintro e w3 ⟨rfl, hg3⟩
  have HG := hid hg3
  clear hg3
  go_wp2_with fail
  go_ret
  have h3 := HG.out
  have h2 := HX2.out
  exact ⟨rfl, h3.os.trans h2.os, h3.tape.trans h2.tape, h3.output.trans h2.output, Nat.le_trans h2.size h3.size, fun k hk hne => (h3.block k (Nat.lt_of_lt_of_le hk h2.size) hne).trans (h2.block k hk)⟩

set_option maxHeartbeats 4000000 in
set_option maxRecDepth 100000 in
/-- errors.as at a target of type Unread and a chain that ends in one of type Misplaced: false. -/
theorem as_Unread_Misplaced (err : Value) (hc : Chain 70 err) (a t : Nat) (old : Value) (w : World) (ha : w.cell? ⟨a, 0, none⟩ = some (.pointer (some ⟨t, 0, none⟩)))
    (ht : w.cell? ⟨t, 0, none⟩ = some old) (hf : w.frozen? ⟨t, 0, none⟩ = false) (tg : Value) :
    Calls Tryd.prog 48 #[err, tg, .agg #[.pointer (some ⟨2, 72, none⟩), .pointer (some ⟨a, 0, none⟩), .int .u64 150], .iface 125 (.agg #[.pointer (some ⟨2, 69, none⟩)])] w
      fun e w' => e = .returned (.bool false) ∧ w.grownBy w' (some t) := by
  have HC := hid hc
  have hta := World.block_lt_of_cell? w _ ha
  have htt := World.block_lt_of_cell? w _ ht
  simp only at hta htt
  have h131 := @run_callFunc_extern Tryd.prog 45 _ (fun args => ReflectliteValue.unpack (args.getD 0 (.tuple #[]))) Tryd.func45 (by kernel_rfl) (by kernel_rfl) (by kernel_rfl) (by kernel_rfl)
  have h141 := @run_callFunc_extern Tryd.prog 60 _ ReflectliteType.typeOf Tryd.func60 (by kernel_rfl) (by kernel_rfl) (by kernel_rfl) (by kernel_rfl)
  have h175 := @run_callFunc_extern Tryd.prog 101 _ (ReflectliteType.relation "AssignableTo" ReflectliteType.assignableTo) Tryd.func101 (by kernel_rfl) (by kernel_rfl) (by kernel_rfl) (by kernel_rfl)
  have h142 := @run_callFunc_extern Tryd.prog 61 _ (ReflectliteValue.method (ReflectliteValue.valueError "reflectlite.Value.Elem" 0) ReflectliteValue.elem) Tryd.func61 (by kernel_rfl) (by kernel_rfl) (by kernel_rfl) (by kernel_rfl)
  have h143 := @run_callFunc_extern Tryd.prog 62 _ ReflectliteValue.set Tryd.func62 (by kernel_rfl) (by kernel_rfl) (by kernel_rfl) (by kernel_rfl)
  have mA := methodAssignableTo
  have mU := methodUnwrap
  have bA := besideAs
  have bU := besideUnwrap
  have tB := typeOfBeside
  have a1 := assignBesideUnread
  have t1 := typeOfMisplaced
  have a2 := assignOtherUnread
  have s1 := asMisplaced
  have s2 := unwrapMisplaced
  have s3 := unwrapsMisplaced
  have c1 := fun ob => ((Ext.refl w).alloc ob).keep1 ha
  have HA := hid ha
  have HT := hid ht
  have HF := hid hf
  clear hc ha ht hf
  go_enter Tryd.func48, Tryd.ntmps48
  go_wp2_with fail
  go_loopw [0] (fun e wr => Chain 70 e ∧ Ext w wr ∧ wr.cell? ⟨w.heap.size, 0, none⟩ = some (.pointer (some ⟨2, 72, none⟩)) ∧ wr.cell? ⟨w.heap.size, 1, none⟩ = some (.pointer (some ⟨a, 0, none⟩)) ∧ wr.cell? ⟨w.heap.size, 2, none⟩ = some (.int .u64 150)) (fun e _ => SizeOf.sizeOf e)
  case atStart => exact ⟨HC.out, (Ext.refl w).alloc _, cell_new _ _ _ 0, cell_new _ _ _ 1, cell_new _ _ _ 2⟩
  case round =>
    obtain ⟨hc, hx, q0, q1, q2⟩ := hrel
    have HX := hid hx
    clear hx
    cases hc with
    | base s =>
      go_wp2_with fail
      go_ret
      exact ⟨rfl, HX.out.os, HX.out.tape, HX.out.output, HX.out.size, fun k hk _ => HX.out.block k hk⟩
    | wrap x y v h =>
      obtain ⟨t1, u1, rfl⟩ := h.iface
      have HH := hid h
      clear h
      go_wp2_with fail
      refine (Unwrap_any x y _ _ ⟨_, _, rfl⟩).mono ?_
      rintro e w2 ⟨rfl, hx2⟩
      have HX2 := hid hx2
      clear hx2
      go_wp2_with fail
      go_roundw
      case rel => exact ⟨HH.out, HX.out.trans HX2.out, HX2.out.keep1 q0, HX2.out.keep1 q1, HX2.out.keep1 q2⟩
      case measure => exact chain_small

set_option maxHeartbeats 4000000 in
set_option maxRecDepth 100000 in
/-- errors.As at a target of type Unread. -/
theorem As_Unread_Misplaced (err : Value) (hc : Chain 70 err) (t : Nat) (old : Value) (w : World) (hg : ErrT w) (ht : w.cell? ⟨t, 0, none⟩ = some old) (hf : w.frozen? ⟨t, 0, none⟩ = false) :
    Calls Tryd.prog 23 #[err, .iface 72 (.pointer (some ⟨t, 0, none⟩))] w fun e w' => e = .returned (.bool false) ∧ w.grownBy w' (some t) := by
  obtain ⟨et, eu, rfl⟩ := hc.iface
  have HC := hid hc
  have hg' : w.cell? ⟨0, 0, none⟩ = some (.iface 125 (.agg #[.pointer (some ⟨2, 43, none⟩)])) := hg
  have h131 := @run_callFunc_extern Tryd.prog 45 _ (fun args => ReflectliteValue.unpack (args.getD 0 (.tuple #[]))) Tryd.func45 (by kernel_rfl) (by kernel_rfl) (by kernel_rfl) (by kernel_rfl)
  have h132 := @run_callFunc_extern Tryd.prog 46 _ (ReflectliteValue.methodAny (ReflectliteValue.valueError "reflectlite.Value.Type" 0) (fun t _ _ _ => ReflectliteType.toType t)) Tryd.func46 (by kernel_rfl) (by kernel_rfl) (by kernel_rfl) (by kernel_rfl)
  have h133 := @run_callFunc_extern Tryd.prog 47 _ (ReflectliteValue.method (ReflectliteValue.valueError "reflectlite.Value.IsNil" 0) ReflectliteValue.isNil) Tryd.func47 (by kernel_rfl) (by kernel_rfl) (by kernel_rfl) (by kernel_rfl)
  have h164 := @run_callFunc_extern Tryd.prog 89 _ (ReflectliteType.abiMethod fun t => do pure (.int .u8 (← Rtype.kind t))) Tryd.func89 (by kernel_rfl) (by kernel_rfl) (by kernel_rfl) (by kernel_rfl)
  have h177 := @run_callFunc_extern Tryd.prog 103 _ (ReflectliteType.method ReflectliteType.elem) Tryd.func103 (by kernel_rfl) (by kernel_rfl) (by kernel_rfl) (by kernel_rfl)
  have h178 := @run_callFunc_extern Tryd.prog 104 _ (ReflectliteType.relation "Implements" ReflectliteType.implements_) Tryd.func104 (by kernel_rfl) (by kernel_rfl) (by kernel_rfl) (by kernel_rfl)
  have f6 := valueOfPUnread
  have f7 := typePUnread
  have mK := methodKind
  have mE := methodElem
  have mI := methodImplements
  have k27 := kindPUnread
  have k25 := kindUnread
  have e27 := elemUnread
  have i25 := implementsUnread
  have hx1 := (Ext.refl w).alloc (.cells #[.pointer (some ⟨t, 0, none⟩)] 72)
  have d1 := cell_new w #[.pointer (some ⟨t, 0, none⟩)] 72 0
  have e1 : (w.alloc (.cells #[.pointer (some ⟨t, 0, none⟩)] 72)).heap.size = w.heap.size + 1 := by simp
  have hx2 := hx1.alloc (.cells #[.pointer (some ⟨2, 72, none⟩), .pointer (some ⟨w.heap.size, 0, none⟩), .int .u64 150] 104)
  have d2 := (((Ext.refl _).alloc (.cells #[.pointer (some ⟨2, 72, none⟩), .pointer (some ⟨w.heap.size, 0, none⟩), .int .u64 150] 104))).keep1 d1
  have n8 := isNilUnread ⟨w.heap.size, 0, none⟩ ⟨t, 0, none⟩ ((w.alloc (.cells #[.pointer (some ⟨t, 0, none⟩)] 72)).alloc (.cells #[.pointer (some ⟨2, 72, none⟩), .pointer (some ⟨w.heap.size, 0, none⟩), .int .u64 150] 104)) d2
  have hg2 := hx2.keep1 hg'
  have HT := hid (hx2.keep1 ht)
  have HF := hid ((hx2.frz (World.block_lt_of_cell? w _ ht)).trans hf)
  have HD := hid d2
  have HX2 := hid hx2
  clear hc hg hg' d1 d2 hx1 hx2 ht hf
  go_enter Tryd.func23, Tryd.ntmps23
  go_wp2_with fail
  refine (as_Unread_Misplaced _ HC.out w.heap.size t old _ HD.out HT.out HF.out _).mono ?_
  rintro e w3 ⟨rfl, hg3⟩
  have HG := hid hg3
  clear hg3
  go_wp2_with fail
  go_ret
  have h3 := HG.out
  have h2 := HX2.out
  exact ⟨rfl, h3.os.trans h2.os, h3.tape.trans h2.tape, h3.output.trans h2.output, Nat.le_trans h2.size h3.size, fun k hk hne => (h3.block k (Nat.lt_of_lt_of_le hk h2.size) hne).trans (h2.block k hk)⟩

set_option maxHeartbeats 4000000 in
set_option maxRecDepth 100000 in
/-- errors.as at a target of type Misplaced and a chain that ends in one of type Misplaced: true. -/
theorem as_Misplaced_Misplaced (err : Value) (hc : Chain 70 err) (a t : Nat) (old : Value) (w : World) (ha : w.cell? ⟨a, 0, none⟩ = some (.pointer (some ⟨t, 0, none⟩)))
    (ht : w.cell? ⟨t, 0, none⟩ = some old) (hf : w.frozen? ⟨t, 0, none⟩ = false) (tg : Value) :
    Calls Tryd.prog 48 #[err, tg, .agg #[.pointer (some ⟨2, 73, none⟩), .pointer (some ⟨a, 0, none⟩), .int .u64 150], .iface 125 (.agg #[.pointer (some ⟨2, 70, none⟩)])] w
      fun e w' => e = .returned (.bool true) ∧ w.grownBy w' (some t) := by
  have HC := hid hc
  have hta := World.block_lt_of_cell? w _ ha
  have htt := World.block_lt_of_cell? w _ ht
  simp only at hta htt
  have h131 := @run_callFunc_extern Tryd.prog 45 _ (fun args => ReflectliteValue.unpack (args.getD 0 (.tuple #[]))) Tryd.func45 (by kernel_rfl) (by kernel_rfl) (by kernel_rfl) (by kernel_rfl)
  have h141 := @run_callFunc_extern Tryd.prog 60 _ ReflectliteType.typeOf Tryd.func60 (by kernel_rfl) (by kernel_rfl) (by kernel_rfl) (by kernel_rfl)
  have h175 := @run_callFunc_extern Tryd.prog 101 _ (ReflectliteType.relation "AssignableTo" ReflectliteType.assignableTo) Tryd.func101 (by kernel_rfl) (by kernel_rfl) (by kernel_rfl) (by kernel_rfl)
  have h142 := @run_callFunc_extern Tryd.prog 61 _ (ReflectliteValue.method (ReflectliteValue.valueError "reflectlite.Value.Elem" 0) ReflectliteValue.elem) Tryd.func61 (by kernel_rfl) (by kernel_rfl) (by kernel_rfl) (by kernel_rfl)
  have h143 := @run_callFunc_extern Tryd.prog 62 _ ReflectliteValue.set Tryd.func62 (by kernel_rfl) (by kernel_rfl) (by kernel_rfl) (by kernel_rfl)
  have mA := methodAssignableTo
  have mU := methodUnwrap
  have bA := besideAs
  have bU := besideUnwrap
  have tB := typeOfBeside
  have a1 := assignBesideMisplaced
  have t1 := typeOfMisplaced
  have a2 := assignMisplaced
  have v1 := valueOfMisplaced
  have c1 := fun ob => ((Ext.refl w).alloc ob).keep1 ha
  have HA := hid ha
  have HT := hid ht
  have HF := hid hf
  clear hc ha ht hf
  go_enter Tryd.func48, Tryd.ntmps48
  go_wp2_with fail
  go_loopw [0] (fun e wr => Chain 70 e ∧ Ext w wr ∧ wr.cell? ⟨w.heap.size, 0, none⟩ = some (.pointer (some ⟨2, 73, none⟩)) ∧ wr.cell? ⟨w.heap.size, 1, none⟩ = some (.pointer (some ⟨a, 0, none⟩)) ∧ wr.cell? ⟨w.heap.size, 2, none⟩ = some (.int .u64 150)) (fun e _ => SizeOf.sizeOf e)
  case atStart => exact ⟨HC.out, (Ext.refl w).alloc _, cell_new _ _ _ 0, cell_new _ _ _ 1, cell_new _ _ _ 2⟩
  case round =>
    obtain ⟨hc, hx, q0, q1, q2⟩ := hrel
    have HX := hid hx
    clear hx
    cases hc with
    | base s =>
      have ha := HX.out.keep1 HA.out
      have el := elemVMisplaced ⟨a, 0, none⟩ ⟨t, 0, none⟩ wr ha
      have hx2 := HX.out.alloc (.cells #[.string s] 70)
      have st := setMisplaced t wr.heap.size s old (wr.alloc (.cells #[.string s] 70)) (cell_new _ _ _ 0) (hx2.keep1 HT.out) ((hx2.frz htt).trans HF.out)
      go_wp2_with fail
      go_ret
      exact ⟨rfl, grown_set hx2 _⟩
    | wrap x y v h =>
      obtain ⟨t1, u1, rfl⟩ := h.iface
      have HH := hid h
      clear h
      go_wp2_with fail
      refine (Unwrap_any x y _ _ ⟨_, _, rfl⟩).mono ?_
      rintro e w2 ⟨rfl, hx2⟩
      have HX2 := hid hx2
      clear hx2
      go_wp2_with fail
      go_roundw
      case rel => exact ⟨HH.out, HX.out.trans HX2.out, HX2.out.keep1 q0, HX2.out.keep1 q1, HX2.out.keep1 q2⟩
      case measure => exact chain_small

set_option maxHeartbeats 4000000 in
set_option maxRecDepth 100000 in
/-- errors.As at a target of type Misplaced. -/
theorem As_Misplaced_Misplaced (err : Value) (hc : Chain 70 err) (t : Nat) (old : Value) (w : World) (hg : ErrT w) (ht : w.cell? ⟨t, 0, none⟩ = some old) (hf : w.frozen? ⟨t, 0, none⟩ = false) :
    Calls Tryd.prog 23 #[err, .iface 73 (.pointer (some ⟨t, 0, none⟩))] w fun e w' => e = .returned (.bool true) ∧ w.grownBy w' (some t) := by
  obtain ⟨et, eu, rfl⟩ := hc.iface
  have HC := hid hc
  have hg' : w.cell? ⟨0, 0, none⟩ = some (.iface 125 (.agg #[.pointer (some ⟨2, 43, none⟩)])) := hg
  have h131 := @run_callFunc_extern Tryd.prog 45 _ (fun args => ReflectliteValue.unpack (args.getD 0 (.tuple #[]))) Tryd.func45 (by kernel_rfl) (by kernel_rfl) (by kernel_rfl) (by kernel_rfl)
  have h132 := @run_callFunc_extern Tryd.prog 46 _ (ReflectliteValue.methodAny (ReflectliteValue.valueError "reflectlite.Value.Type" 0) (fun t _ _ _ => ReflectliteType.toType t)) Tryd.func46 (by kernel_rfl) (by kernel_rfl) (by kernel_rfl) (by kernel_rfl)
  have h133 := @run_callFunc_extern Tryd.prog 47 _ (ReflectliteValue.method (ReflectliteValue.valueError "reflectlite.Value.IsNil" 0) ReflectliteValue.isNil) Tryd.func47 (by kernel_rfl) (by kernel_rfl) (by kernel_rfl) (by kernel_rfl)
  have h164 := @run_callFunc_extern Tryd.prog 89 _ (ReflectliteType.abiMethod fun t => do pure (.int .u8 (← Rtype.kind t))) Tryd.func89 (by kernel_rfl) (by kernel_rfl) (by kernel_rfl) (by kernel_rfl)
  have h177 := @run_callFunc_extern Tryd.prog 103 _ (ReflectliteType.method ReflectliteType.elem) Tryd.func103 (by kernel_rfl) (by kernel_rfl) (by kernel_rfl) (by kernel_rfl)
  have h178 := @run_callFunc_extern Tryd.prog 104 _ (ReflectliteType.relation "Implements" ReflectliteType.implements_) Tryd.func104 (by kernel_rfl) (by kernel_rfl) (by kernel_rfl) (by kernel_rfl)
  have f6 := valueOfPMisplaced
  have f7 := typePMisplaced
  have mK := methodKind
  have mE := methodElem
  have mI := methodImplements
  have k27 := kindPMisplaced
  have k25 := kindMisplaced
  have e27 := elemMisplaced
  have i25 := implementsMisplaced
  have hx1 := (Ext.refl w).alloc (.cells #[.pointer (some ⟨t, 0, none⟩)] 73)
  have d1 := cell_new w #[.pointer (some ⟨t, 0, none⟩)] 73 0
  have e1 : (w.alloc (.cells #[.pointer (some ⟨t, 0, none⟩)] 73)).heap.size = w.heap.size + 1 := by simp
  have hx2 := hx1.alloc (.cells #[.pointer (some ⟨2, 73, none⟩), .pointer (some ⟨w.heap.size, 0, none⟩), .int .u64 150] 104)
  have d2 := (((Ext.refl _).alloc (.cells #[.pointer (some ⟨2, 73, none⟩), .pointer (some ⟨w.heap.size, 0, none⟩), .int .u64 150] 104))).keep1 d1
  have n8 := isNilMisplaced ⟨w.heap.size, 0, none⟩ ⟨t, 0, none⟩ ((w.alloc (.cells #[.pointer (some ⟨t, 0, none⟩)] 73)).alloc (.cells #[.pointer (some ⟨2, 73, none⟩), .pointer (some ⟨w.heap.size, 0, none⟩), .int .u64 150] 104)) d2
  have hg2 := hx2.keep1 hg'
  have HT := hid (hx2.keep1 ht)
  have HF := hid ((hx2.frz (World.block_lt_of_cell? w _ ht)).trans hf)
  have HD := hid d2
  have HX2 := hid hx2
  clear hc hg hg' d1 d2 hx1 hx2 ht hf
  go_enter Tryd.func23, Tryd.ntmps23
  go_wp2_with fail
  refine (as_Misplaced_Misplaced _ HC.out w.heap.size t old _ HD.out HT.out HF.out _).mono ?_
  rintro e w3 ⟨rfl, hg3⟩
  have HG := hid hg3
  clear hg3
  go_wp2_with fail
  go_ret
  have h3 := HG.out
  have h2 := HX2.out
  exact ⟨rfl, h3.os.trans h2.os, h3.tape.trans h2.tape, h3.output.trans h2.output, Nat.le_trans h2.size h3.size, fun k hk hne => (h3.block k (Nat.lt_of_lt_of_le hk h2.size) hne).trans (h2.block k hk)⟩
end Go.Proofs.YtjohkmkgmbihkaaDoor
