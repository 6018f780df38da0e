import PyProof.Rows.All
import Wide.All
import OpenK.AllK
import Wide.FinOn
import PyProof.EqAt
import PyProof.EqKinds
import PyProof.TupleCall
import PyProof.NeKinds
import PyProof.TwoTypesSub
import HandS.Base
import HandS.Call
import HandS.List
import KE.KOpsOwn
import PyProof.ReprRoads
import PyProof.AutoIntOps
import HandS.Words
import HandS.Ends
import HandS.Comp
import HandS.Lambda
import HandS.Exc
import HandS.ExcInit
import HandS.ExcOwn
import HandS.ExcField
import HandS.IsInst
import HandS.Property
import HandS.Dict
import HandS.Iter
import HandS.WordsExc
import HandS.WordsDict
import HandS.WordsList
import HandS.MakeKw
import PyProof.ReprLen
import PyProof.P3Eq
import HandS.ExcIs
import PySem.Challenge.RW_tapedonce_k02_rows_read_set_and_pushed
set_option Elab.async false
set_option linter.all false
set_option maxRecDepth 100000
set_option maxHeartbeats 4400000
/-! operators between instances of an own class and ints, both ways -/
namespace HX
open PySem PySem.W PySem.Spec PySem.Calls PyProof.Rows
/-- the builtin declines the plain object at x -/
def Decl (B : Builtin) : Prop := ∀ (i : Int) (t : Tok) (x : Addr) (c : Value) (dd : Option Addr) (sl : Array (Option Value)),
  Meets (B ⟨[.int i t, .ref x], []⟩) (fun _ R s => s.heap.get? x = some { cls := c, dict := dd, data := .plain, slots := sl } ∧ R (.ok (.ret .notImplemented)) s)
theorem decl_add : Decl Builtin.«int.__add__» := fun i t x c dd sl => .of_wp fun prog w A R s h => by obtain ⟨hp, g, d, tk, os⟩ := s; obtain ⟨hl, h⟩ := h; wp_walk using AutoSeq1.wpAny_loadPart' hl, wpAny_load hl; exact ⟨_, rfl, h⟩
theorem decl_sub : Decl Builtin.«int.__sub__» := fun i t x c dd sl => .of_wp fun prog w A R s h => by obtain ⟨hp, g, d, tk, os⟩ := s; obtain ⟨hl, h⟩ := h; wp_walk using AutoSeq1.wpAny_loadPart' hl, wpAny_load hl; exact ⟨_, rfl, h⟩
theorem decl_mul : Decl Builtin.«int.__mul__» := fun i t x c dd sl => .of_wp fun prog w A R s h => by obtain ⟨hp, g, d, tk, os⟩ := s; obtain ⟨hl, h⟩ := h; wp_walk using AutoSeq1.wpAny_loadPart' hl, wpAny_load hl; exact ⟨_, rfl, h⟩
theorem decl_floordiv : Decl Builtin.«int.__floordiv__» := fun i t x c dd sl => .of_wp fun prog w A R s h => by obtain ⟨hp, g, d, tk, os⟩ := s; obtain ⟨hl, h⟩ := h; wp_walk using AutoSeq1.wpAny_loadPart' hl, wpAny_load hl; exact ⟨_, rfl, h⟩
theorem decl_eq : Decl Builtin.«int.__eq__» := fun i t x c dd sl => .of_wp fun prog w A R s h => by obtain ⟨hp, g, d, tk, os⟩ := s; obtain ⟨hl, h⟩ := h; wp_walk using AutoSeq1.wpAny_loadPart' hl, wpAny_load hl; exact ⟨_, rfl, h⟩
theorem decl_ne : Decl Builtin.«int.__ne__» := fun i t x c dd sl => .of_wp fun prog w A R s h => by obtain ⟨hp, g, d, tk, os⟩ := s; obtain ⟨hl, h⟩ := h; wp_walk using AutoSeq1.wpAny_loadPart' hl, wpAny_load hl; exact ⟨_, rfl, h⟩
theorem decl_lt : Decl Builtin.«int.__lt__» := fun i t x c dd sl => .of_wp fun prog w A R s h => by obtain ⟨hp, g, d, tk, os⟩ := s; obtain ⟨hl, h⟩ := h; wp_walk using AutoSeq1.wpAny_loadPart' hl, wpAny_load hl; exact ⟨_, rfl, h⟩
theorem decl_le : Decl Builtin.«int.__le__» := fun i t x c dd sl => .of_wp fun prog w A R s h => by obtain ⟨hp, g, d, tk, os⟩ := s; obtain ⟨hl, h⟩ := h; wp_walk using AutoSeq1.wpAny_loadPart' hl, wpAny_load hl; exact ⟨_, rfl, h⟩
theorem decl_gt : Decl Builtin.«int.__gt__» := fun i t x c dd sl => .of_wp fun prog w A R s h => by obtain ⟨hp, g, d, tk, os⟩ := s; obtain ⟨hl, h⟩ := h; wp_walk using AutoSeq1.wpAny_loadPart' hl, wpAny_load hl; exact ⟨_, rfl, h⟩
theorem decl_ge : Decl Builtin.«int.__ge__» := fun i t x c dd sl => .of_wp fun prog w A R s h => by obtain ⟨hp, g, d, tk, os⟩ := s; obtain ⟨hl, h⟩ := h; wp_walk using AutoSeq1.wpAny_loadPart' hl, wpAny_load hl; exact ⟨_, rfl, h⟩
end HX
set_option Elab.async false
set_option linter.all false
set_option maxRecDepth 100000
set_option maxHeartbeats 4400000
namespace HX
open PySem PySem.W PySem.Spec PySem.Calls PyProof.Rows
section
variable {prog : Program} {w : World} {A : Around} {E : Value → Shared → Prop} {s : Shared} {K : Frag} {x C L f g : Addr} {h₀ : Heap} {m : Str → Option Value} {ox : Obj} {od : Option Obj}
theorem looks_nip {M : Model} {h : Heap} {nm : String} (X : K.In h) (hs : findIn K (.ref C) (PySem.dunder nm) = some (some (.ref f))) (hr : findIn K (.ref C) (dunderR nm) = some (some (.ref g))) : Looks M h (numberSlotInPython (.ref C) nm) true := by
  intro A Q E s k q
  unfold numberSlotInPython
  refine wpAny_bind (looks_findIn X hs A _ E s k (wpAny_bind (wpAny_pure ?_)))
  refine wpAny_bind (looks_findIn X hr A _ E s k (wpAny_bind (wpAny_pure ?_)))
  simp only [Bool.or_true, if_true]
  exact wpAny_pure q
theorem binop1_KI {nm : String} {i : Int} {t : Tok} {idr : String} {Q : Option Value → Shared → Prop} (F : Fr h₀ L s.heap m) (X₀ : K.In h₀) (I : InstAt s.heap x ox C od) (hc : selfFirst K C = true)
    (hs : findIn K (.ref C) (PySem.dunder nm) = some (some (.ref f))) (hf : isFn K (.ref f) = true) (hr : findIn K (.ref C) (dunderR nm) = some (some (.ref g)))
    (hfi : fillsNumberSlot (.type "int") nm = pure true) (hni : subIn K (.type "int") (.ref C) = some false) (hri : typeLookup (.type "int") (dunderR nm) = pure (some (.builtin idr)))
    (h : wpAny (model prog w) A (call (.ref f) [.ref x, .int i t]) (W.CmpBack fun v s' => Q (some v) s') E s) : wpAny (model prog w) A (binaryOp1 nm (.ref x) (.int i t)) Q E s := by
  have X := X₀.keeps F.keep
  obtain ⟨cd, rest, hcd, hm⟩ := ksp_first hc
  have hpy : numberSlotInPython (.type "int") nm = pure false := rfl
  have hne : (Value.ref C == Value.type "int") = false := by simp
  unfold binaryOp1
  refine wpAny_bind (I.type.here (wpAny_bind (wpAny_typeOf (typeIs_int s i t) (wpAny_bind ((fills_K X hcd hm hs).here ?_))))); simp only [hne, Bool.false_eq_true, if_false]
  refine wpAny_bind (wpAny_of_eq hfi ?_); simp only [Bool.and_self, if_true]
  refine wpAny_bind ((looks_subIn X hni).here ?_)
  simp only [Bool.false_eq_true, if_false, pure_bind, Bool.not_false, Bool.and_self, if_true]
  refine wpAny_bind ((looks_nip X hs hr).here ?_)
  simp only [hpy, pure_bind, if_true, Bool.not_false]
  refine wpAny_bind (wpAny_of_eq hri ?_)
  unfold tryMethod
  refine wpAny_bind (wpAny_bind (special_fn X I hs (beq_iff_eq.mp hf) (wpAny_mono h (fun v s' hv => ?_) fun _ _ e => e)))
  cases v <;> first | exact hv.elim | exact wpAny_pure (wpAny_pure hv)
theorem binop_KI {op : Operator} {i : Int} {t : Tok} {idr : String} {Q : Value → Shared → Prop} (F : Fr h₀ L s.heap m) (X₀ : K.In h₀) (I : InstAt s.heap x ox C od) (hc : selfFirst K C = true)
    (hs : findIn K (.ref C) (PySem.dunder op.info.2) = some (some (.ref f))) (hf : isFn K (.ref f) = true) (hr : findIn K (.ref C) (dunderR op.info.2) = some (some (.ref g)))
    (hfi : fillsNumberSlot (.type "int") op.info.2 = pure true) (hni : subIn K (.type "int") (.ref C) = some false) (hri : typeLookup (.type "int") (dunderR op.info.2) = pure (some (.builtin idr)))
    (h : wpAny (model prog w) A (call (.ref f) [.ref x, .int i t]) (W.CmpBack Q) E s) : wpAny (model prog w) A (binaryOp op (.ref x) (.int i t)) Q E s := by
  unfold binaryOp; refine wpAny_holding (wpAny_bind ?_)
  refine binop1_KI F X₀ I hc hs hf hr hfi hni hri (wpAny_mono h (fun v s' hv => ?_) fun _ _ e => e)
  cases v <;> first | exact hv.elim | exact wpAny_pure hv
/-- int op instance: the reflected method -/
theorem binop1_IK {nm : String} {i : Int} {t : Tok} {id : String} {B : Builtin} {Q : Option Value → Shared → Prop} (F : Fr h₀ L s.heap m) (X₀ : K.In h₀) (I : InstAt s.heap x ox C od) (hp : ox.data = .plain) (hc : selfFirst K C = true)
    (hs : findIn K (.ref C) (PySem.dunder nm) = some (some (.ref g))) (hr : findIn K (.ref C) (dunderR nm) = some (some (.ref f))) (hf : isFn K (.ref f) = true)
    (hfi : fillsNumberSlot (.type "int") nm = pure true) (hni : subIn K (.ref C) (.type "int") = some false) (slot : Slot "int" (PySem.dunder nm) id) (entry : entryFor table id = some B) (args : ∀ a b, argsOk id ⟨[a, b], []⟩) (D : Decl B)
    (h : wpAny (model prog w) A (call (.ref f) [.ref x, .int i t]) (W.CmpBack fun v s' => Q (some v) s') E s) : wpAny (model prog w) A (binaryOp1 nm (.int i t) (.ref x)) Q E s := by
  have X := X₀.keeps F.keep
  obtain ⟨cd, rest, hcd, hm⟩ := ksp_first hc
  have hpy : numberSlotInPython (.type "int") nm = pure false := rfl
  have hne : (Value.type "int" == Value.ref C) = false := by simp
  obtain ⟨oc, odd, odt, osl⟩ := ox
  simp only at hp
  subst hp
  have hx := I.at_
  unfold binaryOp1
  refine wpAny_bind (wpAny_typeOf (typeIs_int s i t) (wpAny_bind (I.type.here (wpAny_bind (wpAny_of_eq hfi ?_))))); simp only [hne, Bool.false_eq_true, if_false]
  refine wpAny_bind ((fills_K X hcd hm hs).here ?_); simp only [Bool.and_self, if_true]
  refine wpAny_bind ((looks_subIn X hni).here ?_); simp only [hpy, Bool.false_eq_true, if_false, pure_bind, Bool.not_false, Bool.and_self, if_true]
  refine wpAny_bind (wpAny_tryMethod_declines (typeIs_int s i t) slot (call_meets slot (typeIs_int s i t) entry (args _ _) (D i t x _ _ _) ⟨hx, ?_⟩))
  refine ⟨rfl, ?_⟩
  unfold tryMethod
  refine wpAny_bind (wpAny_bind (special_fn X I hr (beq_iff_eq.mp hf) (wpAny_mono h (fun v s' hv => ?_) fun _ _ e => e)))
  cases v <;> first | exact hv.elim | exact wpAny_pure (wpAny_bind (wpAny_rule (wpAny_pure hv)))
theorem binop_IK {op : Operator} {i : Int} {t : Tok} {id : String} {B : Builtin} {Q : Value → Shared → Prop} (F : Fr h₀ L s.heap m) (X₀ : K.In h₀) (I : InstAt s.heap x ox C od) (hp : ox.data = .plain) (hc : selfFirst K C = true)
    (hs : findIn K (.ref C) (PySem.dunder op.info.2) = some (some (.ref g))) (hr : findIn K (.ref C) (dunderR op.info.2) = some (some (.ref f))) (hf : isFn K (.ref f) = true)
    (hfi : fillsNumberSlot (.type "int") op.info.2 = pure true) (hni : subIn K (.ref C) (.type "int") = some false) (slot : Slot "int" (PySem.dunder op.info.2) id) (entry : entryFor table id = some B) (args : ∀ a b, argsOk id ⟨[a, b], []⟩) (D : Decl B)
    (h : wpAny (model prog w) A (call (.ref f) [.ref x, .int i t]) (W.CmpBack Q) E s) : wpAny (model prog w) A (binaryOp op (.int i t) (.ref x)) Q E s := by
  unfold binaryOp; refine wpAny_holding (wpAny_bind ?_)
  refine binop1_IK F X₀ I hp hc hs hr hf hfi hni slot entry args D (wpAny_mono h (fun v s' hv => ?_) fun _ _ e => e)
  cases v <;> first | exact hv.elim | exact wpAny_pure hv
/-- int < instance: the reflected comparison -/
theorem cmp_IK {op : CmpOp} {i : Int} {t : Tok} {id : String} {B : Builtin} {Q : Value → Shared → Prop} (hu : A.units < cLine) (F : Fr h₀ L s.heap m) (X₀ : K.In h₀) (I : InstAt s.heap x ox C od) (hp : ox.data = .plain)
    (hr : findIn K (.ref C) (cmpInfo op).2.2 = some (some (.ref f))) (hf : isFn K (.ref f) = true) (hni : subIn K (.ref C) (.type "int") = some false)
    (slot : Slot "int" (cmpInfo op).2.1 id) (entry : entryFor table id = some B) (args : ∀ a b, argsOk id ⟨[a, b], []⟩) (D : Decl B)
    (h : wpAny (model prog w) A (call (.ref f) [.ref x, .int i t]) (W.CmpBack Q) E s) : wpAny (model prog w) A (richCompare op (.int i t) (.ref x)) Q E s := by
  have X := X₀.keeps F.keep
  have hne : (Value.type "int" != Value.ref C) = true := by simp
  obtain ⟨oc, odd, odt, osl⟩ := ox
  simp only at hp
  subst hp
  have hx := I.at_
  have one : wpAny (model prog w) A (tryCompare (.ref x) (cmpInfo op).2.2 (.int i t)) (fun r s' => ∃ v, r = some v ∧ Q v s') E s := by
    unfold tryCompare
    refine wpAny_bind (ifBound_K X I hr hf (wpAny_mono h (fun v s' hv => ?_) fun _ _ e => e)); cases v <;> first | exact hv.elim | exact wpAny_pure ⟨_, rfl, hv⟩
  unfold richCompare
  have ho : oneThing? op (.int i t) (.ref x) = none := by cases op <;> rfl
  simp only [ho]; refine wpAny_holding (wpAny_bind (wpAny_cRoomFor hu ?_))
  refine wpAny_bind (wpAny_typeOf (typeIs_int s i t) (wpAny_bind (I.type.here ?_)))
  rw [if_pos hne]
  refine wpAny_bind ((looks_subIn X hni).here ?_); simp only [Bool.false_eq_true, if_false, Bool.not_false, if_true]
  refine wpAny_bind (wpAny_tryCompare_declines (typeIs_int s i t) slot (call_meets slot (typeIs_int s i t) entry (args _ _) (D i t x _ _ _) ⟨hx, ?_⟩))
  refine ⟨rfl, wpAny_bind (wpAny_mono one (fun r s' z => ?_) fun _ _ e => e)⟩
  obtain ⟨v, rfl, hq⟩ := z
  exact wpAny_pure hq
end
end HX
set_option Elab.async false
set_option linter.all false
set_option maxRecDepth 100000
set_option maxHeartbeats 4400000
namespace HX
open L2 PyProof.Rows PySem.Spec PySem
section
variable {X : Cx}
/-- what stands behind a method's call is never NotImplemented -/
theorem ep_back {pins : List (Addr × Obj)} {σ : L2.St} {Q : VK} {u : Value} {s' : Shared} (h : EP X pins σ Q u s') : PySem.W.CmpBack (EP X pins σ Q) u s' := by
  have h' := h
  obtain ⟨v, H', I', r, q⟩ := h
  have ne : u ≠ .notImplemented := by
    intro z
    subst z
    cases v <;> first | (obtain ⟨t, z⟩ := r; cases z; done) | cases r
  cases u <;> first | exact absurd rfl ne | exact h'
/-- the facts of an int's operator -/
structure IntOp (op : Operator) : Prop where
  fi : fillsNumberSlot (.type "int") op.info.2 = pure true
  ri : ∃ idr, typeLookup (.type "int") (dunderR op.info.2) = pure (some (.builtin idr))
  le : ∃ (id : String) (B : Builtin), Slot "int" (PySem.dunder op.info.2) id ∧ entryFor table id = some B ∧ (∀ a b, argsOk id ⟨[a, b], []⟩) ∧ Decl B
theorem io_add : IntOp .Add := ⟨F.fills_int_add, ⟨_, F.slot_int_radd.lookup⟩, _, _, F.slot_int_add, F.entry_int_add, F.args_int_add_2, decl_add⟩
theorem io_sub : IntOp .Sub := ⟨F.fills_int_sub, ⟨_, F.slot_int_rsub.lookup⟩, _, _, F.slot_int_sub, F.entry_int_sub, F.args_int_sub_2, decl_sub⟩
theorem io_mul : IntOp .Mult := ⟨F.fills_int_mul, ⟨_, F.slot_int_rmul.lookup⟩, _, _, F.slot_int_mul, F.entry_int_mul, F.args_int_mul_2, decl_mul⟩
theorem io_fdv : IntOp .FloorDiv := ⟨F.fills_int_floordiv, ⟨_, F.slot_int_rfloordiv.lookup⟩, _, _, F.slot_int_floordiv, F.entry_int_floordiv, F.args_int_floordiv_2, decl_floordiv⟩
structure IntCmp (op : CmpOp) : Prop where
  le : ∃ (id : String) (B : Builtin), Slot "int" (cmpInfo op).2.1 id ∧ entryFor table id = some B ∧ (∀ a b, argsOk id ⟨[a, b], []⟩) ∧ Decl B
theorem ic_eq : IntCmp .Eq := ⟨_, _, F.slot_int_eq, F.entry_int_eq, F.args_int_eq_2, decl_eq⟩
theorem ic_ne : IntCmp .NotEq := ⟨_, _, F.slot_int_ne, F.entry_int_ne, F.args_int_ne_2, decl_ne⟩
theorem ic_lt : IntCmp .Lt := ⟨_, _, F.slot_int_lt, F.entry_int_lt, F.args_int_lt_2, decl_lt⟩
theorem ic_le : IntCmp .LtE := ⟨_, _, F.slot_int_le, F.entry_int_le, F.args_int_le_2, decl_le⟩
theorem ic_gt : IntCmp .Gt := ⟨_, _, F.slot_int_gt, F.entry_int_gt, F.args_int_gt_2, decl_gt⟩
theorem ic_ge : IntCmp .GtE := ⟨_, _, F.slot_int_ge, F.entry_int_ge, F.args_int_ge_2, decl_ge⟩
/-- the class's own operator and its reflected one -/
structure ArC (K : PySem.W.Frag) (C : Addr) (op : Operator) (f g : Addr) : Prop where
  sf : PySem.W.selfFirst K C = true
  hs : PySem.W.findIn K (.ref C) (PySem.dunder op.info.2) = some (some (.ref f))
  hf : PySem.W.isFn K (.ref f) = true
  hr : PySem.W.findIn K (.ref C) (dunderR op.info.2) = some (some (.ref g))
  hg : PySem.W.isFn K (.ref g) = true
  n1 : PySem.W.subIn K (.type "int") (.ref C) = some false
  n2 : PySem.W.subIn K (.ref C) (.type "int") = some false
def isI (C : Addr) (H : Hp) (x : V) : Prop := ∃ a dx fs, x = .ref a ∧ H a = some (.ins C dx fs)
theorem isI_inst {pins : List (Addr × Obj)} {σ : L2.St} {H : Hp} {s : Shared} {C a dx : Addr} {fs : List (Str × V)} (I : Inv X pins σ H s) (e : H a = some (.ins C dx fs)) : ∃ od, PySem.W.InstAt s.heap a (PySem.W.instObj C dx) C od := by
  obtain ⟨mA, O, _⟩ := ins_get I.hok e
  obtain ⟨od, J, _⟩ := O.look
  exact ⟨_, J⟩
/-- x op y, one of the two at least an instance of the class at C, the other one too, or an int -/
def rOwn (C : Addr) (sp spR : Sp) (E : XK) : R2 := fun x y H Q => (isI C H x ∧ (isI C H y ∨ ∃ i, y = .int i) ∧ sp [x, y] H Q E) ∨ (isI C H y ∧ (∃ i, x = .int i) ∧ spR [y, x] H Q E)
theorem op_own {op : Operator} {CX : CXT} {C f g : Addr} {k : Nat} {fd gd : FuncData} {ps ps' : List Str} {sp spR : Sp} {E : XK} (IO : IntOp op) (T : ArC X.K C op f g) (F1 : FnOk X.prog X.w X.K X.mg X.base CX k f fd ps sp) (b1 : Binds X.K fd ps [])
    (F2 : FnOk X.prog X.w X.K X.mg X.base CX k g gd ps' spR) (b2 : Binds X.K gd ps' []) (hr : Room k X.A) (hx : Passes CX X E) : OpR X (binaryOp op) (rOwn C sp spR E) := by
  intro pins s σ H x y v u; intro Q I rx ry h
  obtain ⟨m, hF⟩ := I.fr
  rcases h with ⟨⟨a, dx, fs, rfl, ea⟩, hy, q⟩ | ⟨⟨b, dx, fs, rfl, eb⟩, ⟨i, rfl⟩, q⟩
  · obtain ⟨od, J⟩ := isI_inst I ea
    cases (id rx : v = Value.ref a)
    rcases hy with ⟨b, dy, gs, rfl, eb⟩ | ⟨i, rfl⟩
    · obtain ⟨od', J'⟩ := isI_inst I eb
      cases (id ry : u = Value.ref b)
      exact PySem.W.binop_K hF I.ok.mod.kin J J'.type T.sf T.hs T.hf (thn (run_fn (us := [.ref a, .ref b]) (vs := [.ref a, .ref b]) F1 hr b1 .nil hx I (.cons rfl (.cons rfl .nil)) q) fun u s' z => ep_back z)
    · obtain ⟨t, e⟩ := (show ∃ t, u = Value.int i t from ry)
      subst e
      obtain ⟨idr, ri⟩ := IO.ri
      exact binop_KI hF I.ok.mod.kin J T.sf T.hs T.hf T.hr IO.fi T.n1 ri (thn (run_fn (us := [.ref a, .int i t]) (vs := [.ref a, .int i]) F1 hr b1 .nil hx I (.cons rfl (.cons ⟨t, rfl⟩ .nil)) q) fun u s' z => ep_back z)
  · obtain ⟨od, J⟩ := isI_inst I eb
    cases (id ry : u = Value.ref b)
    obtain ⟨t, e⟩ := (show ∃ t, v = Value.int i t from rx)
    subst e
    obtain ⟨id, B, sl, en, ar, D⟩ := IO.le
    exact binop_IK hF I.ok.mod.kin J rfl T.sf T.hs T.hr T.hg IO.fi T.n2 sl en ar D (thn (run_fn (us := [.ref b, .int i t]) (vs := [.ref b, .int i]) F2 hr b2 .nil hx I (.cons rfl (.cons ⟨t, rfl⟩ .nil)) q) fun u s' z => ep_back z)
structure CmC (K : PySem.W.Frag) (C : Addr) (op : CmpOp) (f g : Addr) : Prop where
  hs : PySem.W.findIn K (.ref C) (cmpInfo op).2.1 = some (some (.ref f))
  hf : PySem.W.isFn K (.ref f) = true
  hr : PySem.W.findIn K (.ref C) (cmpInfo op).2.2 = some (some (.ref g))
  hg : PySem.W.isFn K (.ref g) = true
  nc : PySem.W.notFirst K C (.ref C) = true
  n1 : PySem.W.notFirst K C (.type "int") = true
  n2 : PySem.W.subIn K (.ref C) (.type "int") = some false
theorem op_cmpW {op : CmpOp} {CX : CXT} {C f g : Addr} {k : Nat} {fd gd : FuncData} {ps ps' : List Str} {sp spR : Sp} {E : XK} (IO : IntCmp op) (T : CmC X.K C op f g) (F1 : FnOk X.prog X.w X.K X.mg X.base CX k f fd ps sp) (b1 : Binds X.K fd ps [])
    (F2 : FnOk X.prog X.w X.K X.mg X.base CX k g gd ps' spR) (b2 : Binds X.K gd ps' []) (hr : Room k X.A) (hx : Passes CX X E) : OpR X (richCompare op) (rOwn C sp spR E) := by
  intro pins s σ H x y v u; intro Q I rx ry h
  obtain ⟨m, hF⟩ := I.fr
  have hu := hr.units0
  rcases h with ⟨⟨a, dx, fs, rfl, ea⟩, hy, q⟩ | ⟨⟨b, dx, fs, rfl, eb⟩, ⟨i, rfl⟩, q⟩
  · obtain ⟨od, J⟩ := isI_inst I ea
    cases (id rx : v = Value.ref a)
    rcases hy with ⟨b, dy, gs, rfl, eb⟩ | ⟨i, rfl⟩
    · obtain ⟨od', J'⟩ := isI_inst I eb
      cases (id ry : u = Value.ref b)
      exact PySem.W.cmp_K hu hF I.ok.mod.kin J J'.type T.nc T.hs T.hf (thn (run_fn (us := [.ref a, .ref b]) (vs := [.ref a, .ref b]) F1 hr b1 .nil hx I (.cons rfl (.cons rfl .nil)) q) fun u s' z => ep_back z)
    · obtain ⟨t, e⟩ := (show ∃ t, u = Value.int i t from ry)
      subst e
      exact PySem.W.cmp_K hu hF I.ok.mod.kin J (fun A Q E s k q => wpAny_typeOf (typeIs_int s i t) q) T.n1 T.hs T.hf (thn (run_fn (us := [.ref a, .int i t]) (vs := [.ref a, .int i]) F1 hr b1 .nil hx I (.cons rfl (.cons ⟨t, rfl⟩ .nil)) q) fun u s' z => ep_back z)
  · obtain ⟨od, J⟩ := isI_inst I eb
    cases (id ry : u = Value.ref b)
    obtain ⟨t, e⟩ := (show ∃ t, v = Value.int i t from rx)
    subst e
    obtain ⟨id, B, sl, en, ar, D⟩ := IO.le
    exact cmp_IK hu hF I.ok.mod.kin J rfl T.hr T.hg T.n2 sl en ar D (thn (run_fn (us := [.ref b, .int i t]) (vs := [.ref b, .int i]) F2 hr b2 .nil hx I (.cons rfl (.cons ⟨t, rfl⟩ .nil)) q) fun u s' z => ep_back z)
/-- -x of an own class -/
def rNegO (C : Addr) (sp : Sp) (E : XK) : V → Hp → VK → Prop := fun x H Q => isI C H x ∧ sp [x] H Q E
theorem un_negO {CX : CXT} {C f : Addr} {k : Nat} {fd : FuncData} {ps : List Str} {sp : Sp} {E : XK} (hs : PySem.W.findIn X.K (.ref C) "__neg__" = some (some (.ref f))) (hf : PySem.W.isFn X.K (.ref f) = true) (F1 : FnOk X.prog X.w X.K X.mg X.base CX k f fd ps sp)
    (b1 : Binds X.K fd ps []) (hr : Room k X.A) (hx : Passes CX X E) : UnR X (unaryOp .USub) (rNegO C sp E) := by
  intro pins s σ H x v Q I rx h
  obtain ⟨m, hF⟩ := I.fr
  obtain ⟨⟨a, dx, fs, rfl, ea⟩, q⟩ := h
  obtain ⟨od, J⟩ := isI_inst I ea
  cases (id rx : v = Value.ref a)
  exact PySem.W.ksp_neg hF I.ok.mod.kin J hs hf (run_fn (us := [.ref a]) (vs := [.ref a]) F1 hr b1 .nil hx I (.cons rfl .nil) q)
end
end HX
set_option Elab.async false
set_option linter.all false
set_option maxRecDepth 100000
set_option maxHeartbeats 4400000
namespace HX
open L2 PyProof.Rows PySem.Spec PySem
/-- a def's promise where no repr is under way around the call -/
structure FnG (P : Program) (w : World) (K : PySem.W.Frag) (mg : Str → Option Value) (base : Heap) (CX : CXT) (k : Nat) (f : Addr) (fd : FuncData) (ps : List Str) (sp : Sp) : Prop where
  ln : ∀ vs H Q E, sp vs H Q E → vs.length = ps.length
  go : ∀ (A : Around) (outer : List Env) (s : Shared) (H : Hp) (args : Args) (us : List Value) (vs : List V) (Q : VK) (E : XK), A.guards = some [] → Room k A → Env0 P w K mg base A outer s H → BindsTo s fd args (ps.zip us) → Vals vs us →
    sp vs H Q E → codeAny (model P w) A (.call (.ref f) args) (CR CX outer P w H s Q E) s
theorem FnG.of {P : Program} {w : World} {K : PySem.W.Frag} {mg : Str → Option Value} {base : Heap} {CX : CXT} {k : Nat} {f : Addr} {fd : FuncData} {ps : List Str} {sp : Sp} (F : FnOk P w K mg base CX k f fd ps sp) : FnG P w K mg base CX k f fd ps sp :=
  ⟨F.len, fun A o s H args us vs Q E _ => F.run A o s H args us vs Q E⟩
/-- a def by its body, for FnG; exceptions may leave -/
theorem okG {CX : CXT} {P : Program} {w : World} {K : PySem.W.Frag} {mg : Str → Option Value} {base : Heap} {x qual : Str} {st : Stmt} {f : Addr} {fd : FuncData} {N ps : List Str} {k : Nat} {sp : Sp} (F : Fun K x qual st f fd) (S : FnScope N ps (defScope st)) (len : ∀ vs H Q E, sp vs H Q E → vs.length = ps.length)
    (hbody : ∀ (cdv : Value) (A : Around) (outer : List Env) (s : Shared) (H : Hp) (vs : List V) (Q : VK) (E : XK), A.guards = some [] → Room k (A.deeper (envOfC qual (defScope st) s.heap.objs.size f cdv)) → sp vs H Q E →
      ∃ t, PSs (cxOf CX P w K mg base N qual (defScope st) f cdv A outer s H E) (defBody st) t ∧ t { nx := fun _ H' => Q .non H', rt := Q } (L2.start N vs) H) : FnG P w K mg base CX (k + 1) f fd ps sp := by
  let ⟨oc, od, kV, doc, pm, an, cdv, ct, osl, e0, lk, hcd⟩ := F.ex; subst e0
  exact ⟨len, fun A o s H args us vs Q E hg hr e0 hb r hsp => LamX.run_ofS lk hcd S hr e0 hb r (len _ _ _ _ hsp) fun hr' => hbody cdv A o s H vs Q E hg hr' hsp⟩
/-- .. no exception leaves -/
theorem okG0 {P : Program} {w : World} {K : PySem.W.Frag} {mg : Str → Option Value} {base : Heap} {x qual : Str} {st : Stmt} {f : Addr} {fd : FuncData} {N ps : List Str} {k : Nat} {sp : Sp} (F : Fun K x qual st f fd) (S : FnScope N ps (defScope st)) (len : ∀ vs H Q E, sp vs H Q E → vs.length = ps.length)
    (hbody : ∀ (cdv : Value) (A : Around) (outer : List Env) (s : Shared) (H : Hp) (vs : List V) (Q : VK) (E : XK), A.guards = some [] → Room k (A.deeper (envOfC qual (defScope st) s.heap.objs.size f cdv)) → sp vs H Q E →
      ∃ t, PSs (cxOf CX0 P w K mg base N qual (defScope st) f cdv A outer s H E).nox (defBody st) t ∧ t { nx := fun _ H' => Q .non H', rt := Q } (L2.start N vs) H) : FnG P w K mg base CX0 (k + 1) f fd ps sp :=
  okG F S len fun cdv A outer s H vs Q E hg hr h => let ⟨t, p, q⟩ := hbody cdv A outer s H vs Q E hg hr h; ⟨t, p.nox, q⟩
section
variable {sp : Sp} {CX : CXT} {X : Cx} {k : Nat} {f C : Addr} {fd : FuncData} {ps : List Str} {dvs : List V} {ds : List Value} {E : XK} {x m : Str} {p pos apos : Pos} {e o : Expr} {es : List Expr} {ta : TE} {t : TA}
theorem run_g {pins : List (Addr × Obj)} {σ : L2.St} {H : Hp} {s : Shared} {Q : VK} {us : List Value} {vs : List V} (hgd : X.A.guards = some []) (F : FnG X.prog X.w X.K X.mg X.base CX k f fd ps sp) (hr : Room k X.A) (hb : Binds X.K fd ps ds) (hd : Vals dvs ds) (hx : Passes CX X E)
    (I : L2.Inv X pins σ H s) (r : Vals vs us) (h : sp (vs ++ dvs) H Q E) : wpAny (model X.prog X.w) X.A (call (.ref f) us) (EP X pins σ Q) X.xe s := by
  have rr : Vals (vs ++ dvs) (us ++ ds) := r.append hd; have hl : (us ++ ds).length = ps.length := rr.length.symm.trans (F.ln _ _ _ _ h)
  refine wpAny_call (codeAny_mono (F.go X.A X.stack s H ⟨us, []⟩ (us ++ ds) (vs ++ dvs) Q E hgd hr I.env0 (hb s us I.kIn hl) rr h) fun z s' hq => ?_)
  match z, hq with
  | .error er, hq => exact hx pins σ H s er s' I hq
  | .ok (.ret u), hq => exact I.after hq
  | .ok .next, hq => exact False.elim hq
  | .ok .brk, hq => exact False.elim hq
  | .ok .cont, hq => exact False.elim hq
theorem pe_callG (hgd : X.A.guards = some []) (F : FnG X.prog X.w X.K X.mg X.base CX k f fd ps sp) (hr : Room k X.A) (hg : Gl X x) (hm : X.mg x = some (.ref f)) (hk : PySem.W.keepIn X.K (.ref f) = true) (hb : Binds X.K fd ps ds) (hd : Vals dvs ds) (hx : Passes CX X E) (ha : PA X (e :: es) t)
    (hdb : (x == ("__debug__" : Str)) = false := by decide) (he : starEach (e :: es) X.env = (false, eval e X.env) :: starEach es X.env := by rfl) (hpl : (backTo pos (starEach es X.env)).any (·.1) = false := by rfl) :
    PE X (.Call (.Name x p) (e :: es) [] pos) (tCall sp dvs E t) := ⟨fun pins s σ H Q I h => wpAny_Call_Name_kw (ld_glob I hg hm (PySem.W.callWith_K (h₀ := X.base) I.ok.mod.kin hk (thn (ha.run pos pins s σ H _ I h) fun us s1 z => by
      obtain ⟨vs, H1, I1, r, q⟩ := z; exact ⟨I1.kIn, run_g hgd F hr hb hd hx I1 r q⟩) he hpl) hdb)⟩
end
/-- data at any depth, dicts too -/
inductive Dq (K : PySem.W.Frag) (H : Hp) : V → PyData → Prop
  | non : Dq K H .non .none
  | bl (b : Bool) : Dq K H (.bl b) (.bool b)
  | int (i : Int) : Dq K H (.int i) (.int i)
  | str (x : Str) : Dq K H (.str x) (.str x)
  | lst {a : Addr} {xs : List V} {ds : List PyData} : SqL K H a xs → xs.length = ds.length → (∀ (i : Nat) (v : V) (d : PyData), xs[i]? = some v → ds[i]? = some d → Dq K H v d) → Dq K H (.ref a) (.list ds)
  | tup {a : Addr} {xs : List V} {ds : List PyData} : SqT K H a xs → xs.length = ds.length → (∀ (i : Nat) (v : V) (d : PyData), xs[i]? = some v → ds[i]? = some d → Dq K H v d) → Dq K H (.ref a) (.tuple ds)
section
variable {H : Hp} {X : Cx} {σ : L2.St} {pins : List (Addr × Obj)} {s : Shared}
theorem readsAll_of {h : Heap} : ∀ {us : List Value} {ds : List PyData}, us.length = ds.length → (∀ (i : Nat) (u : Value) (d : PyData), us[i]? = some u → ds[i]? = some d → ∃ as, Reads h u d as) → ∃ as, ReadsAll h us ds as
  | [], [], _, _ => ⟨_, .nil⟩
  | [], _ :: _, z, _ | _ :: _, [], z, _ => by simp at z
  | u :: us, d :: ds, hl, h => by
    obtain ⟨as, q1⟩ := h 0 u d rfl rfl
    obtain ⟨bs, q2⟩ := readsAll_of (us := us) (ds := ds) (by simpa using hl) fun i u d e1 e2 => h (i + 1) u d (by simpa using e1) (by simpa using e2)
    exact ⟨_, .cons q1 q2⟩
theorem Dq.reads (I : L2.Inv X pins σ H s) {v : V} {d : PyData} (h : Dq X.K H v d) : ∀ u, RelV v u → ∃ as, Reads s.heap u d as := by
  induction h with
  | non => intro u r; cases r; exact ⟨_, .none⟩
  | bl b => intro u r; cases r; exact ⟨_, .bool b⟩
  | int i => intro u r; obtain ⟨t, rfl⟩ := r; exact ⟨_, .int i t⟩
  | str x => intro u r; obtain ⟨t, rfl⟩ := r; exact ⟨_, .str x t⟩
  | @lst a xs ds hs hl hi ih =>
    intro u r
    cases r
    obtain ⟨its, rv, ⟨o, m, ho, hc, _, hd⟩, _⟩ := I.list hs
    obtain ⟨as, q⟩ := readsAll_of (h := s.heap) (us := its) (ds := ds) (rv.length.symm.trans hl) fun i u d e1 e2 => by
      obtain ⟨v, hv⟩ : ∃ v, xs[i]? = some v := ⟨_, List.getElem?_eq_getElem (by have := (List.getElem?_eq_some_iff.mp e1).1; rw [rv.length]; exact this)⟩
      obtain ⟨u', hu, ru⟩ := rv.get hv; rw [e1] at hu; cases hu
      exact ih i v d hv e2 u ru
    exact ⟨_, .list ho hc hd q⟩
  | @tup a xs ds hs hl hi ih =>
    intro u r
    cases r
    obtain ⟨its, rv, ⟨o, ho, hc, m, hd⟩, _⟩ := I.tuple hs
    obtain ⟨as, q⟩ := readsAll_of (h := s.heap) (us := its) (ds := ds) (rv.length.symm.trans hl) fun i u d e1 e2 => by
      obtain ⟨v, hv⟩ : ∃ v, xs[i]? = some v := ⟨_, List.getElem?_eq_getElem (by have := (List.getElem?_eq_some_iff.mp e1).1; rw [rv.length]; exact this)⟩
      obtain ⟨u', hu, ru⟩ := rv.get hv; rw [e1] at hu; cases hu
      exact ih i v d hv e2 u ru
    exact ⟨_, .tuple ho hc hd q⟩
end
section
variable {X : Cx}
/-- repr of such data -/
def rRepr (K : PySem.W.Frag) : List V → Hp → VK → Prop := fun xs H Q => ∃ v d, xs = [v] ∧ Dq K H v d ∧ d.showable = true ∧ d.hasDict = false ∧ d.depth ≤ 60 ∧ d.shown.length ≤ sizeLine ∧ Q (.str d.shown) H
theorem call_reprD (hgd : X.A.guards = some []) (hu : X.A.units + 64 < cLine) : CallR X (.builtin "repr") (rRepr X.K) := by
  intro pins s σ H xs us; intro Q I r h
  obtain ⟨v, d, rfl, hd, hs, hn, hp, hz, q⟩ := h
  cases r with
  | cons r1 r2 =>
    cases r2
    rename_i u
    obtain ⟨as, hr⟩ := hd.reads I u r1
    have fin : ∀ h' t tk, (∀ b o, s.heap.get? b = some o → h'.get? b = some o) → EP X pins σ Q (.str d.shown t) { s with heap := h', toks := tk } := fun h' t tk k => ⟨.str d.shown, H, I.kept k, ⟨_, rfl⟩, q⟩
    cases hr with
    | none => exact PySem.P.repr_of_none (fin _ _ _ fun _ _ z => z)
    | bool b => exact PySem.P.repr_of_bool (fin _ _ _ fun _ _ z => z)
    | int i t => exact PySem.P.repr_of_int (by simpa [PyData.showable] using hs) (fin _ _ _ fun _ _ z => z)
    | str x t => exact PySem.P.repr_of_str (fin _ _ _ fun _ _ z => z)
    | list h1 h2 h3 h4 => exact repr_of_reads' (.list h1 h2 h3 h4) hs (fun z => by rw [hn] at z; cases z) hgd (by omega) (fun _ _ z => z) (fun h' u tk k => fin h' u tk k) hz
    | tuple h1 h2 h3 h4 => exact repr_of_reads' (.tuple h1 h2 h3 h4) hs (fun z => by rw [hn] at z; cases z) hgd (by omega) (fun _ _ z => z) (fun h' u tk k => fin h' u tk k) hz
    | dict h1 h2 h3 h4 h5 => simp [PyData.hasDict] at hn
end
end HX
set_option Elab.async false
set_option linter.all false
set_option maxRecDepth 100000
set_option maxHeartbeats 4400000
namespace HX
open L2 PyProof.Rows PySem.Spec PySem
theorem ints_vals : ∀ {vs : List Value} {ns : List Int}, IntsAre vs ns → Vals (ns.map V.int) vs
  | _, _, .nil => Paired.nil
  | _, _, .cons n t h => Paired.cons ⟨t, rfl⟩ (ints_vals h)
/-- the law's call from its promise (a def that may be called where no repr is under way); H: the script alone, or nothing -/
theorem lawG_core {P : Program} {w : World} {K : PySem.W.Frag} {mg mb : Str → Option Value} {CX : CXT} {k : Nat} {fa a : Addr} {fd : FuncData} {x : Str} {sp : Sp} {s1 : Shared} {vs : List Value} {H : Hp}
    (KX : K.In s1.heap) (hns : s1.heap.Ns mainGlobals mg) (hb : s1.heap.Ns builtinsNs mb) (hbb : ∀ x : Str, x ≠ "__name__" → mb x = bootBuiltins x) (hlim : s1.heap.NoLimit) (hg : s1.gens = #[])
    (ha : s1.heap.get? a = some { cls := .type "list", data := .seq vs.toArray }) (hr : Room k callerA)
    (F : ∀ base : Heap, K.In base → base.Ns mainGlobals mg → FnG P w K mg base CX k fa fd [x] sp) (hbind : ∀ (s : Shared) (u : Value), BindsTo s fd ⟨[u], []⟩ [(x, u)])
    (hsp : sp [.ref a] H (fun v _ => v = .bl true) fun _ _ _ => False) (hCX : ∀ e s', CX [] H s1 (fun _ _ _ => False) e s' → False)
    (hO : ∀ b u, H b = some u → b = a ∧ ∃ o xs, u = .frz o (.lst xs)) (hok : HOk P w H s1.heap) (hK : ∀ u, H a = some u → K.lookup a = none) :
    codeAny (model P w) callerA (.call (.ref fa) ⟨[.ref a], []⟩) (fun r s' => r = .ok (.ret (.bool true)) ∧ OldK s1.heap s'.heap ∧ s'.os = s1.os ∧ AllBare s'.gens) s1 := by
  have un : ∀ {b : Addr}, b ≠ a → H b = none := fun {b} z => by
    cases q : H b with
    | none => rfl
    | some u => exact absurd (hO b u q).1 z
  have nsK : ∀ {b : Addr} {m : Str → Option Value}, s1.heap.Ns b m → (hidT s1.heap H).Ns b m := fun {b m} ⟨o, es, ep, e, d, r⟩ => by
    refine ⟨o, es, ep, hidT_get e (un fun z => ?_), d, r⟩
    rw [z, ha] at e
    cases e
    cases d
  have inB : K.In (hidT s1.heap H) := fun b o e => hidT_get (KX b o e) (by
    cases q : H b with
    | none => rfl
    | some u =>
      have y := (hO b u q).1
      subst y
      have y2 : K.lookup b = none := hK u q
      rw [show K.lookup b = some o from e] at y2
      cases y2)
  obtain ⟨mc, l1, l2⟩ := hlim
  have e0 : Env0 P w K mg (hidT s1.heap H) callerA [] s1 H := ⟨rfl, ⟨inB, nsK hns, ⟨mb, nsK hb, hbb⟩, ⟨mc, nsK l1, l2⟩⟩, fun b o e => of_hidT e, Nat.le_of_eq (hidT_size _ _), trivial, fun b z => absurd (show b ∈ ([] : List Addr) from z) List.not_mem_nil, hok, .of_eq hg⟩
  refine codeAny_mono ((F _ inB (nsK hns)).go callerA [] s1 H ⟨[.ref a], []⟩ [.ref a] [.ref a] _ _ rfl hr e0 (hbind s1 (.ref a)) (.cons rfl .nil) hsp) fun r s' h => ?_
  match r, h with
  | .error e, h => exact (hCX e s' h).elim
  | .ok .next, h => exact False.elim h
  | .ok .brk, h => exact False.elim h
  | .ok .cont, h => exact False.elim h
  | .ok (.ret u), h =>
    obtain ⟨v, H', os, bare, U, hok', r', q⟩ := h
    obtain rfl : v = .bl true := q
    have ru : u = Value.bool true := r'; subst ru; refine ⟨rfl, OldK.of_keep fun b o e => ?_, os, bare⟩
    cases q : H b with
    | none => exact U.keep b o e q (fun z => absurd (show b ∈ ([] : List Addr) from z) List.not_mem_nil) List.not_mem_nil
    | some u =>
      obtain ⟨_, ob, xs, z⟩ := hO b u q
      subst z
      have y1 := (hok b _ q).1
      have y2 := (hok' b _ (U.frzs b ob _ q)).1
      rw [e] at y1
      cases y1
      exact y2
theorem walk_G {l : PySem.W.OpenLaw} {n k : Nat} {q : Program} {loose : List Str} {XP : (Str → Option Value) → Heap → Prop} {YP : World → Heap → Prop} {d : DefRec} {K : Params → PySem.W.Frag} {CX : World → CXT} {sp : World → Sp} {x : Str}
    (hn : l.most = some n) (hn2 : n ≤ sizeLine) (hdf : d.params.defaults = []) (hr : Room k callerA) (hY : ∀ (v : World) (h : Heap), YP v h → (K v.params).In h)
    (F : ∀ (w : World) (m : Str → Option Value) (fa : Addr) (h : Heap), (K w.params).In h → h.Ns mainGlobals m → m d.name = some (.ref fa) →
      ∃ fd : FuncData, (∀ (s : Shared) (u : Value), BindsTo s fd ⟨[u], []⟩ [(x, u)]) ∧ ∀ base : Heap, (K w.params).In base → base.Ns mainGlobals m → FnG l.prog w (K w.params) m base (CX w) k fa fd [x] (sp w))
    (hsp : ∀ (w : World) (H : Hp) (a : Addr) (ns : List Int), ns.length ≤ n → SqL (K w.params) H a (ns.map V.int) → (∀ b u, H b = some u → b = a) → sp w [.ref a] H (fun v _ => v = .bl true) fun _ _ _ => False)
    (hCX : ∀ (w : World) (G : Hp) (s : Shared) (e : Value) (s' : Shared), CX w [] G s (fun _ _ _ => False) e s' → False) : PySem.W.WalkO q loose XP YP l.row.toRowW d [] (fun f vs => PySem.call f vs) := by
  refine Att.attach_call hn hdf fun w s0 s1 mg mb fa o pm cd doc a vs ns G Y ho hd hcd hmg hobj hints hlen hgen => ?_
  have KX := hY w _ Y; obtain ⟨fd, hb, hF⟩ := F w mg fa _ KX G.T.g hmg
  have rv := ints_vals hints; have lv := hints.length
  cases hk : (K w.params).lookup a with
  | some o' =>
    have e := KX a o' hk
    rw [hobj] at e
    cases e
    exact lawG_core (H := fun _ => none) KX G.T.g G.T.b G.T.builtins G.T.nolimit hgen hobj hr hF hb (hsp w _ a ns hlen (.inr ⟨_, vs.toArray, _, hk, rfl, rfl, rfl, by rw [List.size_toArray, lv]; exact Nat.le_trans hlen hn2, by simpa using rv⟩) fun b u z => by cases z)
      (fun e s' => hCX w _ s1 e s') (fun b u z => by cases z) (fun b u z => by cases z) fun u z => by cases z
  | none =>
    have at_ : ∀ {b u}, (fun b => if b = a then some (HO.frz { cls := .type "list", data := .seq vs.toArray } (.lst (ns.map V.int))) else none) b = some u → b = a ∧ u = HO.frz { cls := .type "list", data := .seq vs.toArray } (.lst (ns.map V.int)) := fun {b u} z => by
      by_cases hba : b = a
      · exact ⟨hba, (Option.some.inj ((if_pos hba).symm.trans z)).symm⟩
      · exact absurd ((if_neg hba).symm.trans z) (fun y => nomatch y)
    refine lawG_core (H := fun b => if b = a then some (.frz { cls := .type "list", data := .seq vs.toArray } (.lst (ns.map V.int))) else none) KX G.T.g G.T.b G.T.builtins G.T.nolimit hgen hobj hr hF hb
      (hsp w _ a ns hlen (.inl (.inr ⟨_, if_pos rfl⟩)) fun b u z => (at_ z).1) (fun e s' => hCX w _ s1 e s') (fun b u z => ⟨(at_ z).1, _, _, (at_ z).2⟩) (fun b u z => ?_) fun _ _ => hk
    obtain ⟨e1, e2⟩ := at_ z
    subst e1
    subst e2
    exact ⟨hobj, by rw [List.length_map]; exact Nat.le_trans hlen hn2, vs, _, rv, hobj⟩
end HX
set_option Elab.async false
set_option linter.all false
set_option maxRecDepth 100000
set_option maxHeartbeats 4400000
namespace HX
open L2 PyProof.Rows PySem.Spec PySem
section
variable {X : Cx} {CX : CXT} {C f g : Addr} {k : Nat} {fd gd : FuncData} {ps ps' : List Str} {sp spR : Sp} {E : XK}
theorem op_eqN (T : CmC X.K C .Eq f g) (F1 : FnOk X.prog X.w X.K X.mg X.base CX k f fd ps sp) (b1 : Binds X.K fd ps []) (F2 : FnOk X.prog X.w X.K X.mg X.base CX k g gd ps' spR) (b2 : Binds X.K gd ps' []) (hr : Room k X.A) (hx : Passes CX X E) :
    OpR X (compareOp .Eq) (rOwn C sp spR E) := fun pins s σ H x y v u Q I rx ry h => op_cmpW ic_eq T F1 b1 F2 b2 hr hx pins s σ H x y v u Q I rx ry h
theorem op_neN (T : CmC X.K C .NotEq f g) (F1 : FnOk X.prog X.w X.K X.mg X.base CX k f fd ps sp) (b1 : Binds X.K fd ps []) (F2 : FnOk X.prog X.w X.K X.mg X.base CX k g gd ps' spR) (b2 : Binds X.K gd ps' []) (hr : Room k X.A) (hx : Passes CX X E) :
    OpR X (compareOp .NotEq) (rOwn C sp spR E) := fun pins s σ H x y v u Q I rx ry h => op_cmpW ic_ne T F1 b1 F2 b2 hr hx pins s σ H x y v u Q I rx ry h
theorem op_ltN (T : CmC X.K C .Lt f g) (F1 : FnOk X.prog X.w X.K X.mg X.base CX k f fd ps sp) (b1 : Binds X.K fd ps []) (F2 : FnOk X.prog X.w X.K X.mg X.base CX k g gd ps' spR) (b2 : Binds X.K gd ps' []) (hr : Room k X.A) (hx : Passes CX X E) :
    OpR X (compareOp .Lt) (rOwn C sp spR E) := fun pins s σ H x y v u Q I rx ry h => op_cmpW ic_lt T F1 b1 F2 b2 hr hx pins s σ H x y v u Q I rx ry h
theorem op_leN (T : CmC X.K C .LtE f g) (F1 : FnOk X.prog X.w X.K X.mg X.base CX k f fd ps sp) (b1 : Binds X.K fd ps []) (F2 : FnOk X.prog X.w X.K X.mg X.base CX k g gd ps' spR) (b2 : Binds X.K gd ps' []) (hr : Room k X.A) (hx : Passes CX X E) :
    OpR X (compareOp .LtE) (rOwn C sp spR E) := fun pins s σ H x y v u Q I rx ry h => op_cmpW ic_le T F1 b1 F2 b2 hr hx pins s σ H x y v u Q I rx ry h
theorem op_gtN (T : CmC X.K C .Gt f g) (F1 : FnOk X.prog X.w X.K X.mg X.base CX k f fd ps sp) (b1 : Binds X.K fd ps []) (F2 : FnOk X.prog X.w X.K X.mg X.base CX k g gd ps' spR) (b2 : Binds X.K gd ps' []) (hr : Room k X.A) (hx : Passes CX X E) :
    OpR X (compareOp .Gt) (rOwn C sp spR E) := fun pins s σ H x y v u Q I rx ry h => op_cmpW ic_gt T F1 b1 F2 b2 hr hx pins s σ H x y v u Q I rx ry h
theorem op_geN (T : CmC X.K C .GtE f g) (F1 : FnOk X.prog X.w X.K X.mg X.base CX k f fd ps sp) (b1 : Binds X.K fd ps []) (F2 : FnOk X.prog X.w X.K X.mg X.base CX k g gd ps' spR) (b2 : Binds X.K gd ps' []) (hr : Room k X.A) (hx : Passes CX X E) :
    OpR X (compareOp .GtE) (rOwn C sp spR E) := fun pins s σ H x y v u Q I rx ry h => op_cmpW ic_ge T F1 b1 F2 b2 hr hx pins s σ H x y v u Q I rx ry h
/-- i ** j, of an i that is neither -1, 0 nor 1, the result below 2 ^ 100000 -/
def CPowW (i j : Int) : Prop := 2 ≤ i ∧ 0 < j ∧ Builtin.Int.intTooBig (((Builtin.Int.intBits i : Nat) : Int) * j) = false
theorem op_powW : OpR X (binaryOp .Pow) (rI CPowW fun i j => .int (i ^ j.toNat)) := opI fun i j t u s Q E hc q => by
  obtain ⟨h1, h2, h3⟩ := hc
  have h4 : ¬ ((i == 0 || i == 1) = true) := by simp; omega
  have h5 : ¬ ((i == -1) = true) := by simp; omega
  exact AutoIntOps.pow_4 (by omega) (by simp; omega) h4 h5 (by rw [h3]; decide) q
end
/-- all that was known is known -/
abbrev Ex (H H' : Hp) : Prop := ∀ a o, H a = some o → H' a = some o
/-- .. but what stood at p -/
abbrev XB (p : Addr) (H H' : Hp) : Prop := ∀ a o, a ≠ p → H a = some o → H' a = some o
theorem Ex.rf (H : Hp) : Ex H H := fun _ _ h => h
theorem Ex.tr {H H1 H2 : Hp} (a : Ex H H1) (b : Ex H1 H2) : Ex H H2 := fun c o h => b c o (a c o h)
theorem Ex.nw {H : Hp} {p : Addr} {o : HO} (h : H p = none) : Ex H (upd H p o) := fun a u e => by rw [upd_ne (ne_of_none e h)]; exact e
theorem Ex.fr {H H' : Hp} {p : Addr} (e : Ex H H') (h : H' p = none) : H p = none := by
  cases q : H p with
  | none => rfl
  | some o => rw [e p o q] at h; cases h
theorem Ex.xb {H H' : Hp} {p : Addr} (e : Ex H H') : XB p H H' := fun a o _ h => e a o h
theorem XB.tr {H H1 H2 : Hp} {p : Addr} (a : XB p H H1) (b : XB p H1 H2) : XB p H H2 := fun c o n h => b c o n (a c o n h)
theorem XB.wr {H : Hp} {p : Addr} {o : HO} : XB p H (upd H p o) := fun a u n e => by rw [upd_ne n]; exact e
theorem XB.fr {H H' : Hp} {p q : Addr} {o : HO} (e : XB p H H') (hp : H' p = some o) (h : H' q = none) : H q = none := by
  cases z : H q with
  | none => rfl
  | some u =>
    by_cases y : q = p
    · rw [y, hp] at h; cases h
    · rw [e q u y z] at h; cases h
theorem if_dec {p : Prop} [Decidable p] {A B : Prop} (h1 : p → A) (h2 : ¬ p → B) : if decide p = true then A else B := by
  by_cases h : p
  · rw [decide_eq_true h]; exact iteT (h1 h)
  · rw [decide_eq_false h]; exact iteF (h2 h)
theorem if_eq {b c : Bool} {A B : Prop} (e : b = c) (h : if c = true then A else B) : if b = true then A else B := by rw [e]; exact h
theorem if_true {b : Bool} {A B : Prop} (e : b = true) (h : A) : if b = true then A else B := by rw [e]; exact iteT h
theorem if_false {b : Bool} {A B : Prop} (e : b = false) (h : B) : if b = true then A else B := by rw [e]; exact iteF h
end HX
set_option Elab.async false
set_option linter.all false
set_option maxRecDepth 100000
set_option maxHeartbeats 4400000
namespace HX
open L2 PyProof.Rows PySem.Spec PySem
/-- data whose repr is asked -/
structure Fine (d : PyData) : Prop where
  sh : d.showable = true
  nd : d.hasDict = false
  dp : d.depth ≤ 60
  ln : d.shown.length ≤ sizeLine
theorem sh_int {i : Int} (h0 : -1000000 ≤ i) (h1 : i ≤ 1000000) : (PyData.int i).showable = true := by
  unfold PyData.showable
  have h : i.natAbs < 2 ^ 64 := by omega
  have h2 : i.natAbs.log2 < 64 := PySem.Flt.log2_lt_of (by decide) h
  first | exact decide_eq_true (by omega)
theorem ls_int {i : Int} (h0 : -1000000 ≤ i) (h1 : i ≤ 1000000) : (PyData.int i).leavesShort 13 = true := by
  have h := PyData.shown_int_le (i := i) (by omega)
  unfold PyData.leavesShort
  simpa [PyData.shown] using h
/-- a flat item -/
inductive Flat : PyData → Prop
  | non : Flat .none
  | bl (b : Bool) : Flat (.bool b)
  | int (i : Int) (h0 : -1000000 ≤ i) (h1 : i ≤ 1000000) : Flat (.int i)
  | str (x : Str) (h : x.cps.size ≤ 60) (hc : (x.cps.toList.all fun c => decide (c < 16 ^ 8)) = true) : Flat (.str x)
theorem Flat.all {ds : List PyData} (h : ∀ d ∈ ds, Flat d) : PyData.showableAll ds = true ∧ PyData.hasDictAll ds = false ∧ PyData.leavesShortAll 13 ds = true ∧ PyData.depthAll ds ≤ 1 ∧ PyData.weightAll ds ≤ 70 * ds.length := by
  induction ds with
  | nil => simp [PyData.showableAll, PyData.hasDictAll, PyData.leavesShortAll, PyData.depthAll, PyData.weightAll]
  | cons d ds ih =>
    obtain ⟨i1, i2, i3, i4, i5⟩ := ih fun x hx => h x (List.mem_cons_of_mem _ hx)
    have hd := h d List.mem_cons_self
    simp only [PyData.showableAll, PyData.hasDictAll, PyData.leavesShortAll, PyData.depthAll, PyData.weightAll, i1, i2, i3, Bool.and_true, Bool.or_false, List.length_cons]
    cases hd with
    | non => simp [PyData.showable, PyData.hasDict, PyData.leavesShort, PyData.depth, PyData.weight]; omega
    | bl b => simp [PyData.showable, PyData.hasDict, PyData.leavesShort, PyData.depth, PyData.weight]; omega
    | int i h0 h1 =>
      have h2 : i.natAbs.log2 < 64 := PySem.Flt.log2_lt_of (by decide) (by omega : i.natAbs < 2 ^ 64)
      simp only [sh_int h0 h1, PyData.hasDict, ls_int h0 h1, PyData.depth, PyData.weight]
      refine ⟨by first | rfl | trivial, by first | rfl | trivial, by first | rfl | trivial, by omega, ?_⟩
      split <;> omega
    | str x hx hc =>
      simp only [PyData.showable, PyData.hasDict, PyData.leavesShort, PyData.depth, PyData.weight, hc]
      refine ⟨by first | rfl | trivial, by first | rfl | trivial, by first | rfl | trivial, by omega, by omega⟩
theorem fine_list {ds : List PyData} (h : ∀ d ∈ ds, Flat d) (hl : ds.length ≤ 1000) : Fine (.list ds) := by
  obtain ⟨h1, h2, h3, h4, h5⟩ := Flat.all h
  refine ⟨by simp only [PyData.showable, h1], by simp only [PyData.hasDict, h2], by simp only [PyData.depth]; omega, PyData.shown_fits (B := 13) (by decide) (by decide) (by simp only [PyData.leavesShort, h3]) (by simp only [PyData.weight]; omega)⟩
theorem fine_tup {ds : List PyData} (h : ∀ d ∈ ds, Flat d) (hl : ds.length ≤ 1000) : Fine (.tuple ds) := by
  obtain ⟨h1, h2, h3, h4, h5⟩ := Flat.all h
  refine ⟨by simp only [PyData.showable, h1], by simp only [PyData.hasDict, h2], by simp only [PyData.depth]; omega, PyData.shown_fits (B := 13) (by decide) (by decide) (by simp only [PyData.leavesShort, h3]) (by simp only [PyData.weight]; omega)⟩
theorem fine_non : Fine .none := ⟨rfl, rfl, by decide, by simp only [PyData.shown]; decide +kernel⟩
theorem fine_bl (b : Bool) : Fine (.bool b) := ⟨rfl, rfl, by simp [PyData.depth], by cases b <;> simp only [PyData.shown] <;> decide +kernel⟩
theorem flat_zero : Flat (.str "zero") := .str _ (by decide +kernel) (by decide +kernel)
/-- flat values and their data -/
def fl : V → PyData
  | .non => .none
  | .bl b => .bool b
  | .int i => .int i
  | .str x => .str x
  | _ => .none
def isFl : V → Bool
  | .non | .bl _ | .int _ | .str _ => true
  | _ => false
theorem dq_fl {K : PySem.W.Frag} {H : Hp} {v : V} (h : isFl v = true) : Dq K H v (fl v) := by
  cases v <;> first | exact .non | exact .bl _ | exact .int _ | exact .str _ | cases h
theorem dq_items {K : PySem.W.Frag} {H : Hp} {xs : List V} (h : xs.all isFl = true) : ∀ (i : Nat) (v : V) (d : PyData), xs[i]? = some v → (xs.map fl)[i]? = some d → Dq K H v d := fun i v d e1 e2 => by
  rw [List.getElem?_map, e1] at e2
  cases e2
  exact dq_fl (List.all_eq_true.mp h v (List.mem_of_getElem? e1))
theorem dq_lst {K : PySem.W.Frag} {H : Hp} {a : Addr} {xs : List V} (e : H a = some (.lst xs)) (h : xs.all isFl = true) : Dq K H (.ref a) (.list (xs.map fl)) := .lst (SqL.of e) (by rw [List.length_map]) (dq_items h)
theorem dq_tup {K : PySem.W.Frag} {H : Hp} {a : Addr} {xs : List V} (e : H a = some (.tup xs)) (h : xs.all isFl = true) : Dq K H (.ref a) (.tuple (xs.map fl)) := .tup (SqT.of e) (by rw [List.length_map]) (dq_items h)
end HX
set_option Elab.async false
set_option linter.all false
set_option maxRecDepth 100000
set_option maxHeartbeats 4400000
namespace HX
open L2 PyProof.Rows PySem.Spec PySem
section
variable {X : Cx} {CX : CXT} {C f : Addr} {k : Nat} {fd : FuncData} {ps : List Str} {sp : Sp} {E : L2.St → XK} {a b e : Expr} {ta tb te : TE} {pos pos' : Pos} {x : Str} {i : Nat} {op : Operator}
/-- a def run within a call of a builtin -/
theorem run_one {pins : List (Addr × Obj)} {σ : L2.St} {H : Hp} {s : Shared} {Q : VK} {us : List Value} {vs : List V} {E : XK} (F : FnOk X.prog X.w X.K X.mg X.base CX k f fd ps sp) (hr : Room (k + 1) X.A) (hb : Binds X.K fd ps []) (hx : PassesAt CX X σ E)
    (I : L2.Inv X pins σ H s) (r : Vals vs us) (h : sp vs H Q E) : wpAny (model X.prog X.w) X.A.in1 (call (.ref f) us) (EP X pins σ Q) X.xe s := by
  have few : (us ++ []).length = ps.length := by rw [List.append_nil, ← r.length]; exact F.len _ _ _ _ h
  have bound := hb s us I.kIn few; rw [List.append_nil] at bound
  refine wpAny_call (codeAny_mono (F.run X.A.in1 X.stack s H ⟨us, []⟩ us vs Q E hr.in1 I.env0.in1 bound r h) fun z s' hq => ?_)
  match z, hq with
  | .ok (.ret u), w => exact I.after w
  | .ok .next, w | .ok .brk, w | .ok .cont, w => exact False.elim w
  | .error er, w => exact hx pins H s er s' I w
/-- a[b] of an own class -/
def tSubO (C : Addr) (sp : Sp) (E : L2.St → XK) (ta tb : TE) : TE := fun σ H Q => ta σ H fun x H1 => tb σ H1 fun y H2 => isI C H2 x ∧ sp [x, y] H2 Q (E σ)
theorem pe_subO (hs : PySem.W.findIn X.K (.ref C) "__getitem__" = some (some (.ref f))) (hf : PySem.W.fnIn X.K f = true) (hfn : PySem.W.isFn X.K (.ref f) = true) (F : FnOk X.prog X.w X.K X.mg X.base CX k f fd ps sp) (hb : Binds X.K fd ps []) (hr : Room (k + 1) X.A)
    (hx : ∀ σ, PassesAt CX X σ (E σ)) (ha : PE X a ta) (hbb : PE X b tb) (hsl : ∀ x i, subscripted b true (.ref x) i = runValue (.builtin "lifetime.subscript" ⟨[.ref x, i], []⟩)) : PE X (.Subscript a b pos) (tSubO C sp E ta tb) := by
  refine ⟨fun pins s σ H Q I h => ?_⟩
  refine Subscript_ (binT ha hbb I h fun v u s2 x y H2 I2 rx ry q => ?_)
  obtain ⟨m, hF⟩ := I2.fr
  obtain ⟨⟨p, dx, fs, rfl, ep⟩, q⟩ := q
  obtain ⟨od, J⟩ := isI_inst I2 ep
  cases (id rx : v = Value.ref p)
  exact PySem.W.sub_K hF I2.ok.mod.kin J hs hf hfn (run_one (us := [.ref p, u]) (vs := [.ref p, y]) F hr hb (hx σ) I2 (.cons rfl (.cons ry .nil)) q) (hsl _ _)
/-- o[i] = v of an own class -/
def gSubO (C : Addr) (sp : Sp) (E : L2.St → XK) (to ti : TE) : TG := fun v σ H Q => to σ H fun o H1 => ti σ H1 fun i H2 => isI C H2 o ∧ sp [o, i, v] H2 (fun _ H3 => Q σ H3) (E σ)
theorem pg_subO (hq : PySem.W.noSeq X.K C = true) (hs : PySem.W.findIn X.K (.ref C) "__setitem__" = some (some (.ref f))) (hfn : PySem.W.isFn X.K (.ref f) = true) (F : FnOk X.prog X.w X.K X.mg X.base CX k f fd ps sp) (hb : Binds X.K fd ps []) (hr : Room k X.A)
    (hx : ∀ σ, PassesAt CX X σ (E σ)) (ho : PE X a ta) (hi : PE X b tb)
    (ha : ∀ v, assign (.Subscript a b pos) X.env v = (do let o1 ← holding [v] (eval a X.env); let i1 ← holding [v, o1] (eval b X.env); standAt pos; holding [v, o1, i1] (setItem o1 i1 v); release [v, o1, i1] []) := by intro _; rfl) : PG X (.Subscript a b pos) (gSubO C sp E ta tb) := by
  refine ⟨fun pp t τ G val vv R J rv w => ?_⟩
  rw [ha]
  refine wpAny_bind (wpAny_holding (thn (ho.run pp t τ G _ J w) fun o1 t1 ⟨x, G1, J1, rx, w1⟩ => wpAny_bind (wpAny_holding (thn (hi.run pp t1 τ G1 _ J1 w1) fun i1 t2 ⟨y, G2, J2, ry, w2⟩ => ?_))))
  obtain ⟨⟨p, dx, fs, rfl, ep⟩, q⟩ := w2
  obtain ⟨m, hF⟩ := J2.fr
  obtain ⟨od, W⟩ := isI_inst J2 ep
  have eo : o1 = Value.ref p := rx; subst eo
  have done := run_fnS (us := [.ref p, i1, vv]) (vs := [.ref p, y, val]) F hr hb (hx τ) J2 (.cons rfl (.cons ry (.cons rv .nil))) q
  exact wpAny_bind (wpAny_standAt (wpAny_bind (wpAny_holding (PySem.W.ksp_setItem hF J2.ok.mod.kin W hq hs hfn (thn done fun _ t3 ⟨_, G3, J3, _, w3⟩ => wpAny_release ⟨τ, G3, J3, w3⟩)))))
/-- x op= e of an own class -/
def tAugO (C : Addr) (sp : Sp) (E : L2.St → XK) (i : Nat) (te : TE) : TS := fun D σ H => ∃ x, σ[i]? = some (some x) ∧ te σ H fun y H1 => isI C H1 x ∧ sp [x, y] H1 (fun z H2 => D.nx (σ.set i (some z)) H2) (E σ)
theorem ps_augO (hc : PySem.W.selfFirst X.K C = true) (hs : PySem.W.findIn X.K (.ref C) (dunderI op.info.2) = some (some (.ref f))) (hfn : PySem.W.isFn X.K (.ref f) = true) (F : FnOk X.prog X.w X.K X.mg X.base CX k f fd ps sp) (hb : Binds X.K fd ps []) (hr : Room k X.A)
    (hxx : ∀ σ, PassesAt CX X σ (E σ)) (hN : X.N.Nodup) (hi : X.N[i]? = some x) (hx : X.env.scope.names.lookup x = some .local) (he : PE X e te) : PS X (.AugAssign (.Name x pos') op e pos) (tAugO C sp E i te) := by
  refine ⟨fun pp t τ G D J w => wpAny_AugAssign_Name ?_⟩
  obtain ⟨v, e1, w⟩ := w
  obtain ⟨m, hn, hl⟩ := J.loc
  obtain ⟨u, r, l⟩ := hl i x v hi e1 (.inl hx)
  rcases l with ⟨hk, hm⟩ | ⟨hk, _⟩
  · refine wpAny_loadName_local J.ok.kind hk hn hm (thn (he.run pp t τ G _ J w) fun b t1 ⟨y, G1, J1, r1, w1⟩ => ?_)
    obtain ⟨⟨p, dx, fs, rfl, ep⟩, q⟩ := w1
    obtain ⟨m1, hF⟩ := J1.fr
    obtain ⟨od, W⟩ := isI_inst J1 ep
    have eu : u = Value.ref p := r; subst eu
    have done := run_fnS (us := [.ref p, b]) (vs := [.ref p, y]) F hr hb (hxx τ) J1 (.cons rfl (.cons r1 .nil)) q
    refine thn (PySem.W.ksp_inplace hF J1.ok.mod.kin W hc hs hfn (thn done fun z t2 hz => ep_back hz)) fun z t2 ⟨zv, G2, J2, r2, w2⟩ => ?_
    exact store_ok J2 hN hi (.inl hx) r2 (fun t3 J3 => ⟨_, G2, J3, w2⟩) (.inr hx)
  · rcases hk with hk | hk <;> (have z : X.env.scope.names.lookup x = _ := hk; rw [hx] at z; cases z)
/-- len of an own class -/
def rLenO (C : Addr) (sp : Sp) (E : XK) : List V → Hp → VK → Prop := fun xs H Q => ∃ x, xs = [x] ∧ isI C H x ∧ sp [x] H (fun v H' => ∃ n : Nat, v = .int n ∧ n < 1000 ∧ Q (.int n) H') E
theorem call_lenO {E : XK} (hs : PySem.W.findIn X.K (.ref C) "__len__" = some (some (.ref f))) (hf : PySem.W.isFn X.K (.ref f) = true) (F : FnOk X.prog X.w X.K X.mg X.base CX k f fd ps sp) (hb : Binds X.K fd ps []) (hr : Room (k + 1) X.A) (hx : Passes CX X E) :
    CallR X (.builtin "len") (rLenO C sp E) := by
  intro pins s σ H xs us; intro Q I r h
  obtain ⟨m, hF⟩ := I.fr
  obtain ⟨x, rfl, ⟨p, dx, fs, rfl, ep⟩, q⟩ := h
  obtain ⟨od, J⟩ := isI_inst I ep
  cases r with
  | cons r1 r2 =>
    cases r2
    rename_i u
    cases (id r1 : u = Value.ref p)
    refine PySem.W.len_K hF I.ok.mod.kin J hs hf (thn (run_one (us := [.ref p]) (vs := [.ref p]) F hr hb (fun pins H s e s' => hx pins σ H s e s') I (.cons rfl .nil) q) fun z s2 hz => ?_)
    obtain ⟨v, H2, I2, r3, n, rfl, hn, q2⟩ := hz
    obtain ⟨t, rfl⟩ := r3
    exact ⟨⟨by omega, by omega⟩, .int n, H2, I2.tok _, ⟨_, rfl⟩, q2⟩
end
end HX
set_option Elab.async false
set_option linter.all false
set_option maxRecDepth 100000
set_option maxHeartbeats 4400000
namespace K02
open PySem PySem.Spec PyProof.Rows L2 HX
open PySem.W (Frag)

def topS (i : Nat) : Stmt := PySem.Challenge.pw_tapedonce_k02_rows_read_set_and_pushed.main.body.getD i (.Pass ⟨0, 0, 0, 0⟩)
abbrev s_BadSize_init : Stmt := inClass (topS 2) 0
abbrev N_BadSize_init : List Str := ["self", "value"]
theorem sc_BadSize_init : FnScope N_BadSize_init ["self", "value"] (defScope s_BadSize_init) := ⟨rfl, rfl, rfl, by decide +kernel, rfl, by decide +kernel, by decide +kernel⟩
abbrev s_BadWorth_init : Stmt := inClass (topS 3) 0
abbrev N_BadWorth_init : List Str := ["self", "value"]
theorem sc_BadWorth_init : FnScope N_BadWorth_init ["self", "value"] (defScope s_BadWorth_init) := ⟨rfl, rfl, rfl, by decide +kernel, rfl, by decide +kernel, by decide +kernel⟩
abbrev s_BadMost_init : Stmt := inClass (topS 4) 0
abbrev N_BadMost_init : List Str := ["self", "value"]
theorem sc_BadMost_init : FnScope N_BadMost_init ["self", "value"] (defScope s_BadMost_init) := ⟨rfl, rfl, rfl, by decide +kernel, rfl, by decide +kernel, by decide +kernel⟩
abbrev s_BadItems_init : Stmt := inClass (topS 5) 0
abbrev N_BadItems_init : List Str := ["self", "value"]
theorem sc_BadItems_init : FnScope N_BadItems_init ["self", "value"] (defScope s_BadItems_init) := ⟨rfl, rfl, rfl, by decide +kernel, rfl, by decide +kernel, by decide +kernel⟩
abbrev s_Fault_init : Stmt := inClass (topS 6) 0
abbrev N_Fault_init : List Str := ["self", "words"]
theorem sc_Fault_init : FnScope N_Fault_init ["self", "words"] (defScope s_Fault_init) := ⟨rfl, rfl, rfl, by decide +kernel, rfl, by decide +kernel, by decide +kernel⟩
abbrev s_is_whole : Stmt := topS 8
abbrev N_is_whole : List Str := ["value", "low", "below"]
theorem sc_is_whole : FnScope N_is_whole ["value", "low", "below"] (defScope s_is_whole) := ⟨rfl, rfl, rfl, by decide +kernel, rfl, by decide +kernel, by decide +kernel⟩
abbrev s_is_size : Stmt := topS 9
abbrev N_is_size : List Str := ["value"]
theorem sc_is_size : FnScope N_is_size ["value"] (defScope s_is_size) := ⟨rfl, rfl, rfl, by decide +kernel, rfl, by decide +kernel, by decide +kernel⟩
abbrev s_is_most : Stmt := topS 10
abbrev N_is_most : List Str := ["value"]
theorem sc_is_most : FnScope N_is_most ["value"] (defScope s_is_most) := ⟨rfl, rfl, rfl, by decide +kernel, rfl, by decide +kernel, by decide +kernel⟩
abbrev s_are_items : Stmt := topS 11
abbrev N_are_items : List Str := ["value", "size", "most", "worth"]
theorem sc_are_items : FnScope N_are_items ["value", "size", "most"] (defScope s_are_items) := ⟨rfl, rfl, rfl, by decide +kernel, rfl, by decide +kernel, by decide +kernel⟩
abbrev s_Number_init : Stmt := inClass (topS 13) 0
abbrev N_Number_init : List Str := ["self", "size", "worth"]
theorem sc_Number_init : FnScope N_Number_init ["self", "size", "worth"] (defScope s_Number_init) := ⟨rfl, rfl, rfl, by decide +kernel, rfl, by decide +kernel, by decide +kernel⟩
abbrev s_Number_size : Stmt := inClass (topS 13) 1
abbrev N_Number_size : List Str := ["self"]
theorem sc_Number_size : FnScope N_Number_size ["self"] (defScope s_Number_size) := ⟨rfl, rfl, rfl, by decide +kernel, rfl, by decide +kernel, by decide +kernel⟩
abbrev s_Number_worth : Stmt := inClass (topS 13) 2
abbrev N_Number_worth : List Str := ["self"]
theorem sc_Number_worth : FnScope N_Number_worth ["self"] (defScope s_Number_worth) := ⟨rfl, rfl, rfl, by decide +kernel, rfl, by decide +kernel, by decide +kernel⟩
abbrev s_Number_add : Stmt := inClass (topS 13) 3
abbrev N_Number_add : List Str := ["self", "other"]
theorem sc_Number_add : FnScope N_Number_add ["self", "other"] (defScope s_Number_add) := ⟨rfl, rfl, rfl, by decide +kernel, rfl, by decide +kernel, by decide +kernel⟩
abbrev s_Number_radd : Stmt := inClass (topS 13) 4
abbrev N_Number_radd : List Str := ["self", "other"]
theorem sc_Number_radd : FnScope N_Number_radd ["self", "other"] (defScope s_Number_radd) := ⟨rfl, rfl, rfl, by decide +kernel, rfl, by decide +kernel, by decide +kernel⟩
abbrev s_Number_sub : Stmt := inClass (topS 13) 5
abbrev N_Number_sub : List Str := ["self", "other"]
theorem sc_Number_sub : FnScope N_Number_sub ["self", "other"] (defScope s_Number_sub) := ⟨rfl, rfl, rfl, by decide +kernel, rfl, by decide +kernel, by decide +kernel⟩
abbrev s_Number_rsub : Stmt := inClass (topS 13) 6
abbrev N_Number_rsub : List Str := ["self", "other"]
theorem sc_Number_rsub : FnScope N_Number_rsub ["self", "other"] (defScope s_Number_rsub) := ⟨rfl, rfl, rfl, by decide +kernel, rfl, by decide +kernel, by decide +kernel⟩
abbrev s_Number_mul : Stmt := inClass (topS 13) 7
abbrev N_Number_mul : List Str := ["self", "other"]
theorem sc_Number_mul : FnScope N_Number_mul ["self", "other"] (defScope s_Number_mul) := ⟨rfl, rfl, rfl, by decide +kernel, rfl, by decide +kernel, by decide +kernel⟩
abbrev s_Number_rmul : Stmt := inClass (topS 13) 8
abbrev N_Number_rmul : List Str := ["self", "other"]
theorem sc_Number_rmul : FnScope N_Number_rmul ["self", "other"] (defScope s_Number_rmul) := ⟨rfl, rfl, rfl, by decide +kernel, rfl, by decide +kernel, by decide +kernel⟩
abbrev s_Number_floordiv : Stmt := inClass (topS 13) 9
abbrev N_Number_floordiv : List Str := ["self", "other"]
theorem sc_Number_floordiv : FnScope N_Number_floordiv ["self", "other"] (defScope s_Number_floordiv) := ⟨rfl, rfl, rfl, by decide +kernel, rfl, by decide +kernel, by decide +kernel⟩
abbrev s_Number_rfloordiv : Stmt := inClass (topS 13) 10
abbrev N_Number_rfloordiv : List Str := ["self", "other"]
theorem sc_Number_rfloordiv : FnScope N_Number_rfloordiv ["self", "other"] (defScope s_Number_rfloordiv) := ⟨rfl, rfl, rfl, by decide +kernel, rfl, by decide +kernel, by decide +kernel⟩
abbrev s_Number_neg : Stmt := inClass (topS 13) 11
abbrev N_Number_neg : List Str := ["self"]
theorem sc_Number_neg : FnScope N_Number_neg ["self"] (defScope s_Number_neg) := ⟨rfl, rfl, rfl, by decide +kernel, rfl, by decide +kernel, by decide +kernel⟩
abbrev s_Number_eq : Stmt := inClass (topS 13) 12
abbrev N_Number_eq : List Str := ["self", "other"]
theorem sc_Number_eq : FnScope N_Number_eq ["self", "other"] (defScope s_Number_eq) := ⟨rfl, rfl, rfl, by decide +kernel, rfl, by decide +kernel, by decide +kernel⟩
abbrev s_Number_ne : Stmt := inClass (topS 13) 13
abbrev N_Number_ne : List Str := ["self", "other"]
theorem sc_Number_ne : FnScope N_Number_ne ["self", "other"] (defScope s_Number_ne) := ⟨rfl, rfl, rfl, by decide +kernel, rfl, by decide +kernel, by decide +kernel⟩
abbrev s_Number_lt : Stmt := inClass (topS 13) 14
abbrev N_Number_lt : List Str := ["self", "other"]
theorem sc_Number_lt : FnScope N_Number_lt ["self", "other"] (defScope s_Number_lt) := ⟨rfl, rfl, rfl, by decide +kernel, rfl, by decide +kernel, by decide +kernel⟩
abbrev s_Number_le : Stmt := inClass (topS 13) 15
abbrev N_Number_le : List Str := ["self", "other"]
theorem sc_Number_le : FnScope N_Number_le ["self", "other"] (defScope s_Number_le) := ⟨rfl, rfl, rfl, by decide +kernel, rfl, by decide +kernel, by decide +kernel⟩
abbrev s_Number_gt : Stmt := inClass (topS 13) 16
abbrev N_Number_gt : List Str := ["self", "other"]
theorem sc_Number_gt : FnScope N_Number_gt ["self", "other"] (defScope s_Number_gt) := ⟨rfl, rfl, rfl, by decide +kernel, rfl, by decide +kernel, by decide +kernel⟩
abbrev s_Number_ge : Stmt := inClass (topS 13) 17
abbrev N_Number_ge : List Str := ["self", "other"]
theorem sc_Number_ge : FnScope N_Number_ge ["self", "other"] (defScope s_Number_ge) := ⟨rfl, rfl, rfl, by decide +kernel, rfl, by decide +kernel, by decide +kernel⟩
abbrev s_worth_of : Stmt := topS 14
abbrev N_worth_of : List Str := ["number"]
theorem sc_worth_of : FnScope N_worth_of ["number"] (defScope s_worth_of) := ⟨rfl, rfl, rfl, by decide +kernel, rfl, by decide +kernel, by decide +kernel⟩
abbrev s_is_side : Stmt := topS 15
abbrev N_is_side : List Str := ["value"]
theorem sc_is_side : FnScope N_is_side ["value"] (defScope s_is_side) := ⟨rfl, rfl, rfl, by decide +kernel, rfl, by decide +kernel, by decide +kernel⟩
abbrev s_gone_round : Stmt := topS 16
abbrev N_gone_round : List Str := ["size", "plain"]
theorem sc_gone_round : FnScope N_gone_round ["size", "plain"] (defScope s_gone_round) := ⟨rfl, rfl, rfl, by decide +kernel, rfl, by decide +kernel, by decide +kernel⟩
abbrev s_quotient : Stmt := topS 17
abbrev N_quotient : List Str := ["size", "worth", "by"]
theorem sc_quotient : FnScope N_quotient ["size", "worth", "by"] (defScope s_quotient) := ⟨rfl, rfl, rfl, by decide +kernel, rfl, by decide +kernel, by decide +kernel⟩
abbrev s_Row_init : Stmt := inClass (topS 19) 0
abbrev N_Row_init : List Str := ["self", "size", "most", "items"]
theorem sc_Row_init : FnScope N_Row_init ["self", "size", "most", "items"] (defScope s_Row_init) := ⟨rfl, rfl, rfl, by decide +kernel, rfl, by decide +kernel, by decide +kernel⟩
abbrev s_Row_worths : Stmt := inClass (topS 19) 1
abbrev N_Row_worths : List Str := ["self"]
theorem sc_Row_worths : FnScope N_Row_worths ["self"] (defScope s_Row_worths) := ⟨rfl, rfl, rfl, by decide +kernel, rfl, by decide +kernel, by decide +kernel⟩
abbrev s_Row_has : Stmt := inClass (topS 19) 2
abbrev N_Row_has : List Str := ["self", "i"]
theorem sc_Row_has : FnScope N_Row_has ["self", "i"] (defScope s_Row_has) := ⟨rfl, rfl, rfl, by decide +kernel, rfl, by decide +kernel, by decide +kernel⟩
abbrev s_Row_len : Stmt := inClass (topS 19) 3
abbrev N_Row_len : List Str := ["self"]
theorem sc_Row_len : FnScope N_Row_len ["self"] (defScope s_Row_len) := ⟨rfl, rfl, rfl, by decide +kernel, rfl, by decide +kernel, by decide +kernel⟩
abbrev s_Row_getitem : Stmt := inClass (topS 19) 4
abbrev N_Row_getitem : List Str := ["self", "at"]
theorem sc_Row_getitem : FnScope N_Row_getitem ["self", "at"] (defScope s_Row_getitem) := ⟨rfl, rfl, rfl, by decide +kernel, rfl, by decide +kernel, by decide +kernel⟩
abbrev s_Row_setitem : Stmt := inClass (topS 19) 5
abbrev N_Row_setitem : List Str := ["self", "at", "worth"]
theorem sc_Row_setitem : FnScope N_Row_setitem ["self", "at", "worth"] (defScope s_Row_setitem) := ⟨rfl, rfl, rfl, by decide +kernel, rfl, by decide +kernel, by decide +kernel⟩
abbrev s_Row_iadd : Stmt := inClass (topS 19) 6
abbrev N_Row_iadd : List Str := ["self", "other"]
theorem sc_Row_iadd : FnScope N_Row_iadd ["self", "other"] (defScope s_Row_iadd) := ⟨rfl, rfl, rfl, by decide +kernel, rfl, by decide +kernel, by decide +kernel⟩
abbrev s_Row_set_item : Stmt := inClass (topS 19) 7
abbrev N_Row_set_item : List Str := ["self", "i", "x"]
theorem sc_Row_set_item : FnScope N_Row_set_item ["self", "i", "x"] (defScope s_Row_set_item) := ⟨rfl, rfl, rfl, by decide +kernel, rfl, by decide +kernel, by decide +kernel⟩
abbrev s_Row_push_item : Stmt := inClass (topS 19) 8
abbrev N_Row_push_item : List Str := ["self", "x"]
theorem sc_Row_push_item : FnScope N_Row_push_item ["self", "x"] (defScope s_Row_push_item) := ⟨rfl, rfl, rfl, by decide +kernel, rfl, by decide +kernel, by decide +kernel⟩
abbrev s_Row_iter : Stmt := inClass (topS 19) 9
abbrev N_Row_iter : List Str := ["self"]
theorem sc_Row_iter : FnScope N_Row_iter ["self"] (defScope s_Row_iter) := ⟨rfl, rfl, rfl, by decide +kernel, rfl, by decide +kernel, by decide +kernel⟩
abbrev s_pot : Stmt := topS 21
abbrev N_pot : List Str := ["_law_script", "_law_k", "_law_cell", "_law_own"]
theorem sc_pot : FnScope N_pot ["_law_script", "_law_k"] (defScope s_pot) := ⟨rfl, rfl, rfl, by decide +kernel, rfl, by decide +kernel, by decide +kernel⟩
abbrev s_take : Stmt := topS 22
abbrev N_take : List Str := ["_law_pot_here", "_law_upto", "_law_digit", "_law_prime", "_law_mixed"]
theorem sc_take : FnScope N_take ["_law_pot_here", "_law_upto"] (defScope s_take) := ⟨rfl, rfl, rfl, by decide +kernel, rfl, by decide +kernel, by decide +kernel⟩
abbrev s_of : Stmt := topS 23
abbrev N_of : List Str := ["_law_pot_here", "_law_some"]
theorem sc_of : FnScope N_of ["_law_pot_here", "_law_some"] (defScope s_of) := ⟨rfl, rfl, rfl, by decide +kernel, rfl, by decide +kernel, by decide +kernel⟩
abbrev s_number : Stmt := topS 24
abbrev N_number : List Str := ["_law_pot_here", "_law_size", "_law_worth"]
theorem sc_number : FnScope N_number ["_law_pot_here", "_law_size"] (defScope s_number) := ⟨rfl, rfl, rfl, by decide +kernel, rfl, by decide +kernel, by decide +kernel⟩
abbrev s_read : Stmt := topS 25
abbrev N_read : List Str := ["_law_row", "_law_at", "_law_told", "fault"]
theorem sc_read : FnScope N_read ["_law_row", "_law_at"] (defScope s_read) := ⟨rfl, rfl, rfl, by decide +kernel, rfl, by decide +kernel, by decide +kernel⟩
abbrev s_set : Stmt := topS 26
abbrev N_set : List Str := ["_law_row", "_law_at", "_law_x", "fault"]
theorem sc_set : FnScope N_set ["_law_row", "_law_at", "_law_x"] (defScope s_set) := ⟨rfl, rfl, rfl, by decide +kernel, rfl, by decide +kernel, by decide +kernel⟩
abbrev s_pushed : Stmt := topS 27
abbrev N_pushed : List Str := ["_law_row", "_law_x", "_law_other", "fault"]
theorem sc_pushed : FnScope N_pushed ["_law_row", "_law_x"] (defScope s_pushed) := ⟨rfl, rfl, rfl, by decide +kernel, rfl, by decide +kernel, by decide +kernel⟩
abbrev s_deed_right : Stmt := topS 28
abbrev N_deed_right : List Str := ["_law_pot_here", "_law_row", "_law_mine", "_law_lore", "_law_size", "_law_most", "_law_way", "_law_at", "_law_spot", "_law_x", "_law_worth", "_law_due", "_law_told"]
theorem sc_deed_right : FnScope N_deed_right ["_law_pot_here", "_law_row", "_law_mine", "_law_lore"] (defScope s_deed_right) := ⟨rfl, rfl, rfl, by decide +kernel, rfl, by decide +kernel, by decide +kernel⟩
abbrev s_row_right : Stmt := topS 29
abbrev N_row_right : List Str := ["_law_pot_here", "_law_size", "_law_most", "_law_mine", "_law_begun", "_law_row", "_law_mate", "_law_turn", "_law_lap"]
theorem sc_row_right : FnScope N_row_right ["_law_pot_here"] (defScope s_row_right) := ⟨rfl, rfl, rfl, by decide +kernel, rfl, by decide +kernel, by decide +kernel⟩
abbrev s_law : Stmt := topS 30
abbrev N_law : List Str := ["_law_script", "_law_k", "_law_pot_here", "_law_turn"]
theorem sc_law : FnScope N_law ["_law_script"] (defScope s_law) := ⟨rfl, rfl, rfl, by decide +kernel, rfl, by decide +kernel, by decide +kernel⟩
structure Ad where
  C_Fault : Addr
  C_Number : Addr
  C_Row : Addr
  f_Fault_init : Addr
  d_Fault_init : FuncData
  f_is_whole : Addr
  d_is_whole : FuncData
  f_is_size : Addr
  d_is_size : FuncData
  f_is_most : Addr
  d_is_most : FuncData
  f_are_items : Addr
  d_are_items : FuncData
  f_Number_init : Addr
  d_Number_init : FuncData
  f_Number_size : Addr
  d_Number_size : FuncData
  f_Number_worth : Addr
  d_Number_worth : FuncData
  f_worth_of : Addr
  d_worth_of : FuncData
  f_Row_init : Addr
  d_Row_init : FuncData
  f_Row_worths : Addr
  d_Row_worths : FuncData
  f_Row_has : Addr
  d_Row_has : FuncData
  f_Row_len : Addr
  d_Row_len : FuncData
  f_Row_getitem : Addr
  d_Row_getitem : FuncData
  f_Row_set_item : Addr
  d_Row_set_item : FuncData
  f_Row_push_item : Addr
  d_Row_push_item : FuncData
  f_Row_setitem : Addr
  d_Row_setitem : FuncData
  f_Row_iadd : Addr
  d_Row_iadd : FuncData
  f_pot : Addr
  d_pot : FuncData
  f_take : Addr
  d_take : FuncData
  f_number : Addr
  d_number : FuncData
  f_read : Addr
  d_read : FuncData
  f_set : Addr
  d_set : FuncData
  f_pushed : Addr
  d_pushed : FuncData
  f_deed_right : Addr
  d_deed_right : FuncData
  f_row_right : Addr
  d_row_right : FuncData
  f_law : Addr
  d_law : FuncData
  p_size : Addr
  p_worth : Addr
  p_worths : Addr
structure Txt (K : Frag) (mg : Str → Option Value) (A : Ad) : Prop where
  F_Fault_init : Fun K "__init__" "Fault.__init__" s_Fault_init A.f_Fault_init A.d_Fault_init
  b_Fault_init : Binds K A.d_Fault_init ["self", "words"] []
  F_is_whole : Fun K "is_whole" "is_whole" s_is_whole A.f_is_whole A.d_is_whole
  b_is_whole : Binds K A.d_is_whole ["value", "low", "below"] []
  m_is_whole : mg "is_whole" = some (.ref A.f_is_whole)
  F_is_size : Fun K "is_size" "is_size" s_is_size A.f_is_size A.d_is_size
  b_is_size : Binds K A.d_is_size ["value"] []
  m_is_size : mg "is_size" = some (.ref A.f_is_size)
  F_is_most : Fun K "is_most" "is_most" s_is_most A.f_is_most A.d_is_most
  b_is_most : Binds K A.d_is_most ["value"] []
  m_is_most : mg "is_most" = some (.ref A.f_is_most)
  F_are_items : Fun K "are_items" "are_items" s_are_items A.f_are_items A.d_are_items
  b_are_items : Binds K A.d_are_items ["value", "size", "most"] []
  m_are_items : mg "are_items" = some (.ref A.f_are_items)
  F_Number_init : Fun K "__init__" "Number.__init__" s_Number_init A.f_Number_init A.d_Number_init
  b_Number_init : Binds K A.d_Number_init ["self", "size", "worth"] []
  F_Number_size : Fun K "size" "Number.size" s_Number_size A.f_Number_size A.d_Number_size
  b_Number_size : Binds K A.d_Number_size ["self"] []
  F_Number_worth : Fun K "worth" "Number.worth" s_Number_worth A.f_Number_worth A.d_Number_worth
  b_Number_worth : Binds K A.d_Number_worth ["self"] []
  F_worth_of : Fun K "worth_of" "worth_of" s_worth_of A.f_worth_of A.d_worth_of
  b_worth_of : Binds K A.d_worth_of ["number"] []
  m_worth_of : mg "worth_of" = some (.ref A.f_worth_of)
  F_Row_init : Fun K "__init__" "Row.__init__" s_Row_init A.f_Row_init A.d_Row_init
  b_Row_init : Binds K A.d_Row_init ["self", "size", "most", "items"] []
  F_Row_worths : Fun K "worths" "Row.worths" s_Row_worths A.f_Row_worths A.d_Row_worths
  b_Row_worths : Binds K A.d_Row_worths ["self"] []
  F_Row_has : Fun K "has" "Row.has" s_Row_has A.f_Row_has A.d_Row_has
  b_Row_has : Binds K A.d_Row_has ["self", "i"] []
  F_Row_len : Fun K "__len__" "Row.__len__" s_Row_len A.f_Row_len A.d_Row_len
  b_Row_len : Binds K A.d_Row_len ["self"] []
  F_Row_getitem : Fun K "__getitem__" "Row.__getitem__" s_Row_getitem A.f_Row_getitem A.d_Row_getitem
  b_Row_getitem : Binds K A.d_Row_getitem ["self", "at"] []
  F_Row_set_item : Fun K "_set_item" "Row._set_item" s_Row_set_item A.f_Row_set_item A.d_Row_set_item
  b_Row_set_item : Binds K A.d_Row_set_item ["self", "i", "x"] []
  F_Row_push_item : Fun K "_push_item" "Row._push_item" s_Row_push_item A.f_Row_push_item A.d_Row_push_item
  b_Row_push_item : Binds K A.d_Row_push_item ["self", "x"] []
  F_Row_setitem : Fun K "__setitem__" "Row.__setitem__" s_Row_setitem A.f_Row_setitem A.d_Row_setitem
  b_Row_setitem : Binds K A.d_Row_setitem ["self", "at", "worth"] []
  F_Row_iadd : Fun K "__iadd__" "Row.__iadd__" s_Row_iadd A.f_Row_iadd A.d_Row_iadd
  b_Row_iadd : Binds K A.d_Row_iadd ["self", "other"] []
  F_pot : Fun K "_law_pot" "_law_pot" s_pot A.f_pot A.d_pot
  b_pot : Binds K A.d_pot ["_law_script", "_law_k"] []
  m_pot : mg "_law_pot" = some (.ref A.f_pot)
  F_take : Fun K "_law_take" "_law_take" s_take A.f_take A.d_take
  b_take : Binds K A.d_take ["_law_pot_here", "_law_upto"] []
  m_take : mg "_law_take" = some (.ref A.f_take)
  F_number : Fun K "_law_number" "_law_number" s_number A.f_number A.d_number
  b_number : Binds K A.d_number ["_law_pot_here", "_law_size"] []
  m_number : mg "_law_number" = some (.ref A.f_number)
  F_read : Fun K "_law_read" "_law_read" s_read A.f_read A.d_read
  b_read : Binds K A.d_read ["_law_row", "_law_at"] []
  m_read : mg "_law_read" = some (.ref A.f_read)
  F_set : Fun K "_law_set" "_law_set" s_set A.f_set A.d_set
  b_set : Binds K A.d_set ["_law_row", "_law_at", "_law_x"] []
  m_set : mg "_law_set" = some (.ref A.f_set)
  F_pushed : Fun K "_law_pushed" "_law_pushed" s_pushed A.f_pushed A.d_pushed
  b_pushed : Binds K A.d_pushed ["_law_row", "_law_x"] []
  m_pushed : mg "_law_pushed" = some (.ref A.f_pushed)
  F_deed_right : Fun K "_law_deed_right" "_law_deed_right" s_deed_right A.f_deed_right A.d_deed_right
  b_deed_right : Binds K A.d_deed_right ["_law_pot_here", "_law_row", "_law_mine", "_law_lore"] []
  m_deed_right : mg "_law_deed_right" = some (.ref A.f_deed_right)
  F_row_right : Fun K "_law_row_right" "_law_row_right" s_row_right A.f_row_right A.d_row_right
  b_row_right : Binds K A.d_row_right ["_law_pot_here"] []
  m_row_right : mg "_law_row_right" = some (.ref A.f_row_right)
  F_law : Fun K "law" "law" s_law A.f_law A.d_law
  b_law : Binds K A.d_law ["_law_script"] []
  m_law : mg "law" = some (.ref A.f_law)
  m_Fault : mg "Fault" = some (.ref A.C_Fault)
  m_Number : mg "Number" = some (.ref A.C_Number)
  m_Row : mg "Row" = some (.ref A.C_Row)
  g_isinstance : mg "isinstance" = none
  g_int : mg "int" = none
  g_bool : mg "bool" = none
  g_tuple : mg "tuple" = none
  g_list : mg "list" = none
  g_len : mg "len" = none
  g_abs : mg "abs" = none
  g_repr : mg "repr" = none
  g_all : mg "all" = none
  g_range : mg "range" = none
  cls_Number : Cls K A.C_Number
  cls_Row : Cls K A.C_Row
  mk_Number : Mk K A.C_Number A.f_Number_init
  mk_Row : Mk K A.C_Row A.f_Row_init
  nS : NoAttr K A.C_Number "_size"
  nW : NoAttr K A.C_Number "_worth"
  rS : NoAttr K A.C_Row "_size"
  rM : NoAttr K A.C_Row "_most"
  rI : NoAttr K A.C_Row "_items"
  P_size : PropOf K A.C_Number "size" A.p_size A.f_Number_size
  P_worth : PropOf K A.C_Number "worth" A.p_worth A.f_Number_worth
  P_worths : PropOf K A.C_Row "worths" A.p_worths A.f_Row_worths
  M_has : Meth K A.C_Row "has" A.f_Row_has
  M_set_item : Meth K A.C_Row "_set_item" A.f_Row_set_item
  M_push_item : Meth K A.C_Row "_push_item" A.f_Row_push_item
  gi : PySem.W.findIn K (.ref A.C_Row) "__getitem__" = some (some (.ref A.f_Row_getitem))
  gin : PySem.W.fnIn K A.f_Row_getitem = true
  gif : PySem.W.isFn K (.ref A.f_Row_getitem) = true
  nsq : PySem.W.noSeq K A.C_Row = true
  si : PySem.W.findIn K (.ref A.C_Row) "__setitem__" = some (some (.ref A.f_Row_setitem))
  sif : PySem.W.isFn K (.ref A.f_Row_setitem) = true
  rsf : PySem.W.selfFirst K A.C_Row = true
  ia : PySem.W.findIn K (.ref A.C_Row) (dunderI Operator.Add.info.2) = some (some (.ref A.f_Row_iadd))
  iaf : PySem.W.isFn K (.ref A.f_Row_iadd) = true
  ln : PySem.W.findIn K (.ref A.C_Row) "__len__" = some (some (.ref A.f_Row_len))
  lnf : PySem.W.isFn K (.ref A.f_Row_len) = true
  kcl : PySem.W.findIn K (.ref A.C_Number) "__class__" = some (some (.builtin "object.__class__"))
  rcl : PySem.W.findIn K (.ref A.C_Row) "__class__" = some (some (.builtin "object.__class__"))
  kgs : PySem.W.specialIn K (.builtin "object.__class__") "__get__" = some (some (.builtin "getset_descriptor.__get__"))
  ktk : PySem.W.takesIn K (.builtin "object.__class__") = some true
  kob : PySem.W.mroIn K A.C_Number (.type "object") = some true
  rob : PySem.W.mroIn K A.C_Row (.type "object") = some true
  nn : PySem.W.kitOne K (.ref A.C_Number) (.ref A.C_Number) = some true
  ni : PySem.W.kitOne K (.type "int") (.ref A.C_Number) = some false
  rr : PySem.W.kitOne K (.ref A.C_Row) (.ref A.C_Row) = some true
  oex : OexC K A.C_Fault
  xf : XfC K A.C_Fault
  xno : PySem.W.findIn K (.ref A.C_Fault) "words" = some none
  xin : PySem.W.findIn K (.ref A.C_Fault) "__init__" = some (some (.ref A.f_Fault_init))
  xfn : PySem.W.typeIn K (.ref A.f_Fault_init) = some (.type "function")
  xme : PySem.W.exmOne K (.ref A.C_Fault) (.ref A.C_Fault) = some true

/-! ### promises -/
theorem ne_of {H : Hp} {a b : Addr} {o u : HO} (h : H a = some o) (h2 : H b = some u) (n : o ≠ u) : a ≠ b := fun e => n (by rw [e, h2] at h; exact (Option.some.inj h).symm)
def nf (s w : Int) : List (Str × V) := putF "_worth" (.int w) (putF "_size" (.int s) [])
theorem nf_s (s w : Int) : (nf s w).lookup ("_size" : Str) = some (.int s) := by unfold nf; rw [lookup_putF, if_neg (by decide +kernel), lookup_putF, if_pos rfl]
theorem nf_w (s w : Int) : (nf s w).lookup ("_worth" : Str) = some (.int w) := by unfold nf; rw [lookup_putF, if_pos rfl]
def rf (s m : Int) (l : Addr) : List (Str × V) := putF "_items" (.ref l) (putF "_most" (.int m) (putF "_size" (.int s) []))
theorem rf_s (s m : Int) (l : Addr) : (rf s m l).lookup ("_size" : Str) = some (.int s) := by unfold rf; rw [lookup_putF, if_neg (by decide +kernel), lookup_putF, if_neg (by decide +kernel), lookup_putF, if_pos rfl]
theorem rf_m (s m : Int) (l : Addr) : (rf s m l).lookup ("_most" : Str) = some (.int m) := by unfold rf; rw [lookup_putF, if_neg (by decide +kernel), lookup_putF, if_pos rfl]
theorem rf_i (s m : Int) (l : Addr) : (rf s m l).lookup ("_items" : Str) = some (.ref l) := by unfold rf; rw [lookup_putF, if_pos rfl]
theorem rf_h (s m : Int) (l : Addr) : (rf s m l).lookup ("has" : Str) = none := by unfold rf; rw [lookup_putF, if_neg (by decide +kernel), lookup_putF, if_neg (by decide +kernel), lookup_putF, if_neg (by decide +kernel)]; rfl
theorem rf_si (s m : Int) (l : Addr) : (rf s m l).lookup ("_set_item" : Str) = none := by unfold rf; rw [lookup_putF, if_neg (by decide +kernel), lookup_putF, if_neg (by decide +kernel), lookup_putF, if_neg (by decide +kernel)]; rfl
theorem rf_pi (s m : Int) (l : Addr) : (rf s m l).lookup ("_push_item" : Str) = none := by unfold rf; rw [lookup_putF, if_neg (by decide +kernel), lookup_putF, if_neg (by decide +kernel), lookup_putF, if_neg (by decide +kernel)]; rfl
abbrev is (its : List Int) : List V := its.map V.int
/-- a Number of the size s, of the worth w, stands at p -/
def NumAt (C : Addr) (H : Hp) (p : Addr) (s w : Int) : Prop := ∃ dx, H p = some (.ins C dx (nf s w))
theorem NumAt.ex {C p : Addr} {H H' : Hp} {s w : Int} (h : NumAt C H p s w) (e : Ex H H') : NumAt C H' p s w := let ⟨dx, z⟩ := h; ⟨dx, e _ _ z⟩
def Sd (C : Addr) (H : Hp) (v : V) (s w : Int) : Prop := v = .int w ∨ ∃ p, v = .ref p ∧ NumAt C H p s w
theorem Sd.ex {C : Addr} {H H' : Hp} {v : V} {s w : Int} (h : Sd C H v s w) (e : Ex H H') : Sd C H' v s w := h.elim .inl fun ⟨p, a, b⟩ => .inr ⟨p, a, b.ex e⟩
/-- a Row of the size s, of at most m items, stands at r, its list at l -/
structure RowAt (C : Addr) (H : Hp) (r l : Addr) (s m : Int) (its : List Int) : Prop where
  ins : ∃ dx, H r = some (.ins C dx (rf s m l))
  lst : H l = some (.lst (is its))
  s0 : 2 ≤ s
  s1 : s < 5
  m0 : 1 ≤ m
  m1 : m < 3
  len : (its.length : Int) ≤ m
  ok : ∀ i ∈ its, 0 ≤ i ∧ i < s
theorem RowAt.ex {C r l : Addr} {H H' : Hp} {s m : Int} {its : List Int} (h : RowAt C H r l s m its) (e : Ex H H') : RowAt C H' r l s m its := { h with ins := let ⟨dx, z⟩ := h.ins; ⟨dx, e _ _ z⟩, lst := e _ _ h.lst }
theorem RowAt.one {C r l : Addr} {H : Hp} {s m : Int} {its : List Int} (h : RowAt C H r l s m its) : isI C H (.ref r) := let ⟨dx, z⟩ := h.ins; ⟨r, dx, _, rfl, z⟩
theorem RowAt.ne {C r l : Addr} {H : Hp} {s m : Int} {its : List Int} (h : RowAt C H r l s m its) : r ≠ l := let ⟨_, z⟩ := h.ins; ne_of z h.lst (by intro y; cases y)
def spWhole : Sp := fun vs H Q _ => ∃ v lo hi : Int, vs = [.int v, .int lo, .int hi] ∧ Q (.bl (decide (lo ≤ v) && decide (v < hi))) H
def spSize : Sp := fun vs H Q _ => ∃ v : Int, vs = [.int v] ∧ Q (.bl (decide (2 ≤ v) && decide (v < 5))) H
def spMost : Sp := fun vs H Q _ => ∃ v : Int, vs = [.int v] ∧ Q (.bl (decide (1 ≤ v) && decide (v < 3))) H
def spItems (K : Frag) : Sp := fun vs H Q _ => ∃ (t : Addr) (its : List Int) (s m : Int), vs = [.ref t, .int s, .int m] ∧ H t = some (.tup (is its)) ∧ (its.length : Int) ≤ m ∧ m < 3 ∧ (∀ i ∈ its, 0 ≤ i ∧ i < s) ∧ ∀ H', Ex H H' → Q (.bl true) H'
def spNinit (C : Addr) : Sp := fun vs H Q _ => ∃ (x dx : Addr) (s w : Int), vs = [.ref x, .int s, .int w] ∧ H x = some (.ins C dx []) ∧ 2 ≤ s ∧ s < 5 ∧ 0 ≤ w ∧ w < s ∧ Q .non (upd H x (.ins C dx (nf s w)))
def spProp (C : Addr) (f : Int → Int → Int) : Sp := fun vs H Q _ => ∃ (p : Addr) (s w : Int), vs = [.ref p] ∧ NumAt C H p s w ∧ Q (.int (f s w)) H
def spWorthOf (C : Addr) : Sp := fun vs H Q _ => ∃ (v : V) (s w : Int), vs = [v] ∧ Sd C H v s w ∧ Q (.int w) H
/-- a new Number is handed back -/
def NewN (C : Addr) (H : Hp) (Q : VK) (s w : Int) : Prop := ∀ (p : Addr) (H' : Hp), H p = none → Ex H H' → NumAt C H' p s w → Q (.ref p) H'
def Faults (CF : Addr) (H : Hp) (E : XK) (z : Str) : Prop := ∀ (t d : Addr) (H' : Hp), Ex H H' → H' t = some (.tup [.str z]) → H' d = some (.xd [("words", .ref t)]) → E (.ref CF) (some d) H'
def spRinit (C : Addr) : Sp := fun vs H Q _ => ∃ (x dx t : Addr) (s m : Int) (its : List Int), vs = [.ref x, .int s, .int m, .ref t] ∧ H x = some (.ins C dx []) ∧ H t = some (.tup (is its)) ∧ 2 ≤ s ∧ s < 5 ∧ 1 ≤ m ∧ m < 3 ∧ (its.length : Int) ≤ m ∧ (∀ i ∈ its, 0 ≤ i ∧ i < s) ∧
  ∀ (l : Addr) (H' : Hp), H l = none → XB x H H' → RowAt C H' x l s m its → Q .non H'
def spWorths (C : Addr) : Sp := fun vs H Q _ => ∃ (r l : Addr) (s m : Int) (its : List Int), vs = [.ref r] ∧ RowAt C H r l s m its ∧ ∀ t, H t = none → Q (.ref t) (upd H t (.tup (is its)))
def spHas (C CN : Addr) : Sp := fun vs H Q _ => ∃ (r l : Addr) (v : V) (s m u w : Int) (its : List Int), vs = [.ref r, v] ∧ RowAt C H r l s m its ∧ Sd CN H v u w ∧ 0 ≤ w ∧ Q (.bl (decide (w < (its.length : Int)))) H
def spLen (C : Addr) : Sp := fun vs H Q _ => ∃ (r l : Addr) (s m : Int) (its : List Int), vs = [.ref r] ∧ RowAt C H r l s m its ∧ Q (.int its.length) H
def spGet (C CN CF : Addr) : Sp := fun vs H Q E => ∃ (r l : Addr) (v : V) (s m u : Int) (w : Nat) (its : List Int), vs = [.ref r, v] ∧ RowAt C H r l s m its ∧ Sd CN H v u w ∧ (∀ z, its[w]? = some z → NewN CN H Q s z) ∧ (its.length ≤ w → Faults CF H E "index")
def spSet (C CN CF : Addr) : Sp := fun vs H Q E => ∃ (r l : Addr) (v x : V) (s m u u' y : Int) (w : Nat) (its : List Int), vs = [.ref r, v, x] ∧ RowAt C H r l s m its ∧ Sd CN H v u w ∧ Sd CN H x u' y ∧ (w < its.length → Q .non (upd H l (.lst (is (its.set w y))))) ∧ (its.length ≤ w → Faults CF H E "index")
def spPush (C CN CF : Addr) : Sp := fun vs H Q E => ∃ (r l : Addr) (x : V) (s m u y : Int) (its : List Int), vs = [.ref r, x] ∧ RowAt C H r l s m its ∧ Sd CN H x u y ∧ ((its.length : Int) ≠ m → Q (.ref r) (upd H l (.lst (is (its ++ [y]))))) ∧ ((its.length : Int) = m → Faults CF H E "full")
def spPushI (C CN CF : Addr) : Sp := fun vs H Q E => ∃ (r l : Addr) (x : V) (s m u y : Int) (its : List Int), vs = [.ref r, x] ∧ RowAt C H r l s m its ∧ Sd CN H x u y ∧ ((its.length : Int) ≠ m → Q .non (upd H l (.lst (is (its ++ [y]))))) ∧ ((its.length : Int) = m → Faults CF H E "full")
theorem small {n : Nat} (h : n < 1000) : n < sizeLine := Nat.lt_of_lt_of_le h (by decide)
theorem rep_next {i : Nat} : List.replicate i (V.bl true) ++ [V.bl true] = List.replicate (i + 1) (V.bl true) := by rw [List.replicate_succ']
theorem Ex.mu {H H' : Hp} {p : Addr} {o : HO} (e : Ex H H') (h : H p = none) : Ex H (upd H' p o) := fun a u ha => by
  rw [upd_ne (ne_of_none ha h)]
  exact e a u ha
theorem rep_bl (n : Nat) : List.replicate n (V.bl true) = (List.replicate n true).map V.bl := by rw [List.map_replicate]
theorem rep_all (n : Nat) : (List.replicate n true).all id = true := by simp


section
variable {P : Program} {w : World} {K : Frag} {mg : Str → Option Value} {base : Heap} {A : Ad}

theorem ok_is_whole (T : Txt K mg A) : FnOk P w K mg base CX0 1 A.f_is_whole A.d_is_whole ["value", "low", "below"] (spWhole) := by
  refine T.F_is_whole.ok sc_is_whole (fun vs H Q E h => ?_) (fun cdv A0 outer s H vs Q E hr h => ?_)
  · obtain ⟨_, _, _, rfl, _⟩ := h
    rfl
  · have hu := hu_of hr
    obtain ⟨v, lo, hi, rfl, k⟩ := h
    refine ⟨_, (pss_one (ps_ret (pe_and (pe_callB call_isi (by rfl) T.g_isinstance (by decide +kernel) (pa_cons (pv 0) (pa_cons (pe_bltn (v := .ty "int") (by rfl) T.g_int (by decide +kernel) rfl) pa_nil))) (pe_and (pe_not (pe_callB call_isi (by rfl) T.g_isinstance (by decide +kernel) (pa_cons (pv 0) (pa_cons (pe_bltn (v := .ty "bool") (by rfl) T.g_bool (by decide +kernel) rfl) pa_nil)))) (pe_one (pe_chain op_le op_lt (pv 1) (pv 0) (pv 2))))))), ?_⟩
    refine ⟨_, rfl, _, _, _, _, _, rfl, .ty _, .base (.int _), kit_ty (by decide +kernel), true, rfl, iteT ?_⟩
    refine ⟨_, rfl, _, _, _, _, _, rfl, .ty _, .base (.int _), kit_ty (by decide +kernel), false, rfl, true, rfl, iteT ?_⟩
    refine ⟨_, rfl, _, rfl, _, _, rfl, rfl, _, rfl, if_dec (fun h1 => ?_) (fun h1 => ?_)⟩
    · refine ⟨_, rfl, _, _, rfl, rfl, ?_⟩
      rw [decide_eq_true h1] at k
      exact k
    · rw [decide_eq_false h1] at k
      exact k
theorem ok_is_size (T : Txt K mg A) : FnOk P w K mg base CX0 2 A.f_is_size A.d_is_size ["value"] (spSize) := by
  refine T.F_is_size.ok sc_is_size (fun vs H Q E h => ?_) (fun cdv A0 outer s H vs Q E hr h => ?_)
  · obtain ⟨_, rfl, _⟩ := h
    rfl
  · have hu := hu_of hr
    obtain ⟨v, rfl, k⟩ := h
    refine ⟨_, (pss_one (ps_ret (pe_call (ok_is_whole T) (hr.mono (by decide)) (by rfl) T.m_is_whole T.F_is_whole.kp T.b_is_whole .nil pass0 (pa_cons (pv 0) (pa_cons pe_int (pa_cons pe_int pa_nil)))))), ?_⟩
    exact ⟨_, rfl, _, _, _, rfl, k⟩
theorem ok_is_most (T : Txt K mg A) : FnOk P w K mg base CX0 2 A.f_is_most A.d_is_most ["value"] (spMost) := by
  refine T.F_is_most.ok sc_is_most (fun vs H Q E h => ?_) (fun cdv A0 outer s H vs Q E hr h => ?_)
  · obtain ⟨_, rfl, _⟩ := h
    rfl
  · have hu := hu_of hr
    obtain ⟨v, rfl, k⟩ := h
    refine ⟨_, (pss_one (ps_ret (pe_call (ok_is_whole T) (hr.mono (by decide)) (by rfl) T.m_is_whole T.F_is_whole.kp T.b_is_whole .nil pass0 (pa_cons (pv 0) (pa_cons pe_int (pa_cons pe_int pa_nil)))))), ?_⟩
    exact ⟨_, rfl, _, _, _, rfl, k⟩
theorem ok_are_items (T : Txt K mg A) : FnOk P w K mg base CX0 2 A.f_are_items A.d_are_items ["value", "size", "most"] (spItems K) := by
  refine T.F_are_items.ok sc_are_items (fun vs H Q E h => ?_) (fun cdv A0 outer s H vs Q E hr h => ?_)
  · obtain ⟨_, _, _, _, rfl, _⟩ := h
    rfl
  · have hu := hu_of hr
    obtain ⟨t, its, sz, mo, rfl, ht, hl, hm, hok, k⟩ := h
    refine ⟨_, (pss_cons (ps_if (PW.pt (pw_or (pt_not (pt_val (pe_callB call_isi (by rfl) T.g_isinstance (by decide +kernel) (pa_cons (pv 0) (pa_cons (pe_bltn (v := .ty "tuple") (by rfl) T.g_tuple (by decide +kernel) rfl) pa_nil))))) (pw_or1 (pt_cmpR op_gt (pe_callB call_len_seq (by rfl) T.g_len (by decide +kernel) (pa_cons (pv 0) pa_nil)) (pv 2) (nomark _))))) (pss_one (ps_ret pe_bl)) pss_nil)
      (pss_one (ps_ret (pe_callB (cr_all rfl) (by rfl) T.g_all (by decide +kernel) (pa_cons (pe_lc (own := [("worth", 3)]) (g := gName 3) (tt := tYes) rfl sc_are_items.nd (pi_tup (pv 0)) (blkOk_by (N := N_are_items) (sc := defScope s_are_items) (by decide +kernel)) (fun _ _ _ _ _ => pg_name (i := 3) sc_are_items.nd rfl (Or.inl rfl)) (fun _ _ _ _ _ => pts_nil) (fun _ _ _ _ _ => (pe_call (ok_is_whole T) (hr.mono (by decide)) (by rfl) T.m_is_whole T.F_is_whole.kp T.b_is_whole .nil pass0 (pa_cons (pv 3) (pa_cons pe_int (pa_cons (pv 1) pa_nil)))))) pa_nil))))), ?_⟩
    refine ⟨_, rfl, _, _, _, _, _, rfl, .ty _, .base (.tup ht), kit_ty (by decide +kernel), true, rfl, ?_⟩
    refine if_false rfl ?_
    refine ⟨_, rfl, t, _, rfl, .inr (SqT.of ht), _, rfl, _, _, rfl, rfl, _, rfl, if_false (decide_eq_false (by rw [List.length_map]; omega)) ?_⟩
    refine ⟨_, rfl, t, rfl, ⟨_, SqT.of ht⟩, fun D nD => lc_tup (fun j H' => Ex H H' ∧ H' D = some (.lst (List.replicate j (.bl true)))) ⟨Ex.nw nD, upd_same⟩ (fun i H' _ h' => SqT.of (h'.1 _ _ ht)) ?_ ?_⟩
    · rintro i x H' hx ⟨e1, hD⟩
      rw [List.getElem?_map] at hx
      obtain ⟨z, hz, rfl⟩ := Option.map_eq_some_iff.mp hx
      have hb := hok z (List.mem_of_getElem? hz)
      have hi := (List.getElem?_eq_some_iff.mp hz).1
      refine ⟨rfl, _, rfl, _, rfl, z, 0, sz, rfl, ?_⟩
      rw [decide_eq_true hb.1, decide_eq_true hb.2]
      refine ⟨_, hD, small (by rw [List.length_replicate]; omega), Ex.mu e1 nD, ?_⟩
      rw [show (true && true) = true from rfl, rep_next]
      exact upd_same
    · rintro H' ⟨e1, hD⟩
      refine ⟨D, List.replicate _ true, rfl, SqL.of (by rw [hD, rep_bl]), ?_⟩
      rw [rep_all]
      exact k _ e1
theorem ok_Number_init (T : Txt K mg A) : FnOk P w K mg base CX0 3 A.f_Number_init A.d_Number_init ["self", "size", "worth"] (spNinit A.C_Number) := by
  refine T.F_Number_init.ok sc_Number_init (fun vs H Q E h => ?_) (fun cdv A0 outer s H vs Q E hr h => ?_)
  · obtain ⟨_, _, _, _, rfl, _⟩ := h
    rfl
  · have hu := hu_of hr
    obtain ⟨x, dx, sz, wo, rfl, hx, h1, h2, h3, h4, k⟩ := h
    refine ⟨_, (pss_cons (ps_if (pt_not (pt_val (pe_call (ok_is_size T) (hr.mono (by decide)) (by rfl) T.m_is_size T.F_is_size.kp T.b_is_size .nil pass0 (pa_cons (pv 1) pa_nil)))) (pss_one ps_never) pss_nil)
      (pss_cons (ps_if (pt_not (pt_val (pe_call (ok_is_whole T) (hr.mono (by decide)) (by rfl) T.m_is_whole T.F_is_whole.kp T.b_is_whole .nil pass0 (pa_cons (pv 2) (pa_cons pe_int (pa_cons (pv 1) pa_nil)))))) (pss_one ps_never) pss_nil)
      (pss_cons (ps_fld (pv 0) (pv 1) rfl)
      (pss_one (ps_fld (pv 0) (pv 2) rfl))))), ?_⟩
    refine ⟨_, rfl, _, rfl, _, rfl, ?_⟩
    refine if_false (by rw [decide_eq_true h1, decide_eq_true h2]; rfl) ?_
    refine ⟨_, rfl, _, rfl, _, _, _, rfl, _, rfl, ?_⟩
    refine if_false (by rw [decide_eq_true h3, decide_eq_true h4]; rfl) ?_
    refine ⟨_, rfl, _, rfl, x, A.C_Number, dx, _, rfl, hx, T.cls_Number, T.nS, (by show 0 < 1000; decide), _, rfl, _, rfl, x, A.C_Number, dx, _, rfl, upd_same, T.cls_Number, T.nW, (by show 1 < 1000; decide), ?_⟩
    rw [upd_upd]
    exact k
theorem ok_size (T : Txt K mg A) : FnOk P w K mg base CX0 1 A.f_Number_size A.d_Number_size ["self"] (spProp A.C_Number (fun s _ => s)) := by
  refine T.F_Number_size.ok sc_Number_size (fun vs H Q E h => ?_) (fun cdv A0 outer s H vs Q E hr h => ?_)
  · obtain ⟨_, _, _, rfl, _⟩ := h
    rfl
  · have hu := hu_of hr
    obtain ⟨p, sz, wo, rfl, ⟨dx, hp⟩, k⟩ := h
    refine ⟨_, (pss_one (ps_ret (pe_fld (pv 0) rfl))), ?_⟩
    exact ⟨_, rfl, p, A.C_Number, dx, _, _, rfl, hp, T.cls_Number, T.nS, nf_s _ _, k⟩
theorem ok_worth (T : Txt K mg A) : FnOk P w K mg base CX0 1 A.f_Number_worth A.d_Number_worth ["self"] (spProp A.C_Number (fun _ w => w)) := by
  refine T.F_Number_worth.ok sc_Number_worth (fun vs H Q E h => ?_) (fun cdv A0 outer s H vs Q E hr h => ?_)
  · obtain ⟨_, _, _, rfl, _⟩ := h
    rfl
  · have hu := hu_of hr
    obtain ⟨p, sz, wo, rfl, ⟨dx, hp⟩, k⟩ := h
    refine ⟨_, (pss_one (ps_ret (pe_fld (pv 0) rfl))), ?_⟩
    exact ⟨_, rfl, p, A.C_Number, dx, _, _, rfl, hp, T.cls_Number, T.nW, nf_w _ _, k⟩
theorem ty_num (T : Txt K mg A) {H : Hp} {p : Addr} {s w : Int} (h : NumAt A.C_Number H p s w) : TyX K H (.ref p) (.ref A.C_Number) := let ⟨_, e⟩ := h; .base (.ins e T.cls_Number T.kcl T.kgs T.ktk T.kob)
theorem ty_row (T : Txt K mg A) {H : Hp} {r l : Addr} {s m : Int} {its : List Int} (h : RowAt A.C_Row H r l s m its) : TyX K H (.ref r) (.ref A.C_Row) := let ⟨_, e⟩ := h.ins; .base (.ins e T.cls_Row T.rcl T.kgs T.ktk T.rob)
theorem ok_worth_of (T : Txt K mg A) : FnOk P w K mg base CX0 3 A.f_worth_of A.d_worth_of ["number"] (spWorthOf A.C_Number) := by
  refine T.F_worth_of.ok sc_worth_of (fun vs H Q E h => ?_) (fun cdv A0 outer s H vs Q E hr h => ?_)
  · obtain ⟨_, _, _, rfl, _⟩ := h
    rfl
  · have hu := hu_of hr
    obtain ⟨v, sz, wo, rfl, hv, k⟩ := h
    refine ⟨_, (pss_cons (ps_if (pt_val (pe_callB call_isi (by rfl) T.g_isinstance (by decide +kernel) (pa_cons (pv 0) (pa_cons (pe_glob (v := .ref A.C_Number) (by rfl) T.m_Number rfl) pa_nil)))) (pss_one (ps_ret (pe_prop (pv 0) T.cls_Number T.P_worth (ok_worth T) (hr.mono (by decide)) T.b_Number_worth .nil pass0 rfl))) pss_nil)
      (pss_one (ps_ret (pv 0)))), ?_⟩
    rcases hv with rfl | ⟨p, rfl, hp⟩
    · refine ⟨_, rfl, _, _, _, _, _, rfl, .own _, .base (.int _), T.ni, _, rfl, iteF ?_⟩
      exact ⟨_, rfl, k⟩
    · refine ⟨_, rfl, _, _, _, _, _, rfl, .own _, ty_num T hp, T.nn, _, rfl, iteT ?_⟩
      obtain ⟨dx, z⟩ := id hp
      exact ⟨_, rfl, p, dx, _, rfl, z, p, sz, wo, rfl, hp, k⟩
theorem ok_Row_init (T : Txt K mg A) : FnOk P w K mg base CX0 3 A.f_Row_init A.d_Row_init ["self", "size", "most", "items"] (spRinit A.C_Row) := by
  refine T.F_Row_init.ok sc_Row_init (fun vs H Q E h => ?_) (fun cdv A0 outer s H vs Q E hr h => ?_)
  · obtain ⟨_, _, _, _, _, _, rfl, _⟩ := h
    rfl
  · have hu := hu_of hr
    obtain ⟨x, dx, t, sz, mo, its, rfl, hx, ht, h1, h2, h3, h4, h5, hok, k⟩ := h
    refine ⟨_, (pss_cons (ps_if (pt_not (pt_val (pe_call (ok_is_size T) (hr.mono (by decide)) (by rfl) T.m_is_size T.F_is_size.kp T.b_is_size .nil pass0 (pa_cons (pv 1) pa_nil)))) (pss_one ps_never) pss_nil)
      (pss_cons (ps_if (pt_not (pt_val (pe_call (ok_is_most T) (hr.mono (by decide)) (by rfl) T.m_is_most T.F_is_most.kp T.b_is_most .nil pass0 (pa_cons (pv 2) pa_nil)))) (pss_one ps_never) pss_nil)
      (pss_cons (ps_if (pt_not (pt_val (pe_call (ok_are_items T) (hr.mono (by decide)) (by rfl) T.m_are_items T.F_are_items.kp T.b_are_items .nil pass0 (pa_cons (pv 3) (pa_cons (pv 1) (pa_cons (pv 2) pa_nil)))))) (pss_one ps_never) pss_nil)
      (pss_cons (ps_fld (pv 0) (pv 1) rfl)
      (pss_cons (ps_fld (pv 0) (pv 2) rfl)
      (pss_one (ps_fld (pv 0) (pe_callTy call_list_of (by rfl) T.g_list (by decide +kernel) (pa_cons (pv 3) pa_nil)) rfl))))))), ?_⟩
    refine ⟨_, rfl, _, rfl, _, rfl, ?_⟩
    refine if_false (by rw [decide_eq_true h1, decide_eq_true h2]; rfl) ?_
    refine ⟨_, rfl, _, rfl, _, rfl, ?_⟩
    refine if_false (by rw [decide_eq_true h3, decide_eq_true h4]; rfl) ?_
    refine ⟨_, rfl, _, rfl, _, rfl, t, its, sz, mo, rfl, ht, h5, h4, hok, fun H1 e1 => ⟨_, rfl, if_false rfl ?_⟩⟩
    have nxt : t ≠ x := ne_of ht hx (by intro y; cases y)
    have ht1 := e1 _ _ ht
    refine ⟨_, rfl, _, rfl, x, A.C_Row, dx, _, rfl, e1 _ _ hx, T.cls_Row, T.rS, (by show 0 < 1000; decide), _, rfl, _, rfl, x, A.C_Row, dx, _, rfl, upd_same, T.cls_Row, T.rM, (by show 1 < 1000; decide), ?_⟩
    rw [upd_upd]
    refine ⟨_, rfl, t, _, rfl, .inr (SqT.of (by rw [upd_ne nxt]; exact ht1)), fun l hl => ?_⟩
    have hlx : x ≠ l := ne_of_none upd_same hl
    rw [upd_ne (Ne.symm hlx)] at hl
    refine ⟨_, rfl, x, A.C_Row, dx, _, rfl, (by rw [upd_ne hlx]; exact upd_same), T.cls_Row, T.rI, (by show 2 < 1000; decide), ?_⟩
    refine k l _ (e1.fr hl) (fun a o na e => ?_) { ins := ⟨dx, upd_same⟩, lst := by rw [upd_ne (Ne.symm hlx)]; exact upd_same, s0 := h1, s1 := h2, m0 := h3, m1 := h4, len := h5, ok := hok }
    have e' := e1 _ _ e
    rw [upd_ne na, upd_ne (ne_of_none e' hl), upd_ne na]
    exact e'
end
end K02
set_option Elab.async false
set_option linter.all false
set_option maxRecDepth 100000
set_option maxHeartbeats 4400000
namespace K02
open PySem PySem.Spec PyProof.Rows L2 HX
open PySem.W (Frag)


def spFinit (C : Addr) : Sp := fun vs H Q _ => ∃ (a : Addr) (v : V), vs = [.ref a, v] ∧ H a = some (exo a C none) ∧ ∀ dx, H dx = none → dx ≠ a → Q .non (upd (upd H dx (exd dx [("words", v)])) a (exo a C (some dx)))
theorem made {C x dx : Addr} {H : Hp} {s w : Int} (nx : H x = none) (ndx : H dx = none) : ∃ H1, H1 = upd (upd (upd H dx (.own x)) x (.ins C dx [])) x (.ins C dx (nf s w)) ∧ Ex H H1 ∧ NumAt C H1 x s w :=
  ⟨_, rfl, fun c o e => by rw [upd_ne (ne_of_none e nx), upd_ne (ne_of_none e nx), upd_ne (ne_of_none e ndx)]; exact e, ⟨dx, upd_same⟩⟩
theorem at_is {its : List Int} {w : Nat} {z : Int} (h : its[w]? = some z) : atI (is its) (w : Int) = some (.int z) := atI_nat (by rw [List.getElem?_map, h]; rfl)
theorem map_set (its : List Int) (w : Nat) (y : Int) : (is its).set w (.int y) = is (its.set w y) := by show (its.map V.int).set w (.int y) = (its.set w y).map V.int; rw [List.map_set]
theorem map_app (its : List Int) (y : Int) : is its ++ [.int y] = is (its ++ [y]) := by show its.map V.int ++ [.int y] = (its ++ [y]).map V.int; rw [List.map_append]; rfl
theorem ix_nat {n j : Nat} (hj : j < n) : ixN n (j : Int) = some j := by
  unfold ixN
  rw [if_pos (by omega), if_pos (by omega)]
  simp

section
variable {P : Program} {w : World} {K : Frag} {mg : Str → Option Value} {base : Heap} {A : Ad}

theorem ok_Fault_init (T : Txt K mg A) : FnOk P w K mg base CX0 1 A.f_Fault_init A.d_Fault_init ["self", "words"] (spFinit A.C_Fault) := by
  refine T.F_Fault_init.ok sc_Fault_init (fun vs H Q E h => ?_) (fun cdv A0 outer s H vs Q E hr h => ?_)
  · obtain ⟨_, _, rfl, _⟩ := h
    rfl
  · have hu := hu_of hr
    obtain ⟨a, v, rfl, ha, k⟩ := h
    refine ⟨_, pss_one (ps_ost (pv 0) (pv 1)), ?_⟩
    exact ⟨_, rfl, _, rfl, a, A.C_Fault, rfl, T.oex, T.xno, .inl ⟨ha, k⟩⟩
theorem ok_worths (T : Txt K mg A) : FnOk P w K mg base CX0 1 A.f_Row_worths A.d_Row_worths ["self"] (spWorths A.C_Row) := by
  refine T.F_Row_worths.ok sc_Row_worths (fun vs H Q E h => ?_) (fun cdv A0 outer s H vs Q E hr h => ?_)
  · obtain ⟨_, _, _, _, _, rfl, _⟩ := h
    rfl
  · have hu := hu_of hr
    obtain ⟨r, l, sz, mo, its, rfl, hR, k⟩ := h
    refine ⟨_, (pss_one (ps_ret (pe_callTy call_tuple_of (by rfl) T.g_tuple (by decide +kernel) (pa_cons (pe_fld (pv 0) rfl) pa_nil)))), ?_⟩
    obtain ⟨dx, hi⟩ := hR.ins
    exact ⟨_, rfl, r, A.C_Row, dx, _, _, rfl, hi, T.cls_Row, T.rI, rf_i _ _ _, l, _, rfl, .inl ⟨SqL.of hR.lst, k⟩⟩
theorem ok_has (T : Txt K mg A) : FnOk P w K mg base CX0 4 A.f_Row_has A.d_Row_has ["self", "i"] (spHas A.C_Row A.C_Number) := by
  refine T.F_Row_has.ok sc_Row_has (fun vs H Q E h => ?_) (fun cdv A0 outer s H vs Q E hr h => ?_)
  · obtain ⟨_, _, _, _, _, _, _, _, rfl, _⟩ := h
    rfl
  · have hu := hu_of hr
    obtain ⟨r, l, v, sz, mo, u, w', its, rfl, hR, hv, h0, k⟩ := h
    refine ⟨_, (pss_one (ps_ret (pe_chain op_le op_lt pe_int (pe_call (ok_worth_of T) (hr.mono (by decide)) (by rfl) T.m_worth_of T.F_worth_of.kp T.b_worth_of .nil pass0 (pa_cons (pv 1) pa_nil)) (pe_callB call_len_seq (by rfl) T.g_len (by decide +kernel) (pa_cons (pe_fld (pv 0) rfl) pa_nil))))), ?_⟩
    obtain ⟨dx, hi⟩ := hR.ins
    refine ⟨_, rfl, v, u, w', rfl, hv, _, _, rfl, rfl, _, rfl, ?_⟩
    rw [decide_eq_true h0]
    refine iteT ?_
    refine ⟨_, rfl, r, A.C_Row, dx, _, _, rfl, hi, T.cls_Row, T.rI, rf_i _ _ _, l, _, rfl, .inl (SqL.of hR.lst), _, _, rfl, rfl, ?_⟩
    rw [List.length_map]
    exact k
theorem ok_len (T : Txt K mg A) : FnOk P w K mg base CX0 1 A.f_Row_len A.d_Row_len ["self"] (spLen A.C_Row) := by
  refine T.F_Row_len.ok sc_Row_len (fun vs H Q E h => ?_) (fun cdv A0 outer s H vs Q E hr h => ?_)
  · obtain ⟨_, _, _, _, _, rfl, _⟩ := h
    rfl
  · have hu := hu_of hr
    obtain ⟨r, l, sz, mo, its, rfl, hR, k⟩ := h
    refine ⟨_, (pss_one (ps_ret (pe_callB call_len_seq (by rfl) T.g_len (by decide +kernel) (pa_cons (pe_fld (pv 0) rfl) pa_nil)))), ?_⟩
    obtain ⟨dx, hi⟩ := hR.ins
    refine ⟨_, rfl, r, A.C_Row, dx, _, _, rfl, hi, T.cls_Row, T.rI, rf_i _ _ _, l, _, rfl, .inl (SqL.of hR.lst), ?_⟩
    rw [List.length_map]
    exact k
theorem ok_getitem (T : Txt K mg A) : FnOk P w K mg base (L2.CX P w) 5 A.f_Row_getitem A.d_Row_getitem ["self", "at"] (spGet A.C_Row A.C_Number A.C_Fault) := by
  refine T.F_Row_getitem.okX sc_Row_getitem (fun vs H Q E h => ?_) (fun cdv A0 outer s H vs Q E hr h => ?_)
  · obtain ⟨_, _, _, _, _, _, _, _, rfl, _⟩ := h
    rfl
  · have hu := hu_of hr
    obtain ⟨r, l, v, sz, mo, u, w', its, rfl, hR, hv, k, kE⟩ := h
    refine ⟨_, (pss_cons (ps_if (pt_not (pt_val (pe_meth (pv 0) T.cls_Row T.M_has (ok_has T) (hr.mono (by decide)) T.b_Row_has .nil pass0 (pa_cons (pv 1) pa_nil)))) (pss_one (ps_raise rfl (takes_of rfl rfl rfl rfl) (pmk_oex T.oex T.xin T.xfn (ok_Fault_init T) (hr.mono (by decide)) T.b_Fault_init .nil pass0 rfl T.m_Fault (pa_cons (pe_tup (pa_cons pe_str pa_nil)) pa_nil)))) pss_nil)
      (pss_one (ps_ret (pe_make T.mk_Number (ok_Number_init T) (hr.mono (by decide)) (by rfl) T.m_Number T.b_Number_init .nil pass0 (pa_cons (pe_fld (pv 0) rfl) (pa_cons (pe_ix ix_list (pe_fld (pv 0) rfl) (pe_call (ok_worth_of T) (hr.mono (by decide)) (by rfl) T.m_worth_of T.F_worth_of.kp T.b_worth_of .nil pass0 (pa_cons (pv 1) pa_nil)) (fun _ _ => rfl)) pa_nil)))))), ?_⟩
    obtain ⟨dx, hi⟩ := hR.ins
    refine ⟨_, rfl, r, dx, _, rfl, hi, rf_h _ _ _, _, rfl, r, l, v, sz, mo, u, w', its, rfl, hR, hv, by omega, _, rfl, ?_⟩
    by_cases hw : w' < its.length
    · refine if_false (by rw [decide_eq_true (by omega)]; rfl) ?_
      obtain ⟨z, hz⟩ : ∃ z, its[w']? = some z := ⟨_, List.getElem?_eq_getElem hw⟩
      have hb := hR.ok z (List.mem_of_getElem? hz)
      refine ⟨_, rfl, r, A.C_Row, dx, _, _, rfl, hi, T.cls_Row, T.rS, rf_s _ _ _, _, rfl, r, A.C_Row, dx, _, _, rfl, hi, T.cls_Row, T.rI, rf_i _ _ _, _, rfl, v, u, _, rfl, hv, l, _, _, _, rfl, rfl, SqL.of hR.lst, at_is hz, fun x dx2 nx ndx ne => ?_⟩
      refine ⟨x, dx2, _, _, rfl, upd_same, hR.s0, hR.s1, hb.1, hb.2, rfl, ?_⟩
      obtain ⟨H1, E1, e1, num1⟩ := made (C := A.C_Number) (s := sz) (w := z) nx ndx
      rw [← E1]
      exact k z hz x H1 nx e1 num1
    · refine if_true (by rw [decide_eq_false (by omega)]; rfl) ?_
      refine ⟨(by show 1 ≤ sizeLine; decide), fun t ht => ?_⟩
      refine ⟨(by show 1 ≤ 1000; decide), fun x nx => ⟨x, _, rfl, upd_same, fun dx ndx ne => ⟨rfl, dx, _, upd_same, (by rw [upd_ne ne, upd_same]), ?_, ?_⟩⟩⟩
      · rw [upd_ne ne] at ndx
        exact ndx
      · rw [upd_ne ne] at ndx
        have tx : t ≠ x := ne_of_none (o := .tup [.str "index"]) upd_same nx
        have td : t ≠ dx := ne_of_none (o := .tup [.str "index"]) upd_same ndx
        refine kE (by omega) t dx _ (fun c o e => ?_) ?_ upd_same
        · have ct := ne_of_none e ht
          have e' : upd H t (.tup [.str "index"]) c = some o := by rw [upd_ne ct]; exact e
          have cx := ne_of_none e' nx
          have cd := ne_of_none e' ndx
          rw [upd_ne cd, del_ne cx, upd_ne cx, upd_ne cd, upd_ne cx]
          exact e'
        · rw [upd_ne td, del_ne tx, upd_ne tx, upd_ne td, upd_ne tx]
          exact upd_same
theorem ok_set_item (T : Txt K mg A) : FnOk P w K mg base (L2.CX P w) 5 A.f_Row_set_item A.d_Row_set_item ["self", "i", "x"] (spSet A.C_Row A.C_Number A.C_Fault) := by
  refine T.F_Row_set_item.okX sc_Row_set_item (fun vs H Q E h => ?_) (fun cdv A0 outer s H vs Q E hr h => ?_)
  · obtain ⟨_, _, _, _, _, _, _, _, _, _, _, rfl, _⟩ := h
    rfl
  · have hu := hu_of hr
    obtain ⟨r, l, v, xx, sz, mo, u, u', y, w', its, rfl, hR, hv, hx, k, kE⟩ := h
    refine ⟨_, (pss_cons (ps_if (pt_not (pt_val (pe_meth (pv 0) T.cls_Row T.M_has (ok_has T) (hr.mono (by decide)) T.b_Row_has .nil pass0 (pa_cons (pv 1) pa_nil)))) (pss_one (ps_raise rfl (takes_of rfl rfl rfl rfl) (pmk_oex T.oex T.xin T.xfn (ok_Fault_init T) (hr.mono (by decide)) T.b_Fault_init .nil pass0 rfl T.m_Fault (pa_cons (pe_tup (pa_cons pe_str pa_nil)) pa_nil)))) pss_nil)
      (pss_one (ps_asg (pe_call (ok_worth_of T) (hr.mono (by decide)) (by rfl) T.m_worth_of T.F_worth_of.kp T.b_worth_of .nil pass0 (pa_cons (pv 2) pa_nil)) (pg_sub (pe_fld (pv 0) rfl) (pe_call (ok_worth_of T) (hr.mono (by decide)) (by rfl) T.m_worth_of T.F_worth_of.kp T.b_worth_of .nil pass0 (pa_cons (pv 1) pa_nil)) set_list)))), ?_⟩
    obtain ⟨dx, hi⟩ := hR.ins
    refine ⟨_, rfl, r, dx, _, rfl, hi, rf_h _ _ _, _, rfl, r, l, v, sz, mo, u, w', its, rfl, hR, hv, by omega, _, rfl, ?_⟩
    by_cases hw : w' < its.length
    · refine if_false (by rw [decide_eq_true (by omega)]; rfl) ?_
      refine ⟨_, rfl, xx, u', y, rfl, hx, _, rfl, r, A.C_Row, dx, _, _, rfl, hi, T.cls_Row, T.rI, rf_i _ _ _, _, rfl, v, u, _, rfl, hv, l, _, _, w', rfl, rfl, hR.lst, ix_nat (by rw [List.length_map]; exact hw), ?_⟩
      rw [map_set]
      exact k hw
    · refine if_true (by rw [decide_eq_false (by omega)]; rfl) ?_
      refine ⟨(by show 1 ≤ sizeLine; decide), fun t ht => ?_⟩
      refine ⟨(by show 1 ≤ 1000; decide), fun x nx => ⟨x, _, rfl, upd_same, fun dx ndx ne => ⟨rfl, dx, _, upd_same, (by rw [upd_ne ne, upd_same]), ?_, ?_⟩⟩⟩
      · rw [upd_ne ne] at ndx
        exact ndx
      · rw [upd_ne ne] at ndx
        have tx : t ≠ x := ne_of_none (o := .tup [.str "index"]) upd_same nx
        have td : t ≠ dx := ne_of_none (o := .tup [.str "index"]) upd_same ndx
        refine kE (by omega) t dx _ (fun c o e => ?_) ?_ upd_same
        · have ct := ne_of_none e ht
          have e' : upd H t (.tup [.str "index"]) c = some o := by rw [upd_ne ct]; exact e
          have cx := ne_of_none e' nx
          have cd := ne_of_none e' ndx
          rw [upd_ne cd, del_ne cx, upd_ne cx, upd_ne cd, upd_ne cx]
          exact e'
        · rw [upd_ne td, del_ne tx, upd_ne tx, upd_ne td, upd_ne tx]
          exact upd_same
theorem ok_push_item (T : Txt K mg A) : FnOk P w K mg base (L2.CX P w) 4 A.f_Row_push_item A.d_Row_push_item ["self", "x"] (spPushI A.C_Row A.C_Number A.C_Fault) := by
  refine T.F_Row_push_item.okX sc_Row_push_item (fun vs H Q E h => ?_) (fun cdv A0 outer s H vs Q E hr h => ?_)
  · obtain ⟨_, _, _, _, _, _, _, _, rfl, _⟩ := h
    rfl
  · have hu := hu_of hr
    obtain ⟨r, l, xx, sz, mo, u, y, its, rfl, hR, hx, k, kE⟩ := h
    refine ⟨_, (pss_cons (ps_if (pt_cmpR op_eq (pe_callB call_len_seq (by rfl) T.g_len (by decide +kernel) (pa_cons (pe_fld (pv 0) rfl) pa_nil)) (pe_fld (pv 0) rfl) (nomark _)) (pss_one (ps_raise rfl (takes_of rfl rfl rfl rfl) (pmk_oex T.oex T.xin T.xfn (ok_Fault_init T) (hr.mono (by decide)) T.b_Fault_init .nil pass0 rfl T.m_Fault (pa_cons (pe_tup (pa_cons pe_str pa_nil)) pa_nil)))) pss_nil)
      (pss_one (ps_expr (pe_bm PySem.F.plainAttrs_list PySem.F.slot_list_append PySem.F.type_list_append mt_append (pe_fld (pv 0) rfl) (pa_cons (pe_call (ok_worth_of T) (hr.mono (by decide)) (by rfl) T.m_worth_of T.F_worth_of.kp T.b_worth_of .nil pass0 (pa_cons (pv 1) pa_nil)) pa_nil))))), ?_⟩
    obtain ⟨dx, hi⟩ := hR.ins
    refine ⟨_, rfl, r, A.C_Row, dx, _, _, rfl, hi, T.cls_Row, T.rI, rf_i _ _ _, l, _, rfl, .inl (SqL.of hR.lst), _, rfl, r, A.C_Row, dx, _, _, rfl, hi, T.cls_Row, T.rM, rf_m _ _ _, rfl, _, rfl, ?_⟩
    by_cases hw : (its.length : Int) = mo
    · refine if_true (by rw [List.length_map, hw]; simp) ?_
      refine ⟨(by show 1 ≤ sizeLine; decide), fun t ht => ?_⟩
      refine ⟨(by show 1 ≤ 1000; decide), fun x nx => ⟨x, _, rfl, upd_same, fun dx ndx ne => ⟨rfl, dx, _, upd_same, (by rw [upd_ne ne, upd_same]), ?_, ?_⟩⟩⟩
      · rw [upd_ne ne] at ndx
        exact ndx
      · rw [upd_ne ne] at ndx
        have tx : t ≠ x := ne_of_none (o := .tup [.str "full"]) upd_same nx
        have td : t ≠ dx := ne_of_none (o := .tup [.str "full"]) upd_same ndx
        refine kE hw t dx _ (fun c o e => ?_) ?_ upd_same
        · have ct := ne_of_none e ht
          have e' : upd H t (.tup [.str "full"]) c = some o := by rw [upd_ne ct]; exact e
          have cx := ne_of_none e' nx
          have cd := ne_of_none e' ndx
          rw [upd_ne cd, del_ne cx, upd_ne cx, upd_ne cd, upd_ne cx]
          exact e'
        · rw [upd_ne td, del_ne tx, upd_ne tx, upd_ne td, upd_ne tx]
          exact upd_same
    · refine if_false (by rw [List.length_map]; simp [hw]) ?_
      have hm := hR.m1
      have hl := hR.len
      refine ⟨_, rfl, r, A.C_Row, dx, _, _, rfl, hi, T.cls_Row, T.rI, rf_i _ _ _, .inl ⟨rfl, _, SqL.of hR.lst⟩, _, rfl, xx, u, y, rfl, hx, l, _, _, rfl, rfl, hR.lst, small (by rw [List.length_map]; omega), ?_⟩
      rw [map_app]
      exact k hw
theorem ok_setitem (T : Txt K mg A) : FnOk P w K mg base (L2.CX P w) 6 A.f_Row_setitem A.d_Row_setitem ["self", "at", "worth"] (spSet A.C_Row A.C_Number A.C_Fault) := by
  refine T.F_Row_setitem.okX sc_Row_setitem (fun vs H Q E h => ?_) (fun cdv A0 outer s H vs Q E hr h => ?_)
  · obtain ⟨_, _, _, _, _, _, _, _, _, _, _, rfl, _⟩ := h
    rfl
  · have hu := hu_of hr
    obtain ⟨r, l, v, xx, sz, mo, u, u', y, w', its, rfl, hR, hv, hx, k, kE⟩ := h
    refine ⟨_, (pss_one (ps_expr (pe_meth (pv 0) T.cls_Row T.M_set_item (ok_set_item T) (hr.mono (by decide)) T.b_Row_set_item .nil (passes_call (takes_of rfl rfl rfl rfl) (fun _ _ _ _ h => h)) (pa_cons (pv 1) (pa_cons (pv 2) pa_nil))))), ?_⟩
    obtain ⟨dx, hi⟩ := hR.ins
    exact ⟨_, rfl, r, dx, _, rfl, hi, rf_si _ _ _, _, rfl, _, rfl, r, l, v, xx, sz, mo, u, u', y, w', its, rfl, hR, hv, hx, k, kE⟩
theorem ok_iadd (T : Txt K mg A) : FnOk P w K mg base (L2.CX P w) 5 A.f_Row_iadd A.d_Row_iadd ["self", "other"] (spPush A.C_Row A.C_Number A.C_Fault) := by
  refine T.F_Row_iadd.okX sc_Row_iadd (fun vs H Q E h => ?_) (fun cdv A0 outer s H vs Q E hr h => ?_)
  · obtain ⟨_, _, _, _, _, _, _, _, rfl, _⟩ := h
    rfl
  · have hu := hu_of hr
    obtain ⟨r, l, xx, sz, mo, u, y, its, rfl, hR, hx, k, kE⟩ := h
    refine ⟨_, (pss_cons (ps_expr (pe_meth (pv 0) T.cls_Row T.M_push_item (ok_push_item T) (hr.mono (by decide)) T.b_Row_push_item .nil (passes_call (takes_of rfl rfl rfl rfl) (fun _ _ _ _ h => h)) (pa_cons (pv 1) pa_nil)))
      (pss_one (ps_ret (pv 0)))), ?_⟩
    obtain ⟨dx, hi⟩ := hR.ins
    exact ⟨_, rfl, r, dx, _, rfl, hi, rf_pi _ _ _, _, rfl, r, l, xx, sz, mo, u, y, its, rfl, hR, hx, (fun hne => ⟨_, rfl, k hne⟩), kE⟩
end
end K02
set_option Elab.async false
set_option linter.all false
set_option maxRecDepth 100000
set_option maxHeartbeats 4400000
namespace K02
open PySem PySem.Spec PyProof.Rows L2 HX
open PySem.W (Frag)


theorem at_ints {ns : List Int} {i : Int} (h0 : 0 ≤ i) (h1 : i < (ns.length : Int)) : ∃ z : Int, atI (ns.map V.int) i = some (.int z) := by
  obtain ⟨j, rfl⟩ := Int.eq_ofNat_of_zero_le h0
  have hj : j < ns.length := by omega
  exact ⟨ns[j], atI_nat (by rw [List.getElem?_map, List.getElem?_eq_getElem hj]; rfl)⟩
/-- a pot of draws stands at p; at most n were mixed -/
def PotAt (H : Hp) (p : Addr) (n : Int) : Prop := ∃ a b c : Int, H p = some (.lst [.int a, .int b, .int c]) ∧ 0 ≤ a ∧ 0 ≤ b ∧ b < 2305843009213693921 ∧ 0 ≤ c ∧ c ≤ n
theorem PotAt.mono {H : Hp} {p : Addr} {n m : Int} (h : PotAt H p n) (e : n ≤ m) : PotAt H p m := let ⟨a, b, c, h0, h1, h2, h3, h4, h5⟩ := h; ⟨a, b, c, h0, h1, h2, h3, h4, Int.le_trans h5 e⟩
theorem PotAt.some {H : Hp} {p : Addr} {n : Int} (h : PotAt H p n) : ∃ o, H p = some o := let ⟨_, _, _, h0, _⟩ := h; ⟨_, h0⟩
theorem PotAt.ex {H H' : Hp} {p : Addr} {n : Int} (h : PotAt H p n) (e : Ex H H') : PotAt H' p n := let ⟨a, b, c, h0, hr⟩ := h; ⟨a, b, c, e _ _ h0, hr⟩
def spPot (K : Frag) : Sp := fun vs H Q _ => ∃ (a : Addr) (ns : List Int) (i : Int), vs = [.ref a, .int i] ∧ SqL K H a (ns.map V.int) ∧ 0 ≤ i ∧ i ≤ 3 ∧ ∀ (p : Addr) (H' : Hp), H p = none → Ex H H' → PotAt H' p 0 → Q (.ref p) H'
def spTake : Sp := fun vs H Q _ => ∃ (p : Addr) (n N : Int), vs = [.ref p, .int n] ∧ PotAt H p N ∧ 0 < n ∧ n < 1000 ∧ N ≤ 100000 ∧ ∀ (d : Int) (H' : Hp), 0 ≤ d → d < n → XB p H H' → PotAt H' p (N + 1) → Q (.int d) H'
/-- an item of a list is drawn -/
def spOf (K : Frag) : Sp := fun vs H Q _ => ∃ (p l : Addr) (xs : List V) (N : Int), vs = [.ref p, .ref l] ∧ PotAt H p N ∧ SqL K H l xs ∧ l ≠ p ∧ 0 < xs.length ∧ xs.length < 1000 ∧ N ≤ 100000 ∧
  ∀ (i : Nat) (v : V) (H' : Hp), xs[i]? = some v → XB p H H' → PotAt H' p (N + 1) → Q v H'
theorem sql_xb {K : Frag} {H H' : Hp} {a p : Addr} {xs : List V} (h : SqL K H a xs) (n : a ≠ p) (e : XB p H H') : SqL K H' a xs := by
  rcases h with (h | ⟨o, h⟩) | h
  · exact .inl (.inl (e _ _ n h))
  · exact .inl (.inr ⟨o, e _ _ n h⟩)
  · exact .inr h
theorem sql_ex {K : Frag} {H H' : Hp} {a : Addr} {xs : List V} (h : SqL K H a xs) (e : Ex H H') : SqL K H' a xs := by
  rcases h with (h | ⟨o, h⟩) | h
  · exact .inl (.inl (e _ _ h))
  · exact .inl (.inr ⟨o, e _ _ h⟩)
  · exact .inr h
theorem ite_b (b : Bool) : -(2 ^ 64) < (if b = true then (1 : Int) else 0) ∧ (if b = true then (1 : Int) else 0) < 2 ^ 64 := by cases b <;> decide
theorem ite_n (b : Bool) : 0 ≤ (if b = true then (1 : Int) else 0) := by cases b <;> decide
theorem at_prime (i : Int) : ∃ q : Int, atI [V.int 2147483647, .int 2147483629, .int 2147483587, .int 2147483579, .int 2147483563] (i % 5) = some (.int q) ∧ 0 < q ∧ q ≤ 2147483647 := by
  have h : i % 5 = 0 ∨ i % 5 = 1 ∨ i % 5 = 2 ∨ i % 5 = 3 ∨ i % 5 = 4 := by omega
  rcases h with h | h | h | h | h <;> rw [h]
  · exact ⟨2147483647, rfl, by decide, by decide⟩
  · exact ⟨2147483629, rfl, by decide, by decide⟩
  · exact ⟨2147483587, rfl, by decide, by decide⟩
  · exact ⟨2147483579, rfl, by decide, by decide⟩
  · exact ⟨2147483563, rfl, by decide, by decide⟩
theorem sq_le {c : Int} {m : Int} (h0 : 0 ≤ c) (h1 : c ≤ 1000000) (hm : 0 ≤ m) : 0 ≤ m * c * c ∧ m * c * c ≤ m * 1000000 * 1000000 := by
  have h2 : 0 ≤ m * c := Int.mul_nonneg hm h0
  have h3 : m * c ≤ m * 1000000 := Int.mul_le_mul_of_nonneg_left h1 hm
  exact ⟨Int.mul_nonneg h2 h0, Int.mul_le_mul h3 h1 h0 (by omega)⟩

section
variable {P : Program} {w : World} {K : Frag} {mg : Str → Option Value} {base : Heap} {A : Ad}

theorem ok_pot (T : Txt K mg A) : FnOk P w K mg base CX0 1 A.f_pot A.d_pot ["_law_script", "_law_k"] (spPot K) := by
  refine T.F_pot.ok sc_pot (fun vs H Q E h => ?_) (fun cdv A0 outer s H vs Q E hr h => ?_)
  · obtain ⟨_, _, _, rfl, _⟩ := h
    rfl
  · have hu := hu_of hr
    obtain ⟨a, ns, i, rfl, hS, h0, h3, k⟩ := h
    refine ⟨_, (pss_cons (ps_set (i := 2) sc_pot.nd rfl (Or.inl rfl) (pe_ifExp (pt_cmpR op_lt (pv 1) (pe_callB call_len_seq (by rfl) T.g_len (by decide +kernel) (pa_cons (pv 0) pa_nil)) (nomark _)) (pe_ix ix_list (pv 0) (pv 1) (fun _ _ => rfl)) (pe_op op_add (pe_op op_mul pe_int (pv 1)) pe_int)))
      (pss_cons (ps_set (i := 3) sc_pot.nd rfl (Or.inl rfl) (pe_op op_mul (pe_op op_mod (pe_callTy call_int1 (by rfl) T.g_int (by decide +kernel) (pa_cons (pe_callB call_abs (by rfl) T.g_abs (by decide +kernel) (pa_cons (pv 2) pa_nil)) pa_nil)) (pe_op op_powW (pe_op op_pow pe_int pe_int) pe_int)) (pe_callTy call_int1 (by rfl) T.g_int (by decide +kernel) (pa_cons (pe_cmpR op_ge (pe_callB call_abs (by rfl) T.g_abs (by decide +kernel) (pa_cons (pv 2) pa_nil)) (pe_op op_pow pe_int pe_int) (nomark _)) pa_nil))))
      (pss_one (ps_ret (pe_lst (pa_cons (pv 3) (pa_cons (pe_op op_mod (pe_callTy call_int1 (by rfl) T.g_int (by decide +kernel) (pa_cons (pe_op op_add (pe_op op_add (pe_op op_mul (pe_op op_mod (pe_callTy call_int1 (by rfl) T.g_int (by decide +kernel) (pa_cons (pv 2) pa_nil)) pe_int) pe_int) (pe_op op_mul (pe_op op_mul pe_int (pv 1)) (pv 1))) pe_int) pa_nil)) pe_int) (pa_cons pe_int pa_nil)))))))), ?_⟩
    refine ⟨_, rfl, _, rfl, a, _, rfl, .inl hS, _, _, rfl, rfl, _, rfl, if_dec (fun h1 => ?_) (fun h1 => ?_)⟩
    · rw [List.length_map] at h1
      obtain ⟨z, hz⟩ := at_ints (ns := ns) h0 h1
      refine ⟨_, rfl, _, rfl, a, _, _, _, rfl, rfl, hS, hz, ?_⟩
      refine ⟨_, rfl, _, rfl, .inl ⟨_, rfl, ?_⟩⟩
      refine ⟨_, _, rfl, rfl, (by show CPow _ _; exact ⟨by decide, by decide, by decide⟩), _, _, rfl, rfl, (by show CPowW _ _; exact ⟨by decide +kernel, by decide, by decide +kernel⟩), _, _, rfl, rfl, (by show (0 : Int) < _; decide +kernel), _, rfl, _, rfl, _, _, rfl, rfl, (by show CPow _ _; exact ⟨by decide, by decide, by decide⟩), _, _, rfl, rfl, .inr ⟨_, rfl, ?_⟩⟩
      refine ⟨_, _, rfl, rfl, (.inr (ite_b _)), ?_⟩
      refine ⟨_, rfl, ?_⟩
      refine ⟨_, rfl, .inl ⟨_, rfl, ?_⟩⟩
      refine ⟨_, _, rfl, rfl, (by show (0 : Int) < _; decide), _, _, rfl, rfl, (.inl ⟨by omega, by omega⟩), _, rfl, _, _, rfl, rfl, (.inl ⟨by decide, by decide⟩), _, rfl, _, _, rfl, rfl, (.inl ⟨by omega, by omega⟩), _, _, rfl, rfl, _, _, rfl, rfl, .inl ⟨_, rfl, ?_⟩⟩
      refine ⟨_, _, rfl, rfl, (by show (0 : Int) < _; decide), ?_⟩
      refine ⟨(by show 3 ≤ sizeLine; decide), fun p hp => k p _ hp (Ex.nw hp) ⟨_, _, _, upd_same, Int.mul_nonneg (Int.emod_nonneg _ (by decide +kernel)) (ite_n _), Int.emod_nonneg _ (by decide), Int.emod_lt_of_pos _ (by decide), by decide, by decide⟩⟩
    · refine ⟨_, rfl, _, _, rfl, rfl, .inl ⟨by decide, by decide⟩, _, _, rfl, rfl, ?_⟩
      refine ⟨_, rfl, _, rfl, .inl ⟨_, rfl, ?_⟩⟩
      refine ⟨_, _, rfl, rfl, (by show CPow _ _; exact ⟨by decide, by decide, by decide⟩), _, _, rfl, rfl, (by show CPowW _ _; exact ⟨by decide +kernel, by decide, by decide +kernel⟩), _, _, rfl, rfl, (by show (0 : Int) < _; decide +kernel), _, rfl, _, rfl, _, _, rfl, rfl, (by show CPow _ _; exact ⟨by decide, by decide, by decide⟩), _, _, rfl, rfl, .inr ⟨_, rfl, ?_⟩⟩
      refine ⟨_, _, rfl, rfl, (.inr (ite_b _)), ?_⟩
      refine ⟨_, rfl, ?_⟩
      refine ⟨_, rfl, .inl ⟨_, rfl, ?_⟩⟩
      refine ⟨_, _, rfl, rfl, (by show (0 : Int) < _; decide), _, _, rfl, rfl, (.inl ⟨by omega, by omega⟩), _, rfl, _, _, rfl, rfl, (.inl ⟨by decide, by decide⟩), _, rfl, _, _, rfl, rfl, (.inl ⟨by omega, by omega⟩), _, _, rfl, rfl, _, _, rfl, rfl, .inl ⟨_, rfl, ?_⟩⟩
      refine ⟨_, _, rfl, rfl, (by show (0 : Int) < _; decide), ?_⟩
      refine ⟨(by show 3 ≤ sizeLine; decide), fun p hp => k p _ hp (Ex.nw hp) ⟨_, _, _, upd_same, Int.mul_nonneg (Int.emod_nonneg _ (by decide +kernel)) (ite_n _), Int.emod_nonneg _ (by decide), Int.emod_lt_of_pos _ (by decide), by decide, by decide⟩⟩
theorem ok_take (T : Txt K mg A) : FnOk P w K mg base CX0 1 A.f_take A.d_take ["_law_pot_here", "_law_upto"] (spTake) := by
  refine T.F_take.ok sc_take (fun vs H Q E h => ?_) (fun cdv A0 outer s H vs Q E hr h => ?_)
  · obtain ⟨_, _, _, rfl, _⟩ := h
    rfl
  · have hu := hu_of hr
    obtain ⟨p, n, N, rfl, ⟨a, b, c, hp, ha, hb, hb2, hc, hc2⟩, hn, hn2, hN, k⟩ := h
    refine ⟨_, (pss_cons (ps_if (pt_cmpR op_gt (pe_ix ix_list (pv 0) pe_int (fun _ _ => rfl)) pe_int (nomark _)) (pss_cons (ps_set (i := 2) sc_take.nd rfl (Or.inl rfl) (pe_op op_mod (pe_callTy call_int1 (by rfl) T.g_int (by decide +kernel) (pa_cons (pe_ix ix_list (pv 0) pe_int (fun _ _ => rfl)) pa_nil)) (pv 1)))
      (pss_cons (ps_asg (pe_op op_fdiv (pe_ix ix_list (pv 0) pe_int (fun _ _ => rfl)) (pv 1)) (pg_sub (pv 0) pe_int set_list))
      (pss_one (ps_ret (pv 2))))) pss_nil)
      (pss_cons (ps_asg (pe_op op_add (pe_ix ix_list (pv 0) pe_int (fun _ _ => rfl)) pe_int) (pg_sub (pv 0) pe_int set_list))
      (pss_cons (ps_set (i := 3) sc_take.nd rfl (Or.inl rfl) (pe_ix ix_list (pe_lst (pa_cons pe_int (pa_cons pe_int (pa_cons pe_int (pa_cons pe_int (pa_cons pe_int pa_nil)))))) (pe_op op_mod (pe_callTy call_int1 (by rfl) T.g_int (by decide +kernel) (pa_cons (pe_ix ix_list (pv 0) pe_int (fun _ _ => rfl)) pa_nil)) pe_int) (fun _ _ => rfl)))
      (pss_cons (ps_set (i := 4) sc_take.nd rfl (Or.inl rfl) (pe_op op_mod (pe_callTy call_int1 (by rfl) T.g_int (by decide +kernel) (pa_cons (pe_op op_pow (pe_callTy call_int1 (by rfl) T.g_int (by decide +kernel) (pa_cons (pe_op op_add (pe_op op_add (pe_ix ix_list (pv 0) pe_int (fun _ _ => rfl)) (pe_op op_mul (pe_op op_mul pe_int (pe_ix ix_list (pv 0) pe_int (fun _ _ => rfl))) (pe_ix ix_list (pv 0) pe_int (fun _ _ => rfl)))) pe_int) pa_nil)) pe_int) pa_nil)) (pv 3)))
      (pss_cons (ps_set (i := 4) sc_take.nd rfl (Or.inl rfl) (pe_op op_mod (pe_callTy call_int1 (by rfl) T.g_int (by decide +kernel) (pa_cons (pe_op op_mul (pv 4) (pe_op op_add (pe_op op_mod (pe_callTy call_int1 (by rfl) T.g_int (by decide +kernel) (pa_cons (pv 4) pa_nil)) pe_int) (pe_op op_mul pe_int (pe_ix ix_list (pv 0) pe_int (fun _ _ => rfl))))) pa_nil)) pe_int))
      (pss_one (ps_ret (pe_op op_mod (pe_callTy call_int1 (by rfl) T.g_int (by decide +kernel) (pa_cons (pe_op op_fdiv (pv 4) pe_int) pa_nil)) (pv 1))))))))), ?_⟩
    refine ⟨_, rfl, p, _, _, _, rfl, rfl, SqL.of hp, rfl, _, _, rfl, rfl, _, rfl, if_dec (fun h1 => ?_) (fun h1 => ?_)⟩
    · refine ⟨_, rfl, p, _, _, _, rfl, rfl, SqL.of hp, rfl, .inl ⟨_, rfl, _, rfl, _, _, rfl, rfl, (by show (0 : Int) < n; omega), ?_⟩⟩
      refine ⟨_, rfl, p, _, _, _, rfl, rfl, SqL.of hp, rfl, _, rfl, _, _, rfl, rfl, ⟨hn, by omega⟩, _, rfl, p, _, _, _, rfl, rfl, hp, rfl, ?_⟩
      refine ⟨_, rfl, k _ _ (Int.emod_nonneg _ (by omega)) (Int.emod_lt_of_pos _ hn) XB.wr ⟨_, _, _, upd_same, Int.ediv_nonneg ha (by omega), hb, hb2, hc, by omega⟩⟩
    · refine ⟨_, rfl, p, _, _, _, rfl, rfl, SqL.of hp, rfl, _, _, rfl, rfl, _, rfl, p, _, _, _, rfl, rfl, hp, rfl, ?_⟩
      refine ⟨(by show 5 ≤ sizeLine; decide), fun l hl => ?_⟩
      have hp1 : (upd H p (.lst [.int a, .int b, .int (c + 1)])) p = some (.lst [.int a, .int b, .int (c + 1)]) := upd_same
      have npl : p ≠ l := ne_of_none hp1 hl
      obtain ⟨q, hq, hq0, hq1⟩ := at_prime (c + 1)
      have hp2 : (upd (upd H p (.lst [.int a, .int b, .int (c + 1)])) l (.lst [V.int 2147483647, .int 2147483629, .int 2147483587, .int 2147483579, .int 2147483563])) p = some (.lst [.int a, .int b, .int (c + 1)]) := by rw [upd_ne npl]; exact hp1
      have hl2 : (upd (upd H p (.lst [.int a, .int b, .int (c + 1)])) l (.lst [V.int 2147483647, .int 2147483629, .int 2147483587, .int 2147483579, .int 2147483563])) l = some (.lst [V.int 2147483647, .int 2147483629, .int 2147483587, .int 2147483579, .int 2147483563]) := upd_same
      have hx2 : XB p H (upd (upd H p (.lst [.int a, .int b, .int (c + 1)])) l (.lst [V.int 2147483647, .int 2147483629, .int 2147483587, .int 2147483579, .int 2147483563])) := XB.tr XB.wr (Ex.xb (Ex.nw hl))
      refine ⟨_, rfl, p, _, _, _, rfl, rfl, SqL.of hp2, rfl, .inl ⟨_, rfl, _, _, rfl, rfl, (by show (0 : Int) < _; decide), l, _, _, _, rfl, rfl, SqL.of hl2, hq, ?_⟩⟩
      obtain ⟨s0, s1⟩ := sq_le (c := c + 1) (m := 98123) (by omega) (by omega) (by decide)
      refine ⟨_, rfl, p, _, _, _, rfl, rfl, SqL.of hp2, rfl, _, rfl, p, _, _, _, rfl, rfl, SqL.of hp2, rfl, _, _, rfl, rfl, (.inl ⟨by decide, by decide⟩), _, rfl, p, _, _, _, rfl, rfl, SqL.of hp2, rfl, _, _, rfl, rfl, (.inl ⟨by omega, by omega⟩), _, _, rfl, rfl, _, _, rfl, rfl, .inl ⟨_, rfl, ?_⟩⟩
      refine ⟨_, _, rfl, rfl, (by show CPow _ _; exact ⟨by decide, by decide, by omega⟩), .inl ⟨_, rfl, ?_⟩⟩
      refine ⟨_, rfl, _, _, rfl, rfl, (by show (0 : Int) < q; exact hq0), ?_⟩
      have m0 : ∀ z : Int, -(2 ^ 64) < z % q ∧ z % q < 2 ^ 64 := fun z => ⟨Int.lt_of_lt_of_le (by decide) (Int.emod_nonneg z (by omega)), Int.lt_of_lt_of_le (Int.lt_of_lt_of_le (Int.emod_lt_of_pos z hq0) hq1) (by decide)⟩
      refine ⟨_, rfl, _, rfl, .inl ⟨_, rfl, ?_⟩⟩
      refine ⟨_, _, rfl, rfl, (by show (0 : Int) < _; decide), _, rfl, p, _, _, _, rfl, rfl, SqL.of hp2, rfl, _, _, rfl, rfl, (.inl ⟨by decide, by decide⟩), _, _, rfl, rfl, _, _, rfl, rfl, (.inl (m0 _)), .inl ⟨_, rfl, ?_⟩⟩
      refine ⟨_, _, rfl, rfl, (by show (0 : Int) < _; decide), ?_⟩
      refine ⟨_, rfl, _, _, rfl, rfl, ⟨by decide, by decide⟩, .inl ⟨_, rfl, ?_⟩⟩
      refine ⟨_, rfl, _, _, rfl, rfl, (by show (0 : Int) < n; exact hn), ?_⟩
      exact k _ _ (Int.emod_nonneg _ (by omega)) (Int.emod_lt_of_pos _ hn) hx2 ⟨_, _, _, hp2, ha, hb, hb2, by omega, by omega⟩
/-- a new Number, or an int -/
def spNumber (C : Addr) : Sp := fun vs H Q _ => ∃ (p : Addr) (n N : Int), vs = [.ref p, .int n] ∧ PotAt H p N ∧ 2 ≤ n ∧ n < 5 ∧ N ≤ 90000 ∧ ∀ (t : Addr) (v : V) (w : Int) (H' : Hp), XB p H H' → PotAt H' p (N + 2) → H' t = some (.tup [v, .int w]) → Sd C H' v n w → 0 ≤ w → w < n → Q (.ref t) H'
theorem PotAt.up {H : Hp} {p q : Addr} {o : HO} {N : Int} (h : PotAt H p N) (ne : p ≠ q) : PotAt (upd H q o) p N := let ⟨a, b, c, h0, hr⟩ := h; ⟨a, b, c, by rw [upd_ne ne]; exact h0, hr⟩
theorem pot_none {p l : Addr} {H : Hp} {N : Int} (q : PotAt H p N) (h : H l = none) : l ≠ p := by
  obtain ⟨a, b, c, z2, _⟩ := q
  exact Ne.symm (ne_of_none z2 h)
theorem ok_number (T : Txt K mg A) : FnOk P w K mg base CX0 5 A.f_number A.d_number ["_law_pot_here", "_law_size"] (spNumber A.C_Number) := by
  refine T.F_number.ok sc_number (fun vs H Q E h => ?_) (fun cdv A0 outer s H vs Q E hr h => ?_)
  · obtain ⟨_, _, _, rfl, _⟩ := h
    rfl
  · have hu := hu_of hr
    obtain ⟨p, n, N, rfl, hp, h1, h2, hN, k⟩ := h
    refine ⟨_, (pss_cons (ps_set (i := 2) sc_number.nd rfl (Or.inl rfl) (pe_call (ok_take T) (hr.mono (by decide)) (by rfl) T.m_take T.F_take.kp T.b_take .nil pass0 (pa_cons (pv 0) (pa_cons (pv 1) pa_nil))))
      (pss_one (ps_ret (pe_tup (pa_cons (pe_ifExp (pt_cmpR op_eq (pe_call (ok_take T) (hr.mono (by decide)) (by rfl) T.m_take T.F_take.kp T.b_take .nil pass0 (pa_cons (pv 0) (pa_cons pe_int pa_nil))) pe_int (nomark _)) (pe_make T.mk_Number (ok_Number_init T) (hr.mono (by decide)) (by rfl) T.m_Number T.b_Number_init .nil pass0 (pa_cons (pv 1) (pa_cons (pv 2) pa_nil))) (pv 2)) (pa_cons (pv 2) pa_nil)))))), ?_⟩
    refine ⟨_, rfl, _, rfl, p, n, N, rfl, hp, by omega, by omega, by omega, fun w' H1 w0 w1 x1 hp1 => ?_⟩
    refine ⟨_, rfl, p, 2, N + 1, rfl, hp1, by decide, by decide, by omega, fun d H2 d0 d1 x2 hp2 => ?_⟩
    refine ⟨rfl, _, rfl, ?_⟩
    have hp2' : PotAt H2 p (N + 2) := hp2.mono (by omega)
    by_cases hd : V.int d = V.int 0
    · refine if_true (by rw [decide_eq_true hd]) ?_
      refine ⟨_, rfl, _, rfl, fun x dx nx ndx ne => ?_⟩
      refine ⟨x, dx, _, _, rfl, upd_same, h1, h2, w0, w1, rfl, ?_⟩
      obtain ⟨H3, E3, e3, num3⟩ := made (C := A.C_Number) (s := n) (w := w') nx ndx
      rw [← E3]
      refine ⟨_, rfl, (by show 2 ≤ sizeLine; decide), fun t ht => ?_⟩
      exact k t _ w' _ (x1.tr (x2.tr (Ex.xb (e3.tr (Ex.nw ht))))) (hp2'.ex (e3.tr (Ex.nw ht))) upd_same (.inr ⟨x, rfl, num3.ex (Ex.nw ht)⟩) w0 w1
    · refine if_false (by rw [decide_eq_false hd]) ?_
      refine ⟨_, rfl, _, rfl, (by show 2 ≤ sizeLine; decide), fun t ht => ?_⟩
      exact k t _ w' _ (x1.tr (x2.tr (Ex.xb (Ex.nw ht)))) (hp2'.ex (Ex.nw ht)) upd_same (.inl rfl) w0 w1
end
end K02
set_option Elab.async false
set_option linter.all false
set_option maxRecDepth 100000
set_option maxHeartbeats 4400000
namespace K02
open PySem PySem.Spec PyProof.Rows L2 HX
open PySem.W (Frag)


def spRead (C CN : Addr) : Sp := fun vs H Q _ => ∃ (r l : Addr) (v : V) (s m u : Int) (w : Nat) (its : List Int), vs = [.ref r, v] ∧ RowAt C H r l s m its ∧ Sd CN H v u w ∧ (∀ z, its[w]? = some z → ∀ q H', Ex H H' → H' q = some (.lst [.int s, .int z]) → Q (.ref q) H') ∧
  (its.length ≤ w → ∀ q H', Ex H H' → H' q = some (.tup [.str "index"]) → Q (.ref q) H')
def spSetT (C CN : Addr) : Sp := fun vs H Q _ => ∃ (r l : Addr) (v x : V) (s m u u' y : Int) (w : Nat) (its : List Int), vs = [.ref r, v, x] ∧ RowAt C H r l s m its ∧ Sd CN H v u w ∧ Sd CN H x u' y ∧ (w < its.length → Q .non (upd H l (.lst (is (its.set w y))))) ∧
  (its.length ≤ w → ∀ q H', Ex H H' → H' q = some (.tup [.str "index"]) → Q (.ref q) H')
def spPushT (C CN : Addr) : Sp := fun vs H Q _ => ∃ (r l : Addr) (x : V) (s m u y : Int) (its : List Int), vs = [.ref r, x] ∧ RowAt C H r l s m its ∧ Sd CN H x u y ∧ 0 ≤ y ∧ y < s ∧ ((its.length : Int) ≠ m → ∀ H', Ex (upd H l (.lst (is (its ++ [y])))) H' → Q .non H') ∧
  ((its.length : Int) = m → ∀ q H', Ex H H' → H' q = some (.tup [.str "full"]) → Q (.ref q) H')
theorem dp_is {K : Frag} {H : Hp} : ∀ its : List Int, DpAll K H (is its) (its.map PyData.int)
  | [] => .nil
  | i :: r => .cons (.int i) (dp_is r)
theorem lay_is : ∀ its : List Int, PyData.canLayAll0 (its.map PyData.int) = true ∧ PyData.depthAll (its.map PyData.int) ≤ 1
  | [] => by simp [PyData.canLayAll0, PyData.depthAll]
  | i :: r => by
    obtain ⟨a, b⟩ := lay_is r
    simp only [List.map_cons, PyData.canLayAll0, PyData.canLay0, PyData.depthAll, PyData.depth, a]
    refine ⟨by first | rfl | trivial, by omega⟩
theorem shaped_is (its : List Int) : SeqAt.shaped (.tuple (its.map PyData.int)) = true := by
  obtain ⟨a, b⟩ := lay_is its
  unfold SeqAt.shaped
  rw [show PyData.canLay0 (.tuple (its.map PyData.int)) = PyData.canLayAll0 (its.map PyData.int) from by simp only [PyData.canLay0], a]
  have d : (PyData.tuple (its.map PyData.int)).depth ≤ 64 := by simp only [PyData.depth]; omega
  rw [decide_eq_true d]; rfl
theorem eqv_is (its : List Int) : PyData.eqv (.tuple (its.map PyData.int)) (.tuple (its.map PyData.int)) = true := SeqAt.eqv_refl _ (by simp only [PyData.canLay0]; exact (lay_is its).1)
theorem RowAt.lput {C r l : Addr} {H : Hp} {s m : Int} {its js : List Int} (h : RowAt C H r l s m its) (hl : (js.length : Int) ≤ m) (hj : ∀ i ∈ js, 0 ≤ i ∧ i < s) : RowAt C (upd H l (.lst (is js))) r l s m js :=
  { h with ins := let ⟨dx, z⟩ := h.ins; ⟨dx, by rw [upd_ne h.ne]; exact z⟩, lst := upd_same, len := hl, ok := hj }

section
variable {P : Program} {w : World} {K : Frag} {mg : Str → Option Value} {base : Heap} {A : Ad}

theorem ok_read (T : Txt K mg A) : FnOk P w K mg base CX0 7 A.f_read A.d_read ["_law_row", "_law_at"] (spRead A.C_Row A.C_Number) := by
  refine T.F_read.ok sc_read (fun vs H Q E h => ?_) (fun cdv A0 outer s H vs Q E hr h => ?_)
  · obtain ⟨_, _, _, _, _, _, _, _, rfl, _⟩ := h
    rfl
  · have hu := hu_of hr
    obtain ⟨r, l, v, sz, mo, u, w', its, rfl, hR, hv, k, kE⟩ := h
    refine ⟨_, (pss_cons (ps_try_as (i := 3) (tb := fun W => tAsg (tSubO A.C_Row (spGet A.C_Row A.C_Number A.C_Fault) (WE W) (tVar 0) (tVar 1)) (gName 2)) (ts := fun a cls d => tRet (tXf a cls d A.C_Fault "words" (tVar 3))) (Wout := fun _ _ _ _ => False) rfl rfl sc_read.nd rfl rfl ⟨rfl, by decide, Or.inl T.m_Fault⟩ L2.takes0
      (fun W pn xe tk _ => pss_one (ps_set (i := 2) sc_read.nd rfl (Or.inl rfl) (by exact (pe_subO T.gi T.gin T.gif (ok_getitem T) T.b_Row_getitem (hr.mono (by decide)) (fun σ => passAt tk σ) (pv 0) (pv 1) (fun _ _ => rfl)))))
      (fun a oe cls d pn hz hf => pss_one (ps_ret (by exact (pe_xf T.xf T.xno hz hf (pv 3))))))
      (pss_one (ps_ret (pe_ifExp (pt_val (pe_callB call_isi (by rfl) T.g_isinstance (by decide +kernel) (pa_cons (pv 2) (pa_cons (pe_glob (v := .ref A.C_Number) (by rfl) T.m_Number rfl) pa_nil)))) (pe_lst (pa_cons (pe_prop (pv 2) T.cls_Number T.P_size (ok_size T) (hr.mono (by decide)) T.b_Number_size .nil pass0 rfl) (pa_cons (pe_prop (pv 2) T.cls_Number T.P_worth (ok_worth T) (hr.mono (by decide)) T.b_Number_worth .nil pass0 rfl) pa_nil))) pe_non)))), ?_⟩
    refine ⟨_, rfl, _, rfl, hR.one, r, l, v, sz, mo, u, w', its, rfl, hR, hv, (fun z hz p H1 hn e1 num => ?_), (fun hw t d H1 e1 ht hd => ?_)⟩
    · obtain ⟨dx, z1⟩ := id num
      refine ⟨_, rfl, _, _, _, _, _, rfl, .own _, ty_num T num, T.nn, _, rfl, iteT ?_⟩
      exact ⟨_, rfl, p, dx, _, rfl, z1, p, sz, z, rfl, num, _, rfl, p, dx, _, rfl, z1, p, sz, z, rfl, num, (by show 2 ≤ sizeLine; decide), fun q hq => k z hz q _ (e1.tr (Ex.nw hq)) upd_same⟩
    · refine ⟨true, T.xme, fun _ c hc => ?_, fun q => Bool.noConfusion q⟩
      exact ⟨_, rfl, rfl, rfl, d, _, .ref t, rfl, hd, by simp [List.lookup], kE hw t H1 e1 ht⟩
theorem ok_set (T : Txt K mg A) : FnOk P w K mg base CX0 7 A.f_set A.d_set ["_law_row", "_law_at", "_law_x"] (spSetT A.C_Row A.C_Number) := by
  refine T.F_set.ok sc_set (fun vs H Q E h => ?_) (fun cdv A0 outer s H vs Q E hr h => ?_)
  · obtain ⟨_, _, _, _, _, _, _, _, _, _, _, rfl, _⟩ := h
    rfl
  · have hu := hu_of hr
    obtain ⟨r, l, v, xx, sz, mo, u, u', y, w', its, rfl, hR, hv, hx, k, kE⟩ := h
    refine ⟨_, (pss_cons (ps_try_as (i := 3) (tb := fun W => tAsg (tVar 2) (gSubO A.C_Row (spSet A.C_Row A.C_Number A.C_Fault) (WE W) (tVar 0) (tVar 1))) (ts := fun a cls d => tRet (tXf a cls d A.C_Fault "words" (tVar 3))) (Wout := fun _ _ _ _ => False) rfl rfl sc_set.nd rfl rfl ⟨rfl, by decide, Or.inl T.m_Fault⟩ L2.takes0
      (fun W pn xe tk _ => pss_one (ps_asg (pv 2) (by exact (pg_subO T.nsq T.si T.sif (ok_setitem T) T.b_Row_setitem (hr.mono (by decide)) (fun σ => passAt tk σ) (pv 0) (pv 1)))))
      (fun a oe cls d pn hz hf => pss_one (ps_ret (by exact (pe_xf T.xf T.xno hz hf (pv 3))))))
      (pss_one (ps_ret pe_non))), ?_⟩
    refine ⟨_, rfl, _, rfl, _, rfl, hR.one, r, l, v, xx, sz, mo, u, u', y, w', its, rfl, hR, hv, hx, (fun hw => ?_), (fun hw t d H1 e1 ht hd => ?_)⟩
    · exact k hw
    · refine ⟨true, T.xme, fun _ c hc => ?_, fun q => Bool.noConfusion q⟩
      exact ⟨_, rfl, rfl, rfl, d, _, .ref t, rfl, hd, by simp [List.lookup], kE hw t H1 e1 ht⟩
theorem ok_pushed (T : Txt K mg A) : FnOk P w K mg base CX0 6 A.f_pushed A.d_pushed ["_law_row", "_law_x"] (spPushT A.C_Row A.C_Number) := by
  refine T.F_pushed.ok sc_pushed (fun vs H Q E h => ?_) (fun cdv A0 outer s H vs Q E hr h => ?_)
  · obtain ⟨_, _, _, _, _, _, _, _, rfl, _⟩ := h
    rfl
  · have hu := hu_of hr
    obtain ⟨r, l, xx, sz, mo, u, y, its, rfl, hR, hx, y0, y1, k, kE⟩ := h
    refine ⟨_, (pss_cons (ps_set (i := 2) sc_pushed.nd rfl (Or.inl rfl) (pv 0))
      (pss_cons (ps_try_as (i := 3) (tb := fun W => tAugO A.C_Row (spPush A.C_Row A.C_Number A.C_Fault) (WE W) 0 (tVar 1)) (ts := fun a cls d => tRet (tXf a cls d A.C_Fault "words" (tVar 3))) (Wout := fun _ _ _ _ => False) rfl rfl sc_pushed.nd rfl rfl ⟨rfl, by decide, Or.inl T.m_Fault⟩ L2.takes0
      (fun W pn xe tk _ => pss_one (ps_augO T.rsf T.ia T.iaf (ok_iadd T) T.b_Row_iadd (hr.mono (by decide)) (fun σ => passAt tk σ) sc_pushed.nd rfl rfl (pv 1)))
      (fun a oe cls d pn hz hf => pss_one (ps_ret (by exact (pe_xf T.xf T.xno hz hf (pv 3))))))
      (pss_one (ps_ret (pe_ifExp (PW.pt (pw_and (pt_val (pe_callB call_isi (by rfl) T.g_isinstance (by decide +kernel) (pa_cons (pv 0) (pa_cons (pe_glob (v := .ref A.C_Row) (by rfl) T.m_Row rfl) pa_nil)))) (pw_and1 (pt_cmpR (op_eqD hr.units) (pe_prop (pv 0) T.cls_Row T.P_worths (ok_worths T) (hr.mono (by decide)) T.b_Row_worths .nil pass0 rfl) (pe_prop (pv 2) T.cls_Row T.P_worths (ok_worths T) (hr.mono (by decide)) T.b_Row_worths .nil pass0 rfl) (nomark _))))) pe_non (pe_tup (pa_cons pe_str pa_nil))))))), ?_⟩
    refine ⟨_, rfl, _, rfl, _, rfl, hR.one, r, l, xx, sz, mo, u, y, its, rfl, hR, hx, (fun hw => ?_), (fun hw t d H1 e1 ht hd => ?_)⟩
    · have hm := hR.len
      have hR1 : RowAt A.C_Row (upd H l (.lst (is (its ++ [y])))) r l sz mo (its ++ [y]) := hR.lput (by rw [List.length_append]; show ((its.length + 1 : Nat) : Int) ≤ mo; omega) (fun i hi => by
        rcases List.mem_append.mp hi with h | h
        · exact hR.ok i h
        · rw [List.mem_singleton.mp h]; exact ⟨y0, y1⟩)
      obtain ⟨H1, E1⟩ : ∃ H1, H1 = upd H l (.lst (is (its ++ [y]))) := ⟨_, rfl⟩
      rw [← E1] at hR1 ⊢
      refine ⟨_, rfl, _, _, _, _, _, rfl, .own _, ty_row T hR1, T.rr, _, rfl, iteT ?_⟩
      obtain ⟨dx, hi⟩ := hR1.ins
      refine ⟨_, rfl, r, dx, _, rfl, hi, r, l, sz, mo, _, rfl, hR1, fun t1 n1 => ?_⟩
      have e1 : Ex H1 (upd H1 t1 (.tup (is (its ++ [y])))) := Ex.nw n1
      refine ⟨_, rfl, r, dx, _, rfl, e1 _ _ hi, r, l, sz, mo, _, rfl, hR1.ex e1, fun t2 n2 => ?_⟩
      have e2 : Ex (upd H1 t1 (.tup (is (its ++ [y])))) (upd (upd H1 t1 (.tup (is (its ++ [y])))) t2 (.tup (is (its ++ [y])))) := Ex.nw n2
      refine ⟨_, _, .tup (SqT.of (e2 _ _ upd_same)) (dp_is _), .tup (SqT.of upd_same) (dp_is _), shaped_is _, shaped_is _, _, rfl, if_true (eqv_is _) ?_⟩
      exact k hw _ (E1 ▸ e1.tr e2)
    · refine ⟨true, T.xme, fun _ c hc => ?_, fun q => Bool.noConfusion q⟩
      exact ⟨_, rfl, rfl, rfl, d, _, .ref t, rfl, hd, by simp [List.lookup], kE hw t H1 e1 ht⟩
end
end K02
set_option Elab.async false
set_option linter.all false
set_option maxRecDepth 100000
set_option maxHeartbeats 4400000
namespace K02
open PySem PySem.Spec PyProof.Rows L2 HX
open PySem.W (Frag)


abbrev X3 (p l n : Addr) (H H' : Hp) : Prop := ∀ a o, a ≠ p → a ≠ l → a ≠ n → H a = some o → H' a = some o
theorem XB.x3 {p l n : Addr} {H H' : Hp} (e : XB p H H') : X3 p l n H H' := fun a o h _ _ z => e a o h z
theorem X3.tr {p l n : Addr} {H H1 H2 : Hp} (a : X3 p l n H H1) (b : X3 p l n H1 H2) : X3 p l n H H2 := fun c o x y z h => b c o x y z (a c o x y z h)
theorem X3.wl {p l n : Addr} {H : Hp} {o : HO} : X3 p l n H (upd H l o) := fun a u _ y _ e => by rw [upd_ne y]; exact e
theorem X3.wn {p l n : Addr} {H : Hp} {o : HO} : X3 p l n H (upd H n o) := fun a u _ _ y e => by rw [upd_ne y]; exact e
theorem pot_off {p a : Addr} {H : Hp} {N : Int} {o : HO} (q : PotAt H p N) (h : H a = some o) (z : ∀ xs, o ≠ .lst xs) : a ≠ p := by
  obtain ⟨x, y, c, h0, _⟩ := q
  exact ne_of h h0 (z _)
theorem RowAt.xb {C r l p : Addr} {H H' : Hp} {s m N : Int} {its : List Int} (h : RowAt C H r l s m its) (q : PotAt H p N) (nl : l ≠ p) (e : XB p H H') : RowAt C H' r l s m its :=
  { h with ins := let ⟨dx, z⟩ := h.ins; ⟨dx, e _ _ (pot_off q z (by intro _ y; cases y)) z⟩, lst := e _ _ nl h.lst }
theorem Sd.xb {C p : Addr} {H H' : Hp} {v : V} {s w N : Int} (h : Sd C H v s w) (q : PotAt H p N) (e : XB p H H') : Sd C H' v s w := h.elim .inl fun ⟨a, b, dx, z⟩ => .inr ⟨a, b, dx, e _ _ (pot_off q z (by intro _ y; cases y)) z⟩
theorem RowAt.up2 {C r l n : Addr} {H : Hp} {s m : Int} {its : List Int} {o : HO} (h : RowAt C H r l s m its) (a : r ≠ n) (b : l ≠ n) : RowAt C (upd H n o) r l s m its :=
  { h with ins := let ⟨dx, z⟩ := h.ins; ⟨dx, by rw [upd_ne a]; exact z⟩, lst := by rw [upd_ne b]; exact h.lst }
theorem row_off {C r l n : Addr} {H : Hp} {s m : Int} {its : List Int} {xs : List V} (h : RowAt C H r l s m its) (a : H n = some (.lst xs)) : r ≠ n := let ⟨_, z⟩ := h.ins; ne_of z a (by intro y; cases y)
def spDeed (C : Addr) : Sp := fun vs H Q _ => ∃ (p r l mn lo : Addr) (s m N : Int) (its : List Int), vs = [.ref p, .ref r, .ref mn, .ref lo] ∧ PotAt H p N ∧ N ≤ 80000 ∧ RowAt C H r l s m its ∧ H mn = some (.lst (is its)) ∧ H lo = some (.tup [.int s, .int m]) ∧ l ≠ p ∧ l ≠ mn ∧ mn ≠ p ∧
  ∀ (H' : Hp) (js : List Int), X3 p l mn H H' → PotAt H' p (N + 5) → RowAt C H' r l s m js → H' mn = some (.lst (is js)) → Q (.bl true) H'
theorem q_eq {Q : VK} {z : Str} {H : Hp} (h : Q (.bl true) H) : Q (.bl (decide (V.str z = V.str z))) H := by
  rw [decide_eq_true rfl]
  exact h
theorem flat_i {i : Int} (h0 : -1000 ≤ i) (h1 : i ≤ 1000) : Flat (.int i) := .int i (by omega) (by omega)
theorem flats {xs : List V} (h : ∀ v ∈ xs, ∃ i : Int, v = .int i ∧ -1000 ≤ i ∧ i ≤ 1000) : ∀ d ∈ xs.map fl, Flat d := fun d hd => by
  obtain ⟨v, hv, rfl⟩ := List.mem_map.mp hd
  obtain ⟨i, rfl, h0, h1⟩ := h v hv
  exact flat_i h0 h1
theorem fine_2 {a b : Int} (h0 : 0 ≤ a) (h1 : a ≤ 1000) (h2 : 0 ≤ b) (h3 : b ≤ 1000) : Fine (.list (([V.int a, V.int b] : List V).map fl)) :=
  fine_list (flats fun v hv => by
    simp only [List.mem_cons, List.not_mem_nil, or_false] at hv
    rcases hv with rfl | rfl
    · exact ⟨a, rfl, by omega, h1⟩
    · exact ⟨b, rfl, by omega, h3⟩) (by show 2 ≤ 1000; decide)
theorem flat_w {z : Str} (h : z.cps.size ≤ 60) (hc : (z.cps.toList.all fun c => decide (c < 16 ^ 8)) = true) : Fine (.tuple (([V.str z] : List V).map fl)) := fine_tup (fun d hd => by rw [show d = .str z from by simpa [fl] using hd]; exact .str _ h hc) (by show 1 ≤ 1000; decide)
theorem fine_index : Fine (.tuple (([V.str "index"] : List V).map fl)) := flat_w (by decide +kernel) (by decide +kernel)
theorem fine_full : Fine (.tuple (([V.str "full"] : List V).map fl)) := flat_w (by decide +kernel) (by decide +kernel)

section
variable {P : Program} {w : World} {K : Frag} {mg : Str → Option Value} {base : Heap} {A : Ad}

theorem ok_deed_right (T : Txt K mg A) : FnG P w K mg base CX0 8 A.f_deed_right A.d_deed_right ["_law_pot_here", "_law_row", "_law_mine", "_law_lore"] (spDeed A.C_Row) := by
  refine okG0 T.F_deed_right sc_deed_right (fun vs H Q E h => ?_) (fun cdv A0 outer s H vs Q E hgd0 hr h => ?_)
  · obtain ⟨_, _, _, _, _, _, _, _, _, rfl, _⟩ := h
    rfl
  · have hu := hu_of hr
    have hgd : (A0.deeper (envOfC "_law_deed_right" (defScope s_deed_right) s.heap.objs.size A.f_deed_right cdv)).guards = some [] := hgd0
    obtain ⟨p, r, l, mn, lo, sz, mo, N, its, rfl, hp, hN, hR, hm, hlo, nlp, nlm, nmp, k⟩ := h
    refine ⟨_, (pss_cons (ps_asg (pv 3) (pg_tup rfl (pgs_cons (pg_name (i := 4) sc_deed_right.nd rfl (Or.inl rfl)) (pgs_cons (pg_name (i := 5) sc_deed_right.nd rfl (Or.inl rfl)) pgs_nil))))
      (pss_cons (ps_asg (pe_tup (pa_cons (pe_call (ok_take T) (hr.mono (by decide)) (by rfl) T.m_take T.F_take.kp T.b_take .nil pass0 (pa_cons (pv 0) (pa_cons pe_int pa_nil))) (pa_cons (pe_call (ok_number T) (hr.mono (by decide)) (by rfl) T.m_number T.F_number.kp T.b_number .nil pass0 (pa_cons (pv 0) (pa_cons (pv 4) pa_nil))) (pa_cons (pe_call (ok_number T) (hr.mono (by decide)) (by rfl) T.m_number T.F_number.kp T.b_number .nil pass0 (pa_cons (pv 0) (pa_cons (pv 4) pa_nil))) pa_nil)))) (pg_tup rfl (pgs_cons (pg_name (i := 6) sc_deed_right.nd rfl (Or.inl rfl)) (pgs_cons (pg_tup rfl (pgs_cons (pg_name (i := 7) sc_deed_right.nd rfl (Or.inl rfl)) (pgs_cons (pg_name (i := 8) sc_deed_right.nd rfl (Or.inl rfl)) pgs_nil))) (pgs_cons (pg_tup rfl (pgs_cons (pg_name (i := 9) sc_deed_right.nd rfl (Or.inl rfl)) (pgs_cons (pg_name (i := 10) sc_deed_right.nd rfl (Or.inl rfl)) pgs_nil))) pgs_nil)))))
      (pss_cons (ps_if (pt_cmpR op_eq (pv 6) pe_int (nomark _)) (pss_cons (ps_set (i := 11) sc_deed_right.nd rfl (Or.inl rfl) (pe_ifExp (pt_cmpR op_lt (pv 8) (pe_callB call_len_seq (by rfl) T.g_len (by decide +kernel) (pa_cons (pv 2) pa_nil)) (nomark _)) (pe_lst (pa_cons (pv 4) (pa_cons (pe_ix ix_list (pv 2) (pv 8) (fun _ _ => rfl)) pa_nil))) (pe_tup (pa_cons pe_str pa_nil))))
      (pss_one (ps_ret (pe_cmpR op_eq (pe_callB (call_reprD hgd hr.units) (by rfl) T.g_repr (by decide +kernel) (pa_cons (pe_call (ok_read T) (hr.mono (by decide)) (by rfl) T.m_read T.F_read.kp T.b_read .nil pass0 (pa_cons (pv 1) (pa_cons (pv 7) pa_nil))) pa_nil)) (pe_callB (call_reprD hgd hr.units) (by rfl) T.g_repr (by decide +kernel) (pa_cons (pv 11) pa_nil)) (nomark _))))) pss_nil)
      (pss_cons (ps_if (pt_cmpR op_eq (pv 6) pe_int (nomark _)) (pss_one (ps_ret (pe_cmpR op_eq (pe_callB (call_reprD hgd hr.units) (by rfl) T.g_repr (by decide +kernel) (pa_cons (pe_meth (pv 1) T.cls_Row T.M_has (ok_has T) (hr.mono (by decide)) T.b_Row_has .nil pass0 (pa_cons (pv 7) pa_nil)) pa_nil)) (pe_callB (call_reprD hgd hr.units) (by rfl) T.g_repr (by decide +kernel) (pa_cons (pe_cmpR op_lt (pv 8) (pe_callB call_len_seq (by rfl) T.g_len (by decide +kernel) (pa_cons (pv 2) pa_nil)) (nomark _)) pa_nil)) (nomark _)))) pss_nil)
      (pss_cons (ps_if (pt_cmpR op_lt (pv 6) pe_int (nomark _)) (pss_cons (ps_set (i := 11) sc_deed_right.nd rfl (Or.inl rfl) (pe_ifExp (pt_cmpR op_lt (pv 8) (pe_callB call_len_seq (by rfl) T.g_len (by decide +kernel) (pa_cons (pv 2) pa_nil)) (nomark _)) pe_non (pe_tup (pa_cons pe_str pa_nil))))
      (pss_cons (ps_set (i := 12) sc_deed_right.nd rfl (Or.inl rfl) (pe_call (ok_set T) (hr.mono (by decide)) (by rfl) T.m_set T.F_set.kp T.b_set .nil pass0 (pa_cons (pv 1) (pa_cons (pv 7) (pa_cons (pv 9) pa_nil)))))
      (pss_cons (ps_if (pt_cmpR op_isN (pv 11) pe_non (nomark _)) (pss_one (ps_asg (pv 10) (pg_sub (pv 2) (pv 8) set_list))) pss_nil)
      (pss_one (ps_ret (pe_cmpR op_eq (pe_callB (call_reprD hgd hr.units) (by rfl) T.g_repr (by decide +kernel) (pa_cons (pv 12) pa_nil)) (pe_callB (call_reprD hgd hr.units) (by rfl) T.g_repr (by decide +kernel) (pa_cons (pv 11) pa_nil)) (nomark _))))))) pss_nil)
      (pss_cons (ps_set (i := 11) sc_deed_right.nd rfl (Or.inl rfl) (pe_ifExp (pt_cmpR op_lt (pe_callB call_len_seq (by rfl) T.g_len (by decide +kernel) (pa_cons (pv 2) pa_nil)) (pv 5) (nomark _)) pe_non (pe_tup (pa_cons pe_str pa_nil))))
      (pss_cons (ps_set (i := 12) sc_deed_right.nd rfl (Or.inl rfl) (pe_call (ok_pushed T) (hr.mono (by decide)) (by rfl) T.m_pushed T.F_pushed.kp T.b_pushed .nil pass0 (pa_cons (pv 1) (pa_cons (pv 9) pa_nil))))
      (pss_cons (ps_if (pt_cmpR op_isN (pv 11) pe_non (nomark _)) (pss_one (ps_expr (pe_bm PySem.F.plainAttrs_list PySem.F.slot_list_append PySem.F.type_list_append mt_append (pv 2) (pa_cons (pv 10) pa_nil)))) pss_nil)
      (pss_one (ps_ret (pe_cmpR op_eq (pe_callB (call_reprD hgd hr.units) (by rfl) T.g_repr (by decide +kernel) (pa_cons (pv 12) pa_nil)) (pe_callB (call_reprD hgd hr.units) (by rfl) T.g_repr (by decide +kernel) (pa_cons (pv 11) pa_nil)) (nomark _)))))))))))), ?_⟩
    have nR := hR.ins
    refine ⟨_, rfl, lo, _, rfl, SqT.of hlo, rfl, _, _, rfl, _, _, rfl, rfl, ?_⟩
    refine ⟨_, rfl, p, 5, N, rfl, hp, by decide, by decide, by omega, fun d H1 d0 d1 x1 hp1 => ?_⟩
    refine ⟨_, rfl, _, rfl, p, sz, N + 1, rfl, hp1, hR.s0, hR.s1, by omega, fun t1 v1 w1 H2 x2 hp2 ht1 sd1 a0 a1 => ?_⟩
    refine ⟨_, rfl, _, rfl, p, sz, N + 1 + 2, rfl, hp2, hR.s0, hR.s1, by omega, fun t2 v2 w2 H3 x3 hp3 ht2 sd2 b0 b1 => ?_⟩
    refine ⟨(by show 3 ≤ sizeLine; decide), fun tt nt => ?_⟩
    have e4 : Ex H3 (upd H3 tt (.tup [V.int d, V.ref t1, V.ref t2])) := Ex.nw nt
    obtain ⟨H4, E4⟩ : ∃ H4, H4 = upd H3 tt (.tup [V.int d, V.ref t1, V.ref t2]) := ⟨_, rfl⟩
    have htt : H4 tt = some (.tup [V.int d, V.ref t1, V.ref t2]) := by rw [E4]; exact upd_same
    rw [← E4] at e4 ⊢
    have ht1' : H4 t1 = some (.tup [v1, .int w1]) := e4 _ _ (x3 _ _ (pot_off hp2 ht1 (by intro _ y; cases y)) ht1)
    have ht2' : H4 t2 = some (.tup [v2, .int w2]) := e4 _ _ ht2
    refine ⟨tt, _, rfl, SqT.of htt, rfl, _, _, rfl, _, _, rfl, t1, _, rfl, SqT.of ht1', rfl, _, _, rfl, _, _, rfl, rfl, _, _, rfl, t2, _, rfl, SqT.of ht2', rfl, _, _, rfl, _, _, rfl, rfl, rfl, ?_⟩
    have xx : XB p H H4 := x1.tr (x2.tr (x3.tr (Ex.xb e4)))
    have hR4 := hR.xb hp nlp xx
    have hm4 : H4 mn = some (.lst (is its)) := xx _ _ nmp hm
    have hp4 : PotAt H4 p (N + 5) := (hp3.ex e4).mono (by omega)
    have sd1' : Sd A.C_Number H4 v1 sz w1 := (sd1.xb hp2 x3).ex e4
    have sd2' : Sd A.C_Number H4 v2 sz w2 := sd2.ex e4
    have k4 : ∀ H', Ex H4 H' → Q (.bl true) H' := fun H' e => k H' its (XB.x3 (xx.tr (Ex.xb e))) (hp4.ex e) (hR4.ex e) (e _ _ hm4)
    clear hR hm hp hlo x1 x2 x3 hp1 hp2 hp3 ht1 ht2 sd1 sd2 ht1' ht2' htt e4 E4 nt
    obtain ⟨w, rfl⟩ := Int.eq_ofNat_of_zero_le a0
    have hs := hR4.s1
    have hml := hR4.len
    have hm1 := hR4.m1
    have fi := fine_index
    have ff := fine_full
    refine ⟨_, rfl, rfl, _, rfl, ?_⟩
    by_cases h0 : V.int d = V.int 0
    · refine if_true (by rw [decide_eq_true h0]) ?_
      refine ⟨_, rfl, _, rfl, mn, _, rfl, .inl (SqL.of hm4), _, _, rfl, rfl, _, rfl, ?_⟩
      by_cases hw : w < its.length
      · refine if_true (decide_eq_true (by rw [List.length_map]; omega)) ?_
        obtain ⟨z, hz⟩ : ∃ z, its[w]? = some z := ⟨_, List.getElem?_eq_getElem hw⟩
        have hb := hR4.ok z (List.mem_of_getElem? hz)
        refine ⟨_, rfl, _, rfl, _, rfl, mn, _, _, _, rfl, rfl, SqL.of hm4, at_is hz, (by show 2 ≤ sizeLine; decide), fun q nq => ?_⟩
        have e5 : Ex H4 (upd H4 q (.lst [V.int sz, V.int z])) := Ex.nw nq
        have f2 := fine_2 (a := sz) (b := z) (by omega) (by omega) hb.1 (by omega)
        refine ⟨_, rfl, _, rfl, r, l, v1, sz, mo, sz, w, its, rfl, hR4.ex e5, sd1'.ex e5, (fun z' hz' q2 H6 e6 hq2 => ?_), (fun h => absurd h (by omega))⟩
        rw [hz] at hz'
        cases hz'
        refine ⟨_, _, rfl, dq_lst hq2 rfl, f2.sh, f2.nd, f2.dp, f2.ln, _, rfl, _, _, rfl, dq_lst (e6 _ _ upd_same) rfl, f2.sh, f2.nd, f2.dp, f2.ln, rfl, q_eq (k4 _ (e5.tr e6))⟩
      · refine if_false (decide_eq_false (by rw [List.length_map]; omega)) ?_
        refine ⟨(by show 1 ≤ sizeLine; decide), fun q nq => ?_⟩
        have e5 : Ex H4 (upd H4 q (.tup [V.str "index"])) := Ex.nw nq
        refine ⟨_, rfl, _, rfl, r, l, v1, sz, mo, sz, w, its, rfl, hR4.ex e5, sd1'.ex e5, (fun z' hz' => absurd (List.getElem?_eq_some_iff.mp hz').1 hw), (fun _ q2 H6 e6 hq2 => ?_)⟩
        refine ⟨_, _, rfl, dq_tup hq2 rfl, fi.sh, fi.nd, fi.dp, fi.ln, _, rfl, _, _, rfl, dq_tup (e6 _ _ upd_same) rfl, fi.sh, fi.nd, fi.dp, fi.ln, rfl, q_eq (k4 _ (e5.tr e6))⟩
    · refine if_false (by rw [decide_eq_false h0]) ?_
      refine ⟨_, rfl, rfl, _, rfl, ?_⟩
      by_cases h1 : V.int d = V.int 1
      · refine if_true (by rw [decide_eq_true h1]) ?_
        obtain ⟨dx, hi⟩ := hR4.ins
        have fb := fine_bl (decide ((w : Int) < (its.length : Int)))
        refine ⟨_, rfl, r, dx, _, rfl, hi, rf_h _ _ _, _, rfl, r, l, v1, sz, mo, sz, _, its, rfl, hR4, sd1', by omega, _, _, rfl, .bl _, fb.sh, fb.nd, fb.dp, fb.ln, ?_⟩
        refine ⟨_, rfl, _, rfl, mn, _, rfl, .inl (SqL.of hm4), _, _, rfl, rfl, ?_⟩
        rw [List.length_map]
        exact ⟨_, _, rfl, .bl _, fb.sh, fb.nd, fb.dp, fb.ln, rfl, q_eq (k4 _ (Ex.rf _))⟩
      · refine if_false (by rw [decide_eq_false h1]) ?_
        refine ⟨_, rfl, _, _, rfl, rfl, _, rfl, if_dec (fun h2 => ?_) (fun h2 => ?_)⟩
        · refine ⟨_, rfl, _, rfl, mn, _, rfl, .inl (SqL.of hm4), _, _, rfl, rfl, _, rfl, ?_⟩
          by_cases hw : w < its.length
          · refine if_true (decide_eq_true (by rw [List.length_map]; omega)) ?_
            refine ⟨_, rfl, _, rfl, _, rfl, r, l, v1, v2, sz, mo, sz, sz, w2, w, its, rfl, hR4, sd1', sd2', (fun _ => ?_), (fun h => absurd h (by omega))⟩
            have okj : ∀ i ∈ its.set w w2, 0 ≤ i ∧ i < sz := fun i hi => by
              rcases List.mem_or_eq_of_mem_set hi with h | h
              · exact hR4.ok i h
              · rw [h]; exact ⟨b0, b1⟩
            have hR5 := hR4.lput (js := its.set w w2) (by rw [List.length_set]; exact hml) okj
            have hm5 : (upd H4 l (.lst (is (its.set w w2)))) mn = some (.lst (is its)) := by rw [upd_ne (Ne.symm nlm)]; exact hm4
            have fn := fine_non
            refine ⟨_, rfl, rfl, _, rfl, if_true (by rfl) ?_⟩
            refine ⟨_, rfl, _, rfl, _, rfl, mn, _, _, w, rfl, rfl, hm5, ix_nat (by rw [List.length_map]; exact hw), ?_⟩
            rw [map_set]
            exact ⟨_, rfl, _, _, rfl, .non, fn.sh, fn.nd, fn.dp, fn.ln, _, rfl, _, _, rfl, .non, fn.sh, fn.nd, fn.dp, fn.ln, rfl, q_eq (k _ (its.set w w2) ((XB.x3 xx).tr (X3.wl.tr X3.wn)) ((hp4.up (Ne.symm nlp)).up (Ne.symm nmp)) (hR5.up2 (row_off hR4 hm4) nlm) upd_same)⟩
          · refine if_false (decide_eq_false (by rw [List.length_map]; omega)) ?_
            refine ⟨(by show 1 ≤ sizeLine; decide), fun q nq => ?_⟩
            have e5 : Ex H4 (upd H4 q (.tup [V.str "index"])) := Ex.nw nq
            refine ⟨_, rfl, _, rfl, _, rfl, r, l, v1, v2, sz, mo, sz, sz, w2, w, its, rfl, hR4.ex e5, sd1'.ex e5, sd2'.ex e5, (fun h => absurd h hw), (fun _ q2 H6 e6 hq2 => ?_)⟩
            exact ⟨_, rfl, rfl, _, rfl, if_false (by rfl) ⟨_, rfl, _, _, rfl, dq_tup hq2 rfl, fi.sh, fi.nd, fi.dp, fi.ln, _, rfl, _, _, rfl, dq_tup (e6 _ _ upd_same) rfl, fi.sh, fi.nd, fi.dp, fi.ln, rfl, q_eq (k4 _ (e5.tr e6))⟩⟩
        · refine ⟨_, rfl, mn, _, rfl, .inl (SqL.of hm4), _, rfl, _, _, rfl, rfl, _, rfl, ?_⟩
          by_cases hw : (its.length : Int) < mo
          · refine if_true (decide_eq_true (by rw [List.length_map]; omega)) ?_
            refine ⟨_, rfl, _, rfl, r, l, v2, sz, mo, sz, w2, its, rfl, hR4, sd2', b0, b1, (fun _ H6 e6 => ?_), (fun h => absurd h (by omega))⟩
            have okj : ∀ i ∈ its ++ [w2], 0 ≤ i ∧ i < sz := fun i hi => by
              rcases List.mem_append.mp hi with h | h
              · exact hR4.ok i h
              · rw [List.mem_singleton.mp h]; exact ⟨b0, b1⟩
            have hR5 := hR4.lput (js := its ++ [w2]) (by rw [List.length_append]; show ((its.length + 1 : Nat) : Int) ≤ mo; omega) okj
            have hm5 : (upd H4 l (.lst (is (its ++ [w2])))) mn = some (.lst (is its)) := by rw [upd_ne (Ne.symm nlm)]; exact hm4
            have fn := fine_non
            have hm6 := e6 _ _ hm5
            refine ⟨_, rfl, rfl, _, rfl, if_true (by rfl) ?_⟩
            refine ⟨_, rfl, .inl ⟨rfl, _, SqL.of hm6⟩, _, rfl, mn, _, _, rfl, rfl, hm6, small (by rw [List.length_map]; omega), ?_⟩
            rw [map_app]
            exact ⟨_, rfl, _, _, rfl, .non, fn.sh, fn.nd, fn.dp, fn.ln, _, rfl, _, _, rfl, .non, fn.sh, fn.nd, fn.dp, fn.ln, rfl, q_eq (k _ (its ++ [w2]) ((XB.x3 xx).tr (X3.wl.tr ((XB.x3 (Ex.xb e6)).tr X3.wn))) (((hp4.up (Ne.symm nlp)).ex e6).up (Ne.symm nmp)) ((hR5.ex e6).up2 (row_off hR4 hm4) nlm) upd_same)⟩
          · refine if_false (decide_eq_false (by rw [List.length_map]; omega)) ?_
            refine ⟨(by show 1 ≤ sizeLine; decide), fun q nq => ?_⟩
            have e5 : Ex H4 (upd H4 q (.tup [V.str "full"])) := Ex.nw nq
            refine ⟨_, rfl, _, rfl, r, l, v2, sz, mo, sz, w2, its, rfl, hR4.ex e5, sd2'.ex e5, b0, b1, (fun h => absurd h (by omega)), (fun _ q2 H6 e6 hq2 => ?_)⟩
            exact ⟨_, rfl, rfl, _, rfl, if_false (by rfl) ⟨_, rfl, _, _, rfl, dq_tup hq2 rfl, ff.sh, ff.nd, ff.dp, ff.ln, _, rfl, _, _, rfl, dq_tup (e6 _ _ upd_same) rfl, ff.sh, ff.nd, ff.dp, ff.ln, rfl, q_eq (k4 _ (e5.tr e6))⟩⟩
end
end K02
set_option Elab.async false
set_option linter.all false
set_option maxRecDepth 100000
set_option maxHeartbeats 4400000
namespace K02
open PySem PySem.Spec PyProof.Rows L2 HX
open PySem.W (Frag)


/-- flat, or a tuple of such -/
inductive Fl2 : PyData → Prop
  | f {d : PyData} (h : Flat d) : Fl2 d
  | t {ds : List PyData} (h : ∀ d ∈ ds, Flat d) (hl : ds.length ≤ 10) : Fl2 (.tuple ds)
theorem Fl2.all {ds : List PyData} (h : ∀ d ∈ ds, Fl2 d) : PyData.showableAll ds = true ∧ PyData.hasDictAll ds = false ∧ PyData.leavesShortAll 13 ds = true ∧ PyData.depthAll ds ≤ 2 ∧ PyData.weightAll ds ≤ 900 * ds.length := by
  induction ds with
  | nil => simp [PyData.showableAll, PyData.hasDictAll, PyData.leavesShortAll, PyData.depthAll, PyData.weightAll]
  | cons d ds ih =>
    obtain ⟨i1, i2, i3, i4, i5⟩ := ih fun x hx => h x (List.mem_cons_of_mem _ hx)
    have hd := h d List.mem_cons_self
    simp only [PyData.showableAll, PyData.hasDictAll, PyData.leavesShortAll, PyData.depthAll, PyData.weightAll, i1, i2, i3, Bool.and_true, Bool.or_false, List.length_cons]
    cases hd with
    | f hf =>
      obtain ⟨j1, j2, j3, j4, j5⟩ := Flat.all (ds := [d]) (fun x hx => by rw [List.mem_singleton.mp hx]; exact hf)
      simp only [PyData.showableAll, PyData.hasDictAll, PyData.leavesShortAll, PyData.depthAll, PyData.weightAll, Bool.and_true, Bool.or_false, List.length_cons, List.length_nil] at j1 j2 j3 j4 j5
      exact ⟨j1, j2, j3, by omega, by omega⟩
    | t ht hl =>
      obtain ⟨j1, j2, j3, j4, j5⟩ := Flat.all ht
      refine ⟨by simp only [PyData.showable, j1], by simp only [PyData.hasDict, j2], by simp only [PyData.leavesShort, j3], by simp only [PyData.depth]; omega, by simp only [PyData.weight]; omega⟩
theorem fine_deep {ds : List PyData} (h : ∀ d ∈ ds, Fl2 d) (hl : ds.length ≤ 10) : Fine (.list ds) := by
  obtain ⟨h1, h2, h3, h4, h5⟩ := Fl2.all h
  refine ⟨by simp only [PyData.showable, h1], by simp only [PyData.hasDict, h2], by simp only [PyData.depth]; omega, PyData.shown_fits (B := 13) (by decide) (by decide) (by simp only [PyData.leavesShort, h3]) (by simp only [PyData.weight]; omega)⟩
abbrev td (its : List Int) : PyData := .tuple ((is its).map fl)
theorem fl_is (its : List Int) : (is its).all isFl = true := by
  induction its with
  | nil => rfl
  | cons i r ih => exact ih
theorem fl2_is {its : List Int} {s : Int} (h : ∀ i ∈ its, 0 ≤ i ∧ i < s) (hs : s < 5) (hl : its.length ≤ 10) : Fl2 (td its) := .t (flats fun v hv => by
  obtain ⟨i, hi, rfl⟩ := List.mem_map.mp hv
  have := h i hi
  exact ⟨i, rfl, by omega, by omega⟩) (by rw [List.length_map, List.length_map]; exact hl)
theorem fine_wl {its : List Int} {s : Int} {n : Int} (h : ∀ i ∈ its, 0 ≤ i ∧ i < s) (hs : s < 5) (hl : its.length ≤ 10) (h0 : -1000 ≤ n) (h1 : n ≤ 1000) : Fine (.list [td its, .int n]) := fine_deep (fun d hd => by
  simp only [List.mem_cons, List.not_mem_nil, or_false] at hd
  rcases hd with rfl | rfl
  · exact fl2_is h hs hl
  · exact .f (flat_i h0 h1)) (by show 2 ≤ 10; decide)
theorem fine_ww {its js : List Int} {s : Int} (h : ∀ i ∈ its, 0 ≤ i ∧ i < s) (hj : ∀ i ∈ js, 0 ≤ i ∧ i < s) (hs : s < 5) (hl : its.length ≤ 10) (hlj : js.length ≤ 10) : Fine (.list [td its, td js]) := fine_deep (fun d hd => by
  simp only [List.mem_cons, List.not_mem_nil, or_false] at hd
  rcases hd with rfl | rfl
  · exact fl2_is h hs hl
  · exact fl2_is hj hs hlj) (by show 2 ≤ 10; decide)
theorem dq_two {K : Frag} {H : Hp} {a : Addr} {x y : V} {d e : PyData} (h : H a = some (.lst [x, y])) (hx : Dq K H x d) (hy : Dq K H y e) : Dq K H (.ref a) (.list [d, e]) := .lst (SqL.of h) rfl fun i v u e1 e2 => by
  match i, e1, e2 with
  | 0, e1, e2 => cases e1; cases e2; exact hx
  | 1, e1, e2 => cases e1; cases e2; exact hy
  | i + 2, e1, e2 => simp at e1
theorem dq_td {K : Frag} {H : Hp} {t : Addr} {its : List Int} (h : H t = some (.tup (is its))) : Dq K H (.ref t) (td its) := dq_tup h (fl_is its)
theorem made_row {x dx C : Addr} {H H' : Hp} (nx : H x = none) (ndx : H dx = none) (e : XB x (upd (upd H dx (.own x)) x (.ins C dx [])) H') : Ex H H' := fun a o h => e a o (ne_of_none h nx) (by rw [upd_ne (ne_of_none h nx), upd_ne (ne_of_none h ndx)]; exact h)
theorem none_back {x dx l : Addr} {H : Hp} {o u : HO} (n : (upd (upd H dx o) x u) l = none) : H l = none := by
  by_cases h : l = x
  · rw [h, upd_same] at n; cases n
  · rw [upd_ne h] at n
    by_cases h2 : l = dx
    · rw [h2, upd_same] at n; cases n
    · rw [upd_ne h2] at n; exact n
theorem XB.mu {H H' : Hp} {p q : Addr} {o : HO} (e : XB p H H') (h : H q = none) : XB p H (upd H' q o) := fun a u n ha => by
  rw [upd_ne (ne_of_none ha h)]
  exact e a u n ha
theorem ex_xb {H H1 H2 : Hp} {p : Addr} (e : Ex H H1) (x : XB p H1 H2) (h : H p = none) : Ex H H2 := fun c o z => x c o (ne_of_none z h) (e c o z)
theorem X3.back {p l n : Addr} {H H1 H2 : Hp} (e : XB p H H1) (x : X3 p l n H1 H2) (hl : H l = none) (hn : H n = none) : XB p H H2 := fun c o a z => x c o a (ne_of_none z hl) (ne_of_none z hn) (e c o a z)
def spRowR : Sp := fun vs H Q _ => ∃ (p : Addr) (N : Int), vs = [.ref p] ∧ PotAt H p N ∧ N ≤ 70000 ∧ ∀ H', XB p H H' → PotAt H' p (N + 200) → Q (.bl true) H'
def spLaw (K : Frag) : Sp := fun vs H Q _ => ∃ (a : Addr) (ns : List Int), vs = [.ref a] ∧ SqL K H a (ns.map V.int) ∧ ns.length ≤ 63 ∧ ∀ H', Q (.bl true) H'
theorem two_b (b c : Bool) : 0 ≤ 1 + (if b = true then (1 : Int) else 0) + (if c = true then 1 else 0) ∧ 1 + (if b = true then (1 : Int) else 0) + (if c = true then 1 else 0) ≤ 3 := by cases b <;> cases c <;> decide
theorem q_neb {z : Str} : (!decide (V.str z = V.str z)) = false := by rw [decide_eq_true rfl]; rfl

section
variable {P : Program} {w : World} {K : Frag} {mg : Str → Option Value} {base : Heap} {A : Ad}

theorem ok_row_right (T : Txt K mg A) : FnG P w K mg base CX0 9 A.f_row_right A.d_row_right ["_law_pot_here"] (spRowR) := by
  refine okG0 T.F_row_right sc_row_right (fun vs H Q E h => ?_) (fun cdv A0 outer s H vs Q E hgd0 hr h => ?_)
  · obtain ⟨_, _, rfl, _⟩ := h
    rfl
  · have hu := hu_of hr
    have hgd : (A0.deeper (envOfC "_law_row_right" (defScope s_row_right) s.heap.objs.size A.f_row_right cdv)).guards = some [] := hgd0
    obtain ⟨p, N, rfl, hp, hN, k⟩ := h
    refine ⟨_, (pss_cons (ps_asg (pe_tup (pa_cons (pe_op op_add pe_int (pe_call (ok_take T) (hr.mono (by decide)) (by rfl) T.m_take T.F_take.kp T.b_take .nil pass0 (pa_cons (pv 0) (pa_cons pe_int pa_nil)))) (pa_cons (pe_op op_add pe_int (pe_call (ok_take T) (hr.mono (by decide)) (by rfl) T.m_take T.F_take.kp T.b_take .nil pass0 (pa_cons (pv 0) (pa_cons pe_int pa_nil)))) pa_nil))) (pg_tup rfl (pgs_cons (pg_name (i := 1) sc_row_right.nd rfl (Or.inr rfl)) (pgs_cons (pg_name (i := 2) sc_row_right.nd rfl (Or.inl rfl)) pgs_nil))))
      (pss_cons (ps_setLc (i := 3) (own := [("_law_lap", 8)]) (g := gName 8) (tt := tYes) (by rfl) sc_row_right.nd rfl rfl (sw_true rfl rfl rfl (by decide +kernel)) (pi_range1 rfl T.g_range (pa_cons (pe_call (ok_take T) (hr.mono (by decide)) (by rfl) T.m_take T.F_take.kp T.b_take .nil pass0 (pa_cons (pv 0) (pa_cons (pe_op op_add (pv 2) pe_int) pa_nil))) pa_nil)) (blkOk_by (N := N_row_right) (sc := defScope s_row_right) (by decide +kernel)) (fun _ _ _ _ _ => pg_name (i := 8) sc_row_right.nd rfl (Or.inl rfl)) (fun _ _ _ _ _ => pts_nil) (fun _ _ _ _ _ => (pe_call (ok_take T) (hr.mono (by decide)) (by rfl) T.m_take T.F_take.kp T.b_take .nil pass0 (pa_cons (pv 0) (pa_cons (pv 1) pa_nil)))))
      (pss_cons (ps_set (i := 4) sc_row_right.nd rfl (Or.inl rfl) (pe_callTy call_tuple_of (by rfl) T.g_tuple (by decide +kernel) (pa_cons (pv 3) pa_nil)))
      (pss_cons (ps_par (i := 5) (j := 6) (by rfl) sc_row_right.nd rfl rfl (by decide) rfl rfl (pa_cons (pe_make T.mk_Row (ok_Row_init T) (hr.mono (by decide)) (by rfl) T.m_Row T.b_Row_init .nil pass0 (pa_cons (pv 1) (pa_cons (pv 2) (pa_cons (pv 4) pa_nil)))) (pa_cons (pe_make T.mk_Row (ok_Row_init T) (hr.mono (by decide)) (by rfl) T.m_Row T.b_Row_init .nil pass0 (pa_cons (pv 1) (pa_cons (pv 2) (pa_cons (pv 4) pa_nil)))) pa_nil)) (by rfl))
      (pss_cons (ps_for PassesOwn.never rfl (pi_range1 rfl T.g_range (pa_cons pe_int pa_nil)) (pg_name (i := 7) sc_row_right.nd rfl (Or.inl rfl)) (pss_cons (ps_if (pt_not (pt_val (pe_callG hgd (ok_deed_right T) (hr.mono (by decide)) (by rfl) T.m_deed_right T.F_deed_right.kp T.b_deed_right .nil pass0 (pa_cons (pv 0) (pa_cons (pv 5) (pa_cons (pv 3) (pa_cons (pe_tup (pa_cons (pv 1) (pa_cons (pv 2) pa_nil))) pa_nil))))))) (pss_one (ps_ret pe_bl)) pss_nil)
      (pss_one (ps_if (pt_cmpR op_ne (pe_callB (call_reprD hgd hr.units) (by rfl) T.g_repr (by decide +kernel) (pa_cons (pe_lst (pa_cons (pe_prop (pv 5) T.cls_Row T.P_worths (ok_worths T) (hr.mono (by decide)) T.b_Row_worths .nil pass0 rfl) (pa_cons (pe_callB (call_lenO T.ln T.lnf (ok_len T) T.b_Row_len (hr.mono (by decide)) pass0) (by rfl) T.g_len (by decide +kernel) (pa_cons (pv 5) pa_nil)) pa_nil))) pa_nil)) (pe_callB (call_reprD hgd hr.units) (by rfl) T.g_repr (by decide +kernel) (pa_cons (pe_lst (pa_cons (pe_callTy call_tuple_of (by rfl) T.g_tuple (by decide +kernel) (pa_cons (pv 3) pa_nil)) (pa_cons (pe_callB call_len_seq (by rfl) T.g_len (by decide +kernel) (pa_cons (pv 3) pa_nil)) pa_nil))) pa_nil)) (nomark _)) (pss_one (ps_ret pe_bl)) pss_nil))))
      (pss_one (ps_ret (pe_cmpR op_eq (pe_callB (call_reprD hgd hr.units) (by rfl) T.g_repr (by decide +kernel) (pa_cons (pe_lst (pa_cons (pe_prop (pv 6) T.cls_Row T.P_worths (ok_worths T) (hr.mono (by decide)) T.b_Row_worths .nil pass0 rfl) (pa_cons (pv 4) pa_nil))) pa_nil)) (pe_callB (call_reprD hgd hr.units) (by rfl) T.g_repr (by decide +kernel) (pa_cons (pe_lst (pa_cons (pv 4) (pa_cons (pv 4) pa_nil))) pa_nil)) (nomark _))))))))), ?_⟩
    refine ⟨_, rfl, p, 3, N, rfl, hp, by decide, by decide, by omega, fun d1 H1 d10 d11 x1 hp1 => ?_⟩
    refine ⟨_, _, rfl, rfl, ?_⟩
    refine ⟨_, rfl, p, 2, N + 1, rfl, hp1, by decide, by decide, by omega, fun d2 H2 d20 d21 x2 hp2 => ⟨_, _, rfl, rfl, (by show 2 ≤ sizeLine; decide), fun tq nq => ⟨tq, _, rfl, SqT.of upd_same, rfl, _, _, rfl, _, _, rfl, rfl, ?_⟩⟩⟩
    dsimp only
    have eq0 : Ex H2 (upd H2 tq (.tup [V.int (2 + d1), V.int (1 + d2)])) := Ex.nw nq
    obtain ⟨H2', E2'⟩ : ∃ z, z = upd H2 tq (.tup [V.int (2 + d1), V.int (1 + d2)]) := ⟨_, rfl⟩
    rw [← E2'] at eq0 ⊢
    have x2 := x2.tr (Ex.xb eq0)
    have hp2 := hp2.ex eq0
    obtain ⟨sz, hsz⟩ : ∃ z, z = 2 + d1 := ⟨_, rfl⟩
    obtain ⟨mo, hmo⟩ : ∃ z, z = 1 + d2 := ⟨_, rfl⟩
    rw [← hsz, ← hmo]
    refine ⟨_, rfl, _, rfl, _, _, rfl, rfl, p, mo + 1, N + 1 + 1, rfl, hp2, by omega, by omega, by omega, fun d3 H3 d30 d31 x3 hp3 => ?_⟩
    refine ⟨d3, rfl, by omega, by omega, fun D nD => lc_range (lo := 0) (n := d3.toNat) (fun j H' => ∃ its : List Int, its.length = j ∧ (∀ i ∈ its, 0 ≤ i ∧ i < sz) ∧ H' D = some (.lst (is its)) ∧ XB p H3 H' ∧ PotAt H' p (N + 3 + j)) ⟨[], rfl, (fun i hi => by cases hi), upd_same, Ex.xb (Ex.nw nD), (hp3.mono (by omega)).up (Ne.symm (pot_none hp3 nD))⟩ ?_ ?_⟩
    · rintro j H4 hj ⟨its, hl, hok, hD, xx, hp4⟩
      have nDp : D ≠ p := pot_none hp3 nD
      refine ⟨rfl, _, rfl, _, rfl, p, sz, _, rfl, hp4, by omega, by omega, by omega, fun d H5 d0 d1' x5 hp5 => ?_⟩
      refine ⟨_, x5 _ _ nDp hD, small (by rw [List.length_map]; omega), its ++ [d], (by simp [hl]), (fun i hi => ?_), (by rw [map_app]; exact upd_same), XB.mu (xx.tr x5) nD, (hp5.mono (by omega)).up (Ne.symm nDp)⟩
      rcases List.mem_append.mp hi with h | h
      · exact hok i h
      · rw [List.mem_singleton.mp h]; exact ⟨d0, d1'⟩
    rintro H4 ⟨its, hl, hok, hD, xx, hp4⟩
    have nDp : D ≠ p := pot_none hp3 nD
    have nD0 : H D = none := by
      obtain ⟨a, b, c, z1, _⟩ := hp3
      obtain ⟨a2, b2, c2, z2, _⟩ := hp2
      obtain ⟨a3, b3, c3, z3, _⟩ := hp1
      exact XB.fr x1 z3 (XB.fr x2 z2 (XB.fr x3 z1 nD))
    have x4 : XB p H H4 := x1.tr (x2.tr (x3.tr xx))
    have hlm : (its.length : Int) ≤ mo := by omega
    have s0 : 2 ≤ sz := by omega
    have s1 : sz < 5 := by omega
    have m0 : 1 ≤ mo := by omega
    have m1 : mo < 3 := by omega
    have hp4' : PotAt H4 p (N + 6) := hp4.mono (by omega)
    clear hp1 hp2 hp3 x1 x2 x3 xx nD hp4 hsz hmo
    refine ⟨_, rfl, D, _, rfl, .inl ⟨SqL.of hD, fun tb ntb => ?_⟩⟩
    have e5 : Ex H4 (upd H4 tb (.tup (is its))) := Ex.nw ntb
    obtain ⟨H5, E5⟩ : ∃ z, z = upd H4 tb (.tup (is its)) := ⟨_, rfl⟩
    have htb : H5 tb = some (.tup (is its)) := by rw [E5]; exact upd_same
    rw [← E5] at e5 ⊢
    refine ⟨_, rfl, _, rfl, _, rfl, fun x dx nx ndx ne => ?_⟩
    refine ⟨x, dx, tb, sz, mo, its, rfl, upd_same, (by rw [upd_ne (ne_of_none htb nx), upd_ne (ne_of_none htb ndx)]; exact htb), s0, s1, m0, m1, hlm, hok, fun l1 H6 nl1 xb6 hR1 => ⟨rfl, ?_⟩⟩
    have e6 : Ex H5 H6 := made_row nx ndx xb6
    have nl1' := none_back nl1
    refine ⟨_, rfl, _, rfl, _, rfl, fun x2 dx2 nx2 ndx2 ne2 => ?_⟩
    have htb6 := e6 _ _ htb
    refine ⟨x2, dx2, tb, sz, mo, its, rfl, upd_same, (by rw [upd_ne (ne_of_none htb6 nx2), upd_ne (ne_of_none htb6 ndx2)]; exact htb6), s0, s1, m0, m1, hlm, hok, fun l2 H7 nl2 xb7 hR2 => ⟨rfl, _, _, rfl, ?_⟩⟩
    have e7 : Ex H6 H7 := made_row nx2 ndx2 xb7
    have nl2' := none_back nl2
    have l12 : l2 ≠ l1 := (ne_of_none hR1.lst nl2').symm
    have nl1D : l1 ≠ D := Ne.symm (ne_of_none (e5 _ _ hD) nl1')
    have nl1p : l1 ≠ p := pot_none (hp4'.ex e5) nl1'
    have nl2D : l2 ≠ D := Ne.symm (ne_of_none (e6 _ _ (e5 _ _ hD)) nl2')
    have nl2p : l2 ≠ p := pot_none ((hp4'.ex e5).ex e6) nl2'
    have nl10 : H l1 = none := by
      obtain ⟨a, b, c, z1, _⟩ := hp4'
      exact XB.fr x4 z1 (e5.fr nl1')
    have hE : Ex H4 H7 := e5.tr (e6.tr e7)
    refine ⟨20, rfl, by decide, by decide, for_range (n := 20) (fun i σ H' => (∃ v4 v8, σ = [some (.ref p), some (.int sz), some (.int mo), some (.ref D), some (.ref tb), some (.ref x), some (.ref x2), v4, v8]) ∧ XB p H H' ∧ PotAt H' p (N + 6 + 5 * i) ∧ H' tb = some (.tup (is its)) ∧ RowAt A.C_Row H' x2 l2 sz mo its ∧ ∃ js, RowAt A.C_Row H' x l1 sz mo js ∧ H' D = some (.lst (is js))) ⟨⟨_, _, rfl⟩, x4.tr (Ex.xb hE), (hp4'.ex hE).mono (by omega), e7 _ _ htb6, hR2, its, hR1.ex e7, hE _ _ hD⟩ ?_ ?_⟩
    · rintro i σ H8 hi ⟨⟨v4, v8, rfl⟩, y8, hp8, htb8, hM8, js, hR8, hD8⟩
      refine ⟨_, rfl, _, rfl, _, rfl, _, rfl, _, rfl, (by show 2 ≤ sizeLine; decide), fun lo nlo => ?_⟩
      have e9 : Ex H8 (upd H8 lo (.tup [V.int sz, V.int mo])) := Ex.nw nlo
      refine ⟨p, x, l1, D, lo, sz, mo, N + 6 + 5 * i, js, rfl, hp8.ex e9, by omega, hR8.ex e9, e9 _ _ hD8, upd_same, nl1p, nl1D, nDp, fun H9 ks z9 hp9 hR9 hD9 => ?_⟩
      have htb9 : H9 tb = some (.tup (is its)) := z9 _ _ (pot_off (hp8.ex e9) (e9 _ _ htb8) (by intro _ y; cases y)) (ne_of (e9 _ _ htb8) (hR8.ex e9).lst (by intro y; cases y)) (ne_of (e9 _ _ htb8) (e9 _ _ hD8) (by intro y; cases y)) (e9 _ _ htb8)
      have hM9 : RowAt A.C_Row H9 x2 l2 sz mo its := by
        have hM := hM8.ex e9
        obtain ⟨dq, hiq⟩ := hM.ins
        exact { hM with ins := ⟨dq, z9 _ _ (pot_off (hp8.ex e9) hiq (by intro _ y; cases y)) (ne_of hiq (hR8.ex e9).lst (by intro y; cases y)) (ne_of hiq (e9 _ _ hD8) (by intro y; cases y)) hiq⟩, lst := z9 _ _ nl2p l12 nl2D hM.lst }
      have y9 : XB p H H9 := X3.back (y8.tr (Ex.xb e9)) z9 nl10 nD0
      have hp9' : PotAt H9 p (N + 6 + 5 * (i + 1 : Nat)) := hp9.mono (by push_cast; omega)
      clear hp9 z9 e9 hp8 htb8 hM8 hR8 hD8
      refine ⟨_, rfl, if_false rfl ?_⟩
      obtain ⟨dx9, hi9⟩ := hR9.ins
      have hkl := hR9.len
      have hks : ks.length ≤ 10 := by omega
      have f1 := fine_wl (n := (ks.length : Int)) hR9.ok s1 hks (by omega) (by omega)
      refine ⟨_, rfl, x, dx9, _, rfl, hi9, x, l1, sz, mo, ks, rfl, hR9, fun t1 n1 => ?_⟩
      have a1 : Ex H9 (upd H9 t1 (.tup (is ks))) := Ex.nw n1
      refine ⟨_, rfl, _, rfl, (hR9.ex a1).one, x, l1, sz, mo, ks, rfl, hR9.ex a1, ks.length, rfl, by omega, (by show 2 ≤ sizeLine; decide), fun q1 nq1 => ?_⟩
      have a2 : Ex (upd H9 t1 (.tup (is ks))) (upd (upd H9 t1 (.tup (is ks))) q1 (.lst [V.ref t1, V.int ks.length])) := Ex.nw nq1
      refine ⟨_, _, rfl, dq_two upd_same (dq_td (a2 _ _ upd_same)) (.int _), f1.sh, f1.nd, f1.dp, f1.ln, ?_⟩
      refine ⟨_, rfl, D, _, rfl, .inl ⟨SqL.of (a2 _ _ (a1 _ _ hD9)), fun t2 n2 => ?_⟩⟩
      obtain ⟨Ha, Ea⟩ : ∃ z, z = upd (upd H9 t1 (.tup (is ks))) q1 (.lst [V.ref t1, V.int ks.length]) := ⟨_, rfl⟩
      rw [← Ea] at a2 n2 ⊢
      have a3 : Ex Ha (upd Ha t2 (.tup (is ks))) := Ex.nw n2
      refine ⟨_, rfl, D, _, rfl, .inl (SqL.of (a3 _ _ (a2 _ _ (a1 _ _ hD9)))), ?_⟩
      rw [List.length_map]
      refine ⟨(by show 2 ≤ sizeLine; decide), fun q2 nq2 => ?_⟩
      have a4 : Ex (upd Ha t2 (.tup (is ks))) (upd (upd Ha t2 (.tup (is ks))) q2 (.lst [V.ref t2, V.int ks.length])) := Ex.nw nq2
      refine ⟨_, _, rfl, dq_two upd_same (dq_td (a4 _ _ upd_same)) (.int _), f1.sh, f1.nd, f1.dp, f1.ln, rfl, _, rfl, if_false q_neb ?_⟩
      have ae := a1.tr (a2.tr (a3.tr a4))
      exact ⟨⟨_, _, rfl⟩, y9.tr (Ex.xb ae), hp9'.ex ae, ae _ _ htb9, hM9.ex ae, ks, hR9.ex ae, ae _ _ hD9⟩
    · rintro σ H8 ⟨⟨v4, v8, rfl⟩, y8, hp8, htb8, hM8, js, hR8, hD8⟩
      obtain ⟨dx9, hi9⟩ := hM8.ins
      have hil : its.length ≤ 10 := by omega
      have f1 := fine_ww hok hok s1 hil hil
      refine ⟨_, rfl, x2, dx9, _, rfl, hi9, x2, l2, sz, mo, its, rfl, hM8, fun t1 n1 => ?_⟩
      have a1 : Ex H8 (upd H8 t1 (.tup (is its))) := Ex.nw n1
      refine ⟨_, rfl, (by show 2 ≤ sizeLine; decide), fun q1 nq1 => ?_⟩
      have a2 : Ex (upd H8 t1 (.tup (is its))) (upd (upd H8 t1 (.tup (is its))) q1 (.lst [V.ref t1, V.ref tb])) := Ex.nw nq1
      refine ⟨_, _, rfl, dq_two upd_same (dq_td (a2 _ _ upd_same)) (dq_td (a2 _ _ (a1 _ _ htb8))), f1.sh, f1.nd, f1.dp, f1.ln, ?_⟩
      obtain ⟨Ha, Ea⟩ : ∃ z, z = upd (upd H8 t1 (.tup (is its))) q1 (.lst [V.ref t1, V.ref tb]) := ⟨_, rfl⟩
      rw [← Ea] at a2 ⊢
      have htba := a2 _ _ (a1 _ _ htb8)
      refine ⟨_, rfl, _, rfl, (by show 2 ≤ sizeLine; decide), fun q2 nq2 => ?_⟩
      have a3 : Ex Ha (upd Ha q2 (.lst [V.ref tb, V.ref tb])) := Ex.nw nq2
      have ae := a1.tr (a2.tr a3)
      exact ⟨_, _, rfl, dq_two upd_same (dq_td (a3 _ _ htba)) (dq_td (a3 _ _ htba)), f1.sh, f1.nd, f1.dp, f1.ln, rfl, q_eq (k _ (y8.tr (Ex.xb ae)) ((hp8.ex ae).mono (by omega)))⟩
theorem ok_law (T : Txt K mg A) : FnG P w K mg base CX0 10 A.f_law A.d_law ["_law_script"] (spLaw K) := by
  refine okG0 T.F_law sc_law (fun vs H Q E h => ?_) (fun cdv A0 outer s H vs Q E hgd0 hr h => ?_)
  · obtain ⟨_, _, rfl, _⟩ := h
    rfl
  · have hu := hu_of hr
    have hgd : (A0.deeper (envOfC "law" (defScope s_law) s.heap.objs.size A.f_law cdv)).guards = some [] := hgd0
    obtain ⟨a, ns, rfl, hS, hl, k⟩ := h
    refine ⟨_, (pss_cons (ps_for PassesOwn.never rfl (pi_range1 rfl T.g_range (pa_cons (pe_op op_add (pe_op op_add pe_int (pe_callTy call_int1 (by rfl) T.g_int (by decide +kernel) (pa_cons (pe_cmpR op_gt (pe_callB call_len_seq (by rfl) T.g_len (by decide +kernel) (pa_cons (pv 0) pa_nil)) pe_int (nomark _)) pa_nil))) (pe_callTy call_int1 (by rfl) T.g_int (by decide +kernel) (pa_cons (pe_cmpR op_gt (pe_callB call_len_seq (by rfl) T.g_len (by decide +kernel) (pa_cons (pv 0) pa_nil)) pe_int (nomark _)) pa_nil))) pa_nil)) (pg_name (i := 1) sc_law.nd rfl (Or.inl rfl)) (pss_cons (ps_set (i := 2) sc_law.nd rfl (Or.inr rfl) (pe_call (ok_pot T) (hr.mono (by decide)) (by rfl) T.m_pot T.F_pot.kp T.b_pot .nil pass0 (pa_cons (pv 0) (pa_cons (pv 1) pa_nil))))
      (pss_one (ps_if (pt_not (pt_val (pe_callB (cr_all rfl) (by rfl) T.g_all (by decide +kernel) (pa_cons (pe_lc (own := [("_law_turn", 3)]) (g := gName 3) (tt := tYes) rfl sc_law.nd (pi_range1 rfl T.g_range (pa_cons pe_int pa_nil)) (blkOk_by (N := N_law) (sc := defScope s_law) (by decide +kernel)) (fun _ _ _ _ _ => pg_name (i := 3) sc_law.nd rfl (Or.inl rfl)) (fun _ _ _ _ _ => pts_nil) (fun _ _ _ _ _ => (pe_callG hgd (ok_row_right T) (hr.mono (by decide)) (by rfl) T.m_row_right T.F_row_right.kp T.b_row_right .nil pass0 (pa_cons (pv 2) pa_nil)))) pa_nil)))) (pss_one (ps_ret pe_bl)) pss_nil))))
      (pss_one (ps_ret pe_bl))), ?_⟩
    refine ⟨_, rfl, a, _, rfl, .inl hS, _, _, rfl, rfl, .inr ⟨_, rfl, _, _, rfl, rfl, ?_⟩⟩
    refine ⟨_, rfl, a, _, rfl, .inl hS, _, _, rfl, rfl, .inr ⟨_, rfl, _, _, rfl, rfl, ?_⟩⟩
    have hb := two_b (decide ((1 : Int) < ((ns.map V.int).length : Int))) (decide ((2 : Int) < ((ns.map V.int).length : Int)))
    refine ⟨_, rfl, by omega, by omega, for_range (lo := 0) (n := (1 + (if (decide ((1 : Int) < ((ns.map V.int).length : Int))) = true then (1 : Int) else 0) + (if (decide ((2 : Int) < ((ns.map V.int).length : Int))) = true then (1 : Int) else 0)).toNat) (fun i σ H' => (∃ v1 v2 v3, σ = [some (.ref a), v1, v2, v3]) ∧ Ex H H') ⟨⟨_, _, _, rfl⟩, Ex.rf H⟩ ?_ ?_⟩
    · rintro i σ H2 hi ⟨⟨v1, v2, v3, rfl⟩, e2⟩
      refine ⟨_, rfl, _, rfl, a, ns, 0 + i, rfl, sql_ex hS e2, by omega, by omega, fun p H3 hp e3 pot => ?_⟩
      refine ⟨3, rfl, by decide, by decide, fun D nD => lc_range (lo := 0) (n := 3) (fun j H' => XB p H3 H' ∧ PotAt H' p (200 * j) ∧ H' D = some (.lst (List.replicate j (.bl true)))) ⟨Ex.xb (Ex.nw nD), (pot.mono (by omega)).up (Ne.symm (pot_none pot nD)), upd_same⟩ ?_ ?_⟩
      · rintro j H4 hj ⟨e4, hp4, hD⟩
        have nDp : D ≠ p := pot_none pot nD
        refine ⟨rfl, _, rfl, p, _, rfl, hp4, by omega, fun H5 x5 hp5 => ?_⟩
        refine ⟨_, x5 _ _ nDp hD, small (by rw [List.length_replicate]; omega), XB.mu (e4.tr x5) nD, (hp5.mono (by push_cast; omega)).up (Ne.symm nDp), ?_⟩
        rw [rep_next]
        exact upd_same
      · rintro H4 ⟨e4, hp4, hD⟩
        refine ⟨D, List.replicate 3 true, rfl, SqL.of (by rw [hD, rep_bl]), _, rfl, if_false (by rw [rep_all]; rfl) ?_⟩
        exact ⟨⟨_, _, _, rfl⟩, e2.tr (ex_xb e3 e4 hp)⟩
    · rintro σ H2 _
      exact k _
end
end K02
set_option Elab.async false
set_option linter.all false
set_option maxRecDepth 100000
set_option maxHeartbeats 4400000
namespace K02
open PySem PySem.Spec PyProof.Rows L2 HX
open PySem.W (Frag)
theorem exm_self {K : PySem.W.Frag} {S : Addr} (h1 : PySem.W.subIn K (.ref S) (.type "BaseException") = some true) (h2 : PySem.W.isClsIn K S = true) (h3 : PySem.W.typeIn K (.ref S) = some (.type "type")) (h4 : PySem.W.subIn K (.ref S) (.ref S) = some true) : PySem.W.exmOne K (.ref S) (.ref S) = some true := by
  have c1 : (PySem.W.clsIn K S).isSome = true := h2
  simp [PySem.W.exmOne, PySem.W.kitCls, h1, h3, h4, c1]
theorem kit_self {K : PySem.W.Frag} {t : Value} : PySem.W.kitOne K t t = some true := if_pos (beq_iff_eq.mpr rfl)
theorem kit_no {K : PySem.W.Frag} {t : Value} {C : Addr} {b : Bool} (hne : (t == .ref C) = false) (h2 : PySem.W.isClsIn K C = true) (h3 : PySem.W.typeIn K (.ref C) = some (.type "type")) (h : PySem.W.subIn K t (.ref C) = some b) : PySem.W.kitOne K t (.ref C) = some b := by
  have c1 : (PySem.W.clsIn K C).isSome = true := h2
  simp [PySem.W.kitOne, PySem.W.kitCls, hne, c1, h3, h]
theorem kit_noT {K : PySem.W.Frag} {C : Addr} {T : String} {b : Bool} (hm : PySem.W.kitMeta T = true) (h : PySem.W.subIn K (.ref C) (.type T) = some b) : PySem.W.kitOne K (.ref C) (.type T) = some b := by
  have e : ((Value.ref C) == (.type T)) = false := rfl
  simp [PySem.W.kitOne, PySem.W.kitCls, e, hm, h]
theorem all_mk {l : PySem.W.OpenLaw} {w : World} {K : Frag} {h : Heap} {mg : Str → Option Value} {fa : Addr} (X : K.In h) (G : h.Ns mainGlobals mg) (hfa : mg "law" = some (.ref fa))
    {xnm xq : Str} {xN : Addr} {xbs xbm : List Value} {xsn : List Str} {xsub : List Value} {xab : Bool} {xcol : Option Bool} {xdd : Option Addr} {xk0 xk1 xk2 xk3 xk5 : Option Value}
    {C_Fault C_Number C_Row f_Fault_init f_is_whole f_is_size f_is_most f_are_items f_Number_init f_Number_size p_size f_Number_worth p_worth f_worth_of f_Row_init f_Row_worths p_worths f_Row_has f_Row_len f_Row_getitem f_Row_set_item f_Row_push_item f_Row_setitem f_Row_iadd f_pot f_take f_number f_read f_set f_pushed f_deed_right f_row_right f_law : Addr}
    {od_Fault_init an_Fault_init od_is_whole an_is_whole od_is_size an_is_size od_is_most an_is_most od_are_items an_are_items od_Number_init an_Number_init od_Number_size an_Number_size od_Number_worth an_Number_worth od_worth_of an_worth_of od_Row_init an_Row_init od_Row_worths an_Row_worths od_Row_has an_Row_has od_Row_len an_Row_len od_Row_getitem an_Row_getitem od_Row_set_item an_Row_set_item od_Row_push_item an_Row_push_item od_Row_setitem an_Row_setitem od_Row_iadd an_Row_iadd od_pot an_pot od_take an_take od_number an_number od_read an_read od_set an_set od_pushed an_pushed od_deed_right an_deed_right od_row_right an_row_right od_law an_law : Option Addr}
    {sl_Fault_init sl_is_whole sl_is_size sl_is_most sl_are_items sl_Number_init sl_Number_size sl_Number_worth sl_worth_of sl_Row_init sl_Row_worths sl_Row_has sl_Row_len sl_Row_getitem sl_Row_set_item sl_Row_push_item sl_Row_setitem sl_Row_iadd sl_pot sl_take sl_number sl_read sl_set sl_pushed sl_deed_right sl_row_right sl_law : Array (Option Value)}
    {oc_Fault_init kV_Fault_init dc_Fault_init pm_Fault_init cd_Fault_init ct_Fault_init oc_is_whole kV_is_whole dc_is_whole pm_is_whole cd_is_whole ct_is_whole oc_is_size kV_is_size dc_is_size pm_is_size cd_is_size ct_is_size oc_is_most kV_is_most dc_is_most pm_is_most cd_is_most ct_is_most oc_are_items kV_are_items dc_are_items pm_are_items cd_are_items ct_are_items oc_Number_init kV_Number_init dc_Number_init pm_Number_init cd_Number_init ct_Number_init oc_Number_size kV_Number_size dc_Number_size pm_Number_size cd_Number_size ct_Number_size oc_Number_worth kV_Number_worth dc_Number_worth pm_Number_worth cd_Number_worth ct_Number_worth oc_worth_of kV_worth_of dc_worth_of pm_worth_of cd_worth_of ct_worth_of oc_Row_init kV_Row_init dc_Row_init pm_Row_init cd_Row_init ct_Row_init oc_Row_worths kV_Row_worths dc_Row_worths pm_Row_worths cd_Row_worths ct_Row_worths oc_Row_has kV_Row_has dc_Row_has pm_Row_has cd_Row_has ct_Row_has oc_Row_len kV_Row_len dc_Row_len pm_Row_len cd_Row_len ct_Row_len oc_Row_getitem kV_Row_getitem dc_Row_getitem pm_Row_getitem cd_Row_getitem ct_Row_getitem oc_Row_set_item kV_Row_set_item dc_Row_set_item pm_Row_set_item cd_Row_set_item ct_Row_set_item oc_Row_push_item kV_Row_push_item dc_Row_push_item pm_Row_push_item cd_Row_push_item ct_Row_push_item oc_Row_setitem kV_Row_setitem dc_Row_setitem pm_Row_setitem cd_Row_setitem ct_Row_setitem oc_Row_iadd kV_Row_iadd dc_Row_iadd pm_Row_iadd cd_Row_iadd ct_Row_iadd oc_pot kV_pot dc_pot pm_pot cd_pot ct_pot oc_take kV_take dc_take pm_take cd_take ct_take oc_number kV_number dc_number pm_number cd_number ct_number oc_read kV_read dc_read pm_read cd_read ct_read oc_set kV_set dc_set pm_set cd_set ct_set oc_pushed kV_pushed dc_pushed pm_pushed cd_pushed ct_pushed oc_deed_right kV_deed_right dc_deed_right pm_deed_right cd_deed_right ct_deed_right oc_row_right kV_row_right dc_row_right pm_row_right cd_row_right ct_row_right oc_law kV_law dc_law pm_law cd_law ct_law : Value}
    {rest_Number_size rest_Number_worth rest_Row_worths : List Value}
    (a_Fault : PySem.W.nsIn K mainGlobals "Fault" = some (some (.ref C_Fault)))
    (a_Number : PySem.W.nsIn K mainGlobals "Number" = some (some (.ref C_Number)))
    (a_Row : PySem.W.nsIn K mainGlobals "Row" = some (some (.ref C_Row)))
    (a_Fault_init : PySem.W.findIn K (.ref C_Fault) "__init__" = some (some (.ref f_Fault_init)))
    (i_Fault_init : PySem.W.isFn K (.ref f_Fault_init) = true)
    (l_Fault_init : K.lookup f_Fault_init = some ⟨oc_Fault_init, od_Fault_init, .func (PySem.W.fnOf "__init__" "Fault.__init__" (defArgs s_Fault_init) (defBody s_Fault_init) (defScope s_Fault_init) .none kV_Fault_init dc_Fault_init pm_Fault_init an_Fault_init cd_Fault_init ct_Fault_init), sl_Fault_init⟩)
    (c_Fault_init : PySem.W.codeIn K cd_Fault_init "Fault.__init__" = true)
    (k_Fault_init : PySem.W.keepIn K (.ref f_Fault_init) = true)
    (a_is_whole : PySem.W.nsIn K mainGlobals "is_whole" = some (some (.ref f_is_whole)))
    (l_is_whole : K.lookup f_is_whole = some ⟨oc_is_whole, od_is_whole, .func (PySem.W.fnOf "is_whole" "is_whole" (defArgs s_is_whole) (defBody s_is_whole) (defScope s_is_whole) .none kV_is_whole dc_is_whole pm_is_whole an_is_whole cd_is_whole ct_is_whole), sl_is_whole⟩)
    (c_is_whole : PySem.W.codeIn K cd_is_whole "is_whole" = true)
    (k_is_whole : PySem.W.keepIn K (.ref f_is_whole) = true)
    (a_is_size : PySem.W.nsIn K mainGlobals "is_size" = some (some (.ref f_is_size)))
    (l_is_size : K.lookup f_is_size = some ⟨oc_is_size, od_is_size, .func (PySem.W.fnOf "is_size" "is_size" (defArgs s_is_size) (defBody s_is_size) (defScope s_is_size) .none kV_is_size dc_is_size pm_is_size an_is_size cd_is_size ct_is_size), sl_is_size⟩)
    (c_is_size : PySem.W.codeIn K cd_is_size "is_size" = true)
    (k_is_size : PySem.W.keepIn K (.ref f_is_size) = true)
    (a_is_most : PySem.W.nsIn K mainGlobals "is_most" = some (some (.ref f_is_most)))
    (l_is_most : K.lookup f_is_most = some ⟨oc_is_most, od_is_most, .func (PySem.W.fnOf "is_most" "is_most" (defArgs s_is_most) (defBody s_is_most) (defScope s_is_most) .none kV_is_most dc_is_most pm_is_most an_is_most cd_is_most ct_is_most), sl_is_most⟩)
    (c_is_most : PySem.W.codeIn K cd_is_most "is_most" = true)
    (k_is_most : PySem.W.keepIn K (.ref f_is_most) = true)
    (a_are_items : PySem.W.nsIn K mainGlobals "are_items" = some (some (.ref f_are_items)))
    (l_are_items : K.lookup f_are_items = some ⟨oc_are_items, od_are_items, .func (PySem.W.fnOf "are_items" "are_items" (defArgs s_are_items) (defBody s_are_items) (defScope s_are_items) .none kV_are_items dc_are_items pm_are_items an_are_items cd_are_items ct_are_items), sl_are_items⟩)
    (c_are_items : PySem.W.codeIn K cd_are_items "are_items" = true)
    (k_are_items : PySem.W.keepIn K (.ref f_are_items) = true)
    (a_Number_init : PySem.W.findIn K (.ref C_Number) "__init__" = some (some (.ref f_Number_init)))
    (i_Number_init : PySem.W.isFn K (.ref f_Number_init) = true)
    (l_Number_init : K.lookup f_Number_init = some ⟨oc_Number_init, od_Number_init, .func (PySem.W.fnOf "__init__" "Number.__init__" (defArgs s_Number_init) (defBody s_Number_init) (defScope s_Number_init) .none kV_Number_init dc_Number_init pm_Number_init an_Number_init cd_Number_init ct_Number_init), sl_Number_init⟩)
    (c_Number_init : PySem.W.codeIn K cd_Number_init "Number.__init__" = true)
    (k_Number_init : PySem.W.keepIn K (.ref f_Number_init) = true)
    (a_Number_size : PySem.W.findIn K (.ref C_Number) "size" = some (some (.ref p_size)))
    (g_Number_size : PySem.W.specialIn K (.ref p_size) "__get__" = some (some (.builtin "property.__get__")))
    (t_Number_size : PySem.W.takesIn K (.ref p_size) = some true)
    (r_Number_size : PySem.W.recIn K p_size "property" = some (.ref f_Number_size :: rest_Number_size))
    (l_Number_size : K.lookup f_Number_size = some ⟨oc_Number_size, od_Number_size, .func (PySem.W.fnOf "size" "Number.size" (defArgs s_Number_size) (defBody s_Number_size) (defScope s_Number_size) .none kV_Number_size dc_Number_size pm_Number_size an_Number_size cd_Number_size ct_Number_size), sl_Number_size⟩)
    (c_Number_size : PySem.W.codeIn K cd_Number_size "Number.size" = true)
    (k_Number_size : PySem.W.keepIn K (.ref f_Number_size) = true)
    (a_Number_worth : PySem.W.findIn K (.ref C_Number) "worth" = some (some (.ref p_worth)))
    (g_Number_worth : PySem.W.specialIn K (.ref p_worth) "__get__" = some (some (.builtin "property.__get__")))
    (t_Number_worth : PySem.W.takesIn K (.ref p_worth) = some true)
    (r_Number_worth : PySem.W.recIn K p_worth "property" = some (.ref f_Number_worth :: rest_Number_worth))
    (l_Number_worth : K.lookup f_Number_worth = some ⟨oc_Number_worth, od_Number_worth, .func (PySem.W.fnOf "worth" "Number.worth" (defArgs s_Number_worth) (defBody s_Number_worth) (defScope s_Number_worth) .none kV_Number_worth dc_Number_worth pm_Number_worth an_Number_worth cd_Number_worth ct_Number_worth), sl_Number_worth⟩)
    (c_Number_worth : PySem.W.codeIn K cd_Number_worth "Number.worth" = true)
    (k_Number_worth : PySem.W.keepIn K (.ref f_Number_worth) = true)
    (a_worth_of : PySem.W.nsIn K mainGlobals "worth_of" = some (some (.ref f_worth_of)))
    (l_worth_of : K.lookup f_worth_of = some ⟨oc_worth_of, od_worth_of, .func (PySem.W.fnOf "worth_of" "worth_of" (defArgs s_worth_of) (defBody s_worth_of) (defScope s_worth_of) .none kV_worth_of dc_worth_of pm_worth_of an_worth_of cd_worth_of ct_worth_of), sl_worth_of⟩)
    (c_worth_of : PySem.W.codeIn K cd_worth_of "worth_of" = true)
    (k_worth_of : PySem.W.keepIn K (.ref f_worth_of) = true)
    (a_Row_init : PySem.W.findIn K (.ref C_Row) "__init__" = some (some (.ref f_Row_init)))
    (i_Row_init : PySem.W.isFn K (.ref f_Row_init) = true)
    (l_Row_init : K.lookup f_Row_init = some ⟨oc_Row_init, od_Row_init, .func (PySem.W.fnOf "__init__" "Row.__init__" (defArgs s_Row_init) (defBody s_Row_init) (defScope s_Row_init) .none kV_Row_init dc_Row_init pm_Row_init an_Row_init cd_Row_init ct_Row_init), sl_Row_init⟩)
    (c_Row_init : PySem.W.codeIn K cd_Row_init "Row.__init__" = true)
    (k_Row_init : PySem.W.keepIn K (.ref f_Row_init) = true)
    (a_Row_worths : PySem.W.findIn K (.ref C_Row) "worths" = some (some (.ref p_worths)))
    (g_Row_worths : PySem.W.specialIn K (.ref p_worths) "__get__" = some (some (.builtin "property.__get__")))
    (t_Row_worths : PySem.W.takesIn K (.ref p_worths) = some true)
    (r_Row_worths : PySem.W.recIn K p_worths "property" = some (.ref f_Row_worths :: rest_Row_worths))
    (l_Row_worths : K.lookup f_Row_worths = some ⟨oc_Row_worths, od_Row_worths, .func (PySem.W.fnOf "worths" "Row.worths" (defArgs s_Row_worths) (defBody s_Row_worths) (defScope s_Row_worths) .none kV_Row_worths dc_Row_worths pm_Row_worths an_Row_worths cd_Row_worths ct_Row_worths), sl_Row_worths⟩)
    (c_Row_worths : PySem.W.codeIn K cd_Row_worths "Row.worths" = true)
    (k_Row_worths : PySem.W.keepIn K (.ref f_Row_worths) = true)
    (a_Row_has : PySem.W.findIn K (.ref C_Row) "has" = some (some (.ref f_Row_has)))
    (i_Row_has : PySem.W.isFn K (.ref f_Row_has) = true)
    (l_Row_has : K.lookup f_Row_has = some ⟨oc_Row_has, od_Row_has, .func (PySem.W.fnOf "has" "Row.has" (defArgs s_Row_has) (defBody s_Row_has) (defScope s_Row_has) .none kV_Row_has dc_Row_has pm_Row_has an_Row_has cd_Row_has ct_Row_has), sl_Row_has⟩)
    (c_Row_has : PySem.W.codeIn K cd_Row_has "Row.has" = true)
    (k_Row_has : PySem.W.keepIn K (.ref f_Row_has) = true)
    (a_Row_len : PySem.W.findIn K (.ref C_Row) "__len__" = some (some (.ref f_Row_len)))
    (i_Row_len : PySem.W.isFn K (.ref f_Row_len) = true)
    (l_Row_len : K.lookup f_Row_len = some ⟨oc_Row_len, od_Row_len, .func (PySem.W.fnOf "__len__" "Row.__len__" (defArgs s_Row_len) (defBody s_Row_len) (defScope s_Row_len) .none kV_Row_len dc_Row_len pm_Row_len an_Row_len cd_Row_len ct_Row_len), sl_Row_len⟩)
    (c_Row_len : PySem.W.codeIn K cd_Row_len "Row.__len__" = true)
    (k_Row_len : PySem.W.keepIn K (.ref f_Row_len) = true)
    (a_Row_getitem : PySem.W.findIn K (.ref C_Row) "__getitem__" = some (some (.ref f_Row_getitem)))
    (i_Row_getitem : PySem.W.isFn K (.ref f_Row_getitem) = true)
    (l_Row_getitem : K.lookup f_Row_getitem = some ⟨oc_Row_getitem, od_Row_getitem, .func (PySem.W.fnOf "__getitem__" "Row.__getitem__" (defArgs s_Row_getitem) (defBody s_Row_getitem) (defScope s_Row_getitem) .none kV_Row_getitem dc_Row_getitem pm_Row_getitem an_Row_getitem cd_Row_getitem ct_Row_getitem), sl_Row_getitem⟩)
    (c_Row_getitem : PySem.W.codeIn K cd_Row_getitem "Row.__getitem__" = true)
    (k_Row_getitem : PySem.W.keepIn K (.ref f_Row_getitem) = true)
    (a_Row_set_item : PySem.W.findIn K (.ref C_Row) "_set_item" = some (some (.ref f_Row_set_item)))
    (i_Row_set_item : PySem.W.isFn K (.ref f_Row_set_item) = true)
    (l_Row_set_item : K.lookup f_Row_set_item = some ⟨oc_Row_set_item, od_Row_set_item, .func (PySem.W.fnOf "_set_item" "Row._set_item" (defArgs s_Row_set_item) (defBody s_Row_set_item) (defScope s_Row_set_item) .none kV_Row_set_item dc_Row_set_item pm_Row_set_item an_Row_set_item cd_Row_set_item ct_Row_set_item), sl_Row_set_item⟩)
    (c_Row_set_item : PySem.W.codeIn K cd_Row_set_item "Row._set_item" = true)
    (k_Row_set_item : PySem.W.keepIn K (.ref f_Row_set_item) = true)
    (a_Row_push_item : PySem.W.findIn K (.ref C_Row) "_push_item" = some (some (.ref f_Row_push_item)))
    (i_Row_push_item : PySem.W.isFn K (.ref f_Row_push_item) = true)
    (l_Row_push_item : K.lookup f_Row_push_item = some ⟨oc_Row_push_item, od_Row_push_item, .func (PySem.W.fnOf "_push_item" "Row._push_item" (defArgs s_Row_push_item) (defBody s_Row_push_item) (defScope s_Row_push_item) .none kV_Row_push_item dc_Row_push_item pm_Row_push_item an_Row_push_item cd_Row_push_item ct_Row_push_item), sl_Row_push_item⟩)
    (c_Row_push_item : PySem.W.codeIn K cd_Row_push_item "Row._push_item" = true)
    (k_Row_push_item : PySem.W.keepIn K (.ref f_Row_push_item) = true)
    (a_Row_setitem : PySem.W.findIn K (.ref C_Row) "__setitem__" = some (some (.ref f_Row_setitem)))
    (i_Row_setitem : PySem.W.isFn K (.ref f_Row_setitem) = true)
    (l_Row_setitem : K.lookup f_Row_setitem = some ⟨oc_Row_setitem, od_Row_setitem, .func (PySem.W.fnOf "__setitem__" "Row.__setitem__" (defArgs s_Row_setitem) (defBody s_Row_setitem) (defScope s_Row_setitem) .none kV_Row_setitem dc_Row_setitem pm_Row_setitem an_Row_setitem cd_Row_setitem ct_Row_setitem), sl_Row_setitem⟩)
    (c_Row_setitem : PySem.W.codeIn K cd_Row_setitem "Row.__setitem__" = true)
    (k_Row_setitem : PySem.W.keepIn K (.ref f_Row_setitem) = true)
    (a_Row_iadd : PySem.W.findIn K (.ref C_Row) "__iadd__" = some (some (.ref f_Row_iadd)))
    (i_Row_iadd : PySem.W.isFn K (.ref f_Row_iadd) = true)
    (l_Row_iadd : K.lookup f_Row_iadd = some ⟨oc_Row_iadd, od_Row_iadd, .func (PySem.W.fnOf "__iadd__" "Row.__iadd__" (defArgs s_Row_iadd) (defBody s_Row_iadd) (defScope s_Row_iadd) .none kV_Row_iadd dc_Row_iadd pm_Row_iadd an_Row_iadd cd_Row_iadd ct_Row_iadd), sl_Row_iadd⟩)
    (c_Row_iadd : PySem.W.codeIn K cd_Row_iadd "Row.__iadd__" = true)
    (k_Row_iadd : PySem.W.keepIn K (.ref f_Row_iadd) = true)
    (a_pot : PySem.W.nsIn K mainGlobals "_law_pot" = some (some (.ref f_pot)))
    (l_pot : K.lookup f_pot = some ⟨oc_pot, od_pot, .func (PySem.W.fnOf "_law_pot" "_law_pot" (defArgs s_pot) (defBody s_pot) (defScope s_pot) .none kV_pot dc_pot pm_pot an_pot cd_pot ct_pot), sl_pot⟩)
    (c_pot : PySem.W.codeIn K cd_pot "_law_pot" = true)
    (k_pot : PySem.W.keepIn K (.ref f_pot) = true)
    (a_take : PySem.W.nsIn K mainGlobals "_law_take" = some (some (.ref f_take)))
    (l_take : K.lookup f_take = some ⟨oc_take, od_take, .func (PySem.W.fnOf "_law_take" "_law_take" (defArgs s_take) (defBody s_take) (defScope s_take) .none kV_take dc_take pm_take an_take cd_take ct_take), sl_take⟩)
    (c_take : PySem.W.codeIn K cd_take "_law_take" = true)
    (k_take : PySem.W.keepIn K (.ref f_take) = true)
    (a_number : PySem.W.nsIn K mainGlobals "_law_number" = some (some (.ref f_number)))
    (l_number : K.lookup f_number = some ⟨oc_number, od_number, .func (PySem.W.fnOf "_law_number" "_law_number" (defArgs s_number) (defBody s_number) (defScope s_number) .none kV_number dc_number pm_number an_number cd_number ct_number), sl_number⟩)
    (c_number : PySem.W.codeIn K cd_number "_law_number" = true)
    (k_number : PySem.W.keepIn K (.ref f_number) = true)
    (a_read : PySem.W.nsIn K mainGlobals "_law_read" = some (some (.ref f_read)))
    (l_read : K.lookup f_read = some ⟨oc_read, od_read, .func (PySem.W.fnOf "_law_read" "_law_read" (defArgs s_read) (defBody s_read) (defScope s_read) .none kV_read dc_read pm_read an_read cd_read ct_read), sl_read⟩)
    (c_read : PySem.W.codeIn K cd_read "_law_read" = true)
    (k_read : PySem.W.keepIn K (.ref f_read) = true)
    (a_set : PySem.W.nsIn K mainGlobals "_law_set" = some (some (.ref f_set)))
    (l_set : K.lookup f_set = some ⟨oc_set, od_set, .func (PySem.W.fnOf "_law_set" "_law_set" (defArgs s_set) (defBody s_set) (defScope s_set) .none kV_set dc_set pm_set an_set cd_set ct_set), sl_set⟩)
    (c_set : PySem.W.codeIn K cd_set "_law_set" = true)
    (k_set : PySem.W.keepIn K (.ref f_set) = true)
    (a_pushed : PySem.W.nsIn K mainGlobals "_law_pushed" = some (some (.ref f_pushed)))
    (l_pushed : K.lookup f_pushed = some ⟨oc_pushed, od_pushed, .func (PySem.W.fnOf "_law_pushed" "_law_pushed" (defArgs s_pushed) (defBody s_pushed) (defScope s_pushed) .none kV_pushed dc_pushed pm_pushed an_pushed cd_pushed ct_pushed), sl_pushed⟩)
    (c_pushed : PySem.W.codeIn K cd_pushed "_law_pushed" = true)
    (k_pushed : PySem.W.keepIn K (.ref f_pushed) = true)
    (a_deed_right : PySem.W.nsIn K mainGlobals "_law_deed_right" = some (some (.ref f_deed_right)))
    (l_deed_right : K.lookup f_deed_right = some ⟨oc_deed_right, od_deed_right, .func (PySem.W.fnOf "_law_deed_right" "_law_deed_right" (defArgs s_deed_right) (defBody s_deed_right) (defScope s_deed_right) .none kV_deed_right dc_deed_right pm_deed_right an_deed_right cd_deed_right ct_deed_right), sl_deed_right⟩)
    (c_deed_right : PySem.W.codeIn K cd_deed_right "_law_deed_right" = true)
    (k_deed_right : PySem.W.keepIn K (.ref f_deed_right) = true)
    (a_row_right : PySem.W.nsIn K mainGlobals "_law_row_right" = some (some (.ref f_row_right)))
    (l_row_right : K.lookup f_row_right = some ⟨oc_row_right, od_row_right, .func (PySem.W.fnOf "_law_row_right" "_law_row_right" (defArgs s_row_right) (defBody s_row_right) (defScope s_row_right) .none kV_row_right dc_row_right pm_row_right an_row_right cd_row_right ct_row_right), sl_row_right⟩)
    (c_row_right : PySem.W.codeIn K cd_row_right "_law_row_right" = true)
    (k_row_right : PySem.W.keepIn K (.ref f_row_right) = true)
    (a_law : PySem.W.nsIn K mainGlobals "law" = some (some (.ref f_law)))
    (l_law : K.lookup f_law = some ⟨oc_law, od_law, .func (PySem.W.fnOf "law" "law" (defArgs s_law) (defBody s_law) (defScope s_law) .none kV_law dc_law pm_law an_law cd_law ct_law), sl_law⟩)
    (c_law : PySem.W.codeIn K cd_law "law" = true)
    (k_law : PySem.W.keepIn K (.ref f_law) = true)
    (z_isinstance : PySem.W.nsIn K mainGlobals "isinstance" = some none)
    (z_int : PySem.W.nsIn K mainGlobals "int" = some none)
    (z_bool : PySem.W.nsIn K mainGlobals "bool" = some none)
    (z_tuple : PySem.W.nsIn K mainGlobals "tuple" = some none)
    (z_list : PySem.W.nsIn K mainGlobals "list" = some none)
    (z_len : PySem.W.nsIn K mainGlobals "len" = some none)
    (z_abs : PySem.W.nsIn K mainGlobals "abs" = some none)
    (z_repr : PySem.W.nsIn K mainGlobals "repr" = some none)
    (z_all : PySem.W.nsIn K mainGlobals "all" = some none)
    (z_range : PySem.W.nsIn K mainGlobals "range" = some none)
    (x_pg : PySem.W.plainGet K C_Number Str.empty = true)
    (x_hd : PySem.W.hasDictIn K C_Number = true)
    (x_po : PySem.W.plainOver K C_Number = true)
    (x_sa : PySem.W.findIn K (.ref C_Number) "__setattr__" = some (some (.builtin "object.__setattr__")))
    (x_mk : PySem.W.makesIn K C_Number = true)
    (x_kc : PySem.W.keepIn K (.ref C_Number) = true)
    (x_nS : PySem.W.findIn K (.ref C_Number) "_size" = some none)
    (x_nW : PySem.W.findIn K (.ref C_Number) "_worth" = some none)
    (y_pg : PySem.W.plainGet K C_Row Str.empty = true)
    (y_hd : PySem.W.hasDictIn K C_Row = true)
    (y_po : PySem.W.plainOver K C_Row = true)
    (y_sa : PySem.W.findIn K (.ref C_Row) "__setattr__" = some (some (.builtin "object.__setattr__")))
    (y_mk : PySem.W.makesIn K C_Row = true)
    (y_kc : PySem.W.keepIn K (.ref C_Row) = true)
    (y_nS : PySem.W.findIn K (.ref C_Row) "_size" = some none)
    (y_nM : PySem.W.findIn K (.ref C_Row) "_most" = some none)
    (y_nI : PySem.W.findIn K (.ref C_Row) "_items" = some none)
    (y_gin : PySem.W.fnIn K f_Row_getitem = true)
    (y_nsq : PySem.W.noSeq K C_Row = true)
    (y_sf : PySem.W.selfFirst K C_Row = true)
    (y_kcl : PySem.W.findIn K (.ref C_Row) "__class__" = some (some (.builtin "object.__class__")))
    (y_kob : PySem.W.mroIn K C_Row (.type "object") = some true)
    (x_kcl : PySem.W.findIn K (.ref C_Number) "__class__" = some (some (.builtin "object.__class__")))
    (x_kgs : PySem.W.specialIn K (.builtin "object.__class__") "__get__" = some (some (.builtin "getset_descriptor.__get__")))
    (x_ktk : PySem.W.takesIn K (.builtin "object.__class__") = some true)
    (x_kob : PySem.W.mroIn K C_Number (.type "object") = some true)
    (x_nic : PySem.W.isClsIn K C_Number = true)
    (x_nty : PySem.W.typeIn K (.ref C_Number) = some (.type "type"))
    (x_n1 : PySem.W.subIn K (.type "int") (.ref C_Number) = some false)
    (x_fl : K.lookup C_Fault = some (excClassObj xnm xq C_Fault xN xbs xbm true xsn xsub xab xcol xdd xk0 xk1 xk2 xk3 xk5 "ValueError.__new__"))
    (x_fr : PySem.HandSPX.refsVE xbm = true)
    (x_fs : PySem.W.findIn K (.ref C_Fault) "__setattr__" = some (some (.builtin "object.__setattr__")))
    (x_fe : PySem.W.subIn K (.ref C_Fault) (.type "BaseException") = some true)
    (x_ft : PySem.W.typeIn K (.ref C_Fault) = some (.type "type"))
    (x_fk : PySem.W.keepIn K (.ref C_Fault) = true)
    (x_fg : PySem.W.findIn K (.ref C_Fault) "__getattribute__" = some (some (.builtin "BaseException.__getattribute__")))
    (x_fh : PySem.W.findIn K (.ref C_Fault) "__getattr__" = some none)
    (x_fd : PySem.W.hasDictIn K C_Fault = true)
    (x_fno : PySem.W.findIn K (.ref C_Fault) "words" = some none)
    (x_ffn : PySem.W.typeIn K (.ref f_Fault_init) = some (.type "function"))
    (x_fic : PySem.W.isClsIn K C_Fault = true)
    (x_fsu : PySem.W.subIn K (.ref C_Fault) (.ref C_Fault) = some true) :
    ∃ fd : FuncData, (∀ (s : Shared) (v : Value), BindsTo s fd ⟨[v], []⟩ [("_law_script", v)]) ∧ ∀ base : Heap, K.In base → base.Ns mainGlobals mg → FnG l.prog w K mg base CX0 10 fa fd ["_law_script"] (spLaw K) := by
  have e := hfa.symm.trans (PySem.W.mg_of X G a_law)
  cases e
  have T : Txt K mg { C_Fault := C_Fault, C_Number := C_Number, C_Row := C_Row, f_Fault_init := f_Fault_init, f_is_whole := f_is_whole, f_is_size := f_is_size, f_is_most := f_is_most, f_are_items := f_are_items, f_Number_init := f_Number_init, f_Number_size := f_Number_size, f_Number_worth := f_Number_worth, f_worth_of := f_worth_of, f_Row_init := f_Row_init, f_Row_worths := f_Row_worths, f_Row_has := f_Row_has, f_Row_len := f_Row_len, f_Row_getitem := f_Row_getitem, f_Row_set_item := f_Row_set_item, f_Row_push_item := f_Row_push_item, f_Row_setitem := f_Row_setitem, f_Row_iadd := f_Row_iadd, f_pot := f_pot, f_take := f_take, f_number := f_number, f_read := f_read, f_set := f_set, f_pushed := f_pushed, f_deed_right := f_deed_right, f_row_right := f_row_right, f_law := fa, p_size := p_size, p_worth := p_worth, p_worths := p_worths, d_Fault_init := PySem.W.fnOf "__init__" "Fault.__init__" (defArgs s_Fault_init) (defBody s_Fault_init) (defScope s_Fault_init) .none kV_Fault_init dc_Fault_init pm_Fault_init an_Fault_init cd_Fault_init ct_Fault_init, d_is_whole := PySem.W.fnOf "is_whole" "is_whole" (defArgs s_is_whole) (defBody s_is_whole) (defScope s_is_whole) .none kV_is_whole dc_is_whole pm_is_whole an_is_whole cd_is_whole ct_is_whole, d_is_size := PySem.W.fnOf "is_size" "is_size" (defArgs s_is_size) (defBody s_is_size) (defScope s_is_size) .none kV_is_size dc_is_size pm_is_size an_is_size cd_is_size ct_is_size, d_is_most := PySem.W.fnOf "is_most" "is_most" (defArgs s_is_most) (defBody s_is_most) (defScope s_is_most) .none kV_is_most dc_is_most pm_is_most an_is_most cd_is_most ct_is_most, d_are_items := PySem.W.fnOf "are_items" "are_items" (defArgs s_are_items) (defBody s_are_items) (defScope s_are_items) .none kV_are_items dc_are_items pm_are_items an_are_items cd_are_items ct_are_items, d_Number_init := PySem.W.fnOf "__init__" "Number.__init__" (defArgs s_Number_init) (defBody s_Number_init) (defScope s_Number_init) .none kV_Number_init dc_Number_init pm_Number_init an_Number_init cd_Number_init ct_Number_init, d_Number_size := PySem.W.fnOf "size" "Number.size" (defArgs s_Number_size) (defBody s_Number_size) (defScope s_Number_size) .none kV_Number_size dc_Number_size pm_Number_size an_Number_size cd_Number_size ct_Number_size, d_Number_worth := PySem.W.fnOf "worth" "Number.worth" (defArgs s_Number_worth) (defBody s_Number_worth) (defScope s_Number_worth) .none kV_Number_worth dc_Number_worth pm_Number_worth an_Number_worth cd_Number_worth ct_Number_worth, d_worth_of := PySem.W.fnOf "worth_of" "worth_of" (defArgs s_worth_of) (defBody s_worth_of) (defScope s_worth_of) .none kV_worth_of dc_worth_of pm_worth_of an_worth_of cd_worth_of ct_worth_of, d_Row_init := PySem.W.fnOf "__init__" "Row.__init__" (defArgs s_Row_init) (defBody s_Row_init) (defScope s_Row_init) .none kV_Row_init dc_Row_init pm_Row_init an_Row_init cd_Row_init ct_Row_init, d_Row_worths := PySem.W.fnOf "worths" "Row.worths" (defArgs s_Row_worths) (defBody s_Row_worths) (defScope s_Row_worths) .none kV_Row_worths dc_Row_worths pm_Row_worths an_Row_worths cd_Row_worths ct_Row_worths, d_Row_has := PySem.W.fnOf "has" "Row.has" (defArgs s_Row_has) (defBody s_Row_has) (defScope s_Row_has) .none kV_Row_has dc_Row_has pm_Row_has an_Row_has cd_Row_has ct_Row_has, d_Row_len := PySem.W.fnOf "__len__" "Row.__len__" (defArgs s_Row_len) (defBody s_Row_len) (defScope s_Row_len) .none kV_Row_len dc_Row_len pm_Row_len an_Row_len cd_Row_len ct_Row_len, d_Row_getitem := PySem.W.fnOf "__getitem__" "Row.__getitem__" (defArgs s_Row_getitem) (defBody s_Row_getitem) (defScope s_Row_getitem) .none kV_Row_getitem dc_Row_getitem pm_Row_getitem an_Row_getitem cd_Row_getitem ct_Row_getitem, d_Row_set_item := PySem.W.fnOf "_set_item" "Row._set_item" (defArgs s_Row_set_item) (defBody s_Row_set_item) (defScope s_Row_set_item) .none kV_Row_set_item dc_Row_set_item pm_Row_set_item an_Row_set_item cd_Row_set_item ct_Row_set_item, d_Row_push_item := PySem.W.fnOf "_push_item" "Row._push_item" (defArgs s_Row_push_item) (defBody s_Row_push_item) (defScope s_Row_push_item) .none kV_Row_push_item dc_Row_push_item pm_Row_push_item an_Row_push_item cd_Row_push_item ct_Row_push_item, d_Row_setitem := PySem.W.fnOf "__setitem__" "Row.__setitem__" (defArgs s_Row_setitem) (defBody s_Row_setitem) (defScope s_Row_setitem) .none kV_Row_setitem dc_Row_setitem pm_Row_setitem an_Row_setitem cd_Row_setitem ct_Row_setitem, d_Row_iadd := PySem.W.fnOf "__iadd__" "Row.__iadd__" (defArgs s_Row_iadd) (defBody s_Row_iadd) (defScope s_Row_iadd) .none kV_Row_iadd dc_Row_iadd pm_Row_iadd an_Row_iadd cd_Row_iadd ct_Row_iadd, d_pot := PySem.W.fnOf "_law_pot" "_law_pot" (defArgs s_pot) (defBody s_pot) (defScope s_pot) .none kV_pot dc_pot pm_pot an_pot cd_pot ct_pot, d_take := PySem.W.fnOf "_law_take" "_law_take" (defArgs s_take) (defBody s_take) (defScope s_take) .none kV_take dc_take pm_take an_take cd_take ct_take, d_number := PySem.W.fnOf "_law_number" "_law_number" (defArgs s_number) (defBody s_number) (defScope s_number) .none kV_number dc_number pm_number an_number cd_number ct_number, d_read := PySem.W.fnOf "_law_read" "_law_read" (defArgs s_read) (defBody s_read) (defScope s_read) .none kV_read dc_read pm_read an_read cd_read ct_read, d_set := PySem.W.fnOf "_law_set" "_law_set" (defArgs s_set) (defBody s_set) (defScope s_set) .none kV_set dc_set pm_set an_set cd_set ct_set, d_pushed := PySem.W.fnOf "_law_pushed" "_law_pushed" (defArgs s_pushed) (defBody s_pushed) (defScope s_pushed) .none kV_pushed dc_pushed pm_pushed an_pushed cd_pushed ct_pushed, d_deed_right := PySem.W.fnOf "_law_deed_right" "_law_deed_right" (defArgs s_deed_right) (defBody s_deed_right) (defScope s_deed_right) .none kV_deed_right dc_deed_right pm_deed_right an_deed_right cd_deed_right ct_deed_right, d_row_right := PySem.W.fnOf "_law_row_right" "_law_row_right" (defArgs s_row_right) (defBody s_row_right) (defScope s_row_right) .none kV_row_right dc_row_right pm_row_right an_row_right cd_row_right ct_row_right, d_law := PySem.W.fnOf "law" "law" (defArgs s_law) (defBody s_law) (defScope s_law) .none kV_law dc_law pm_law an_law cd_law ct_law : Ad } := {
    F_Fault_init := fun_mk (st := s_Fault_init) l_Fault_init c_Fault_init k_Fault_init
    b_Fault_init := (fun_mk (st := s_Fault_init) l_Fault_init c_Fault_init k_Fault_init).binds (ps := ["self", "words"]) fun _ _ _ _ _ _ us hl => match us, hl with | [_, _], _ => rfl
    F_is_whole := fun_mk (st := s_is_whole) l_is_whole c_is_whole k_is_whole
    b_is_whole := (fun_mk (st := s_is_whole) l_is_whole c_is_whole k_is_whole).binds (ps := ["value", "low", "below"]) fun _ _ _ _ _ _ us hl => match us, hl with | [_, _, _], _ => rfl
    m_is_whole := PySem.W.mg_of X G a_is_whole
    F_is_size := fun_mk (st := s_is_size) l_is_size c_is_size k_is_size
    b_is_size := (fun_mk (st := s_is_size) l_is_size c_is_size k_is_size).binds (ps := ["value"]) fun _ _ _ _ _ _ us hl => match us, hl with | [_], _ => rfl
    m_is_size := PySem.W.mg_of X G a_is_size
    F_is_most := fun_mk (st := s_is_most) l_is_most c_is_most k_is_most
    b_is_most := (fun_mk (st := s_is_most) l_is_most c_is_most k_is_most).binds (ps := ["value"]) fun _ _ _ _ _ _ us hl => match us, hl with | [_], _ => rfl
    m_is_most := PySem.W.mg_of X G a_is_most
    F_are_items := fun_mk (st := s_are_items) l_are_items c_are_items k_are_items
    b_are_items := (fun_mk (st := s_are_items) l_are_items c_are_items k_are_items).binds (ps := ["value", "size", "most"]) fun _ _ _ _ _ _ us hl => match us, hl with | [_, _, _], _ => rfl
    m_are_items := PySem.W.mg_of X G a_are_items
    F_Number_init := fun_mk (st := s_Number_init) l_Number_init c_Number_init k_Number_init
    b_Number_init := (fun_mk (st := s_Number_init) l_Number_init c_Number_init k_Number_init).binds (ps := ["self", "size", "worth"]) fun _ _ _ _ _ _ us hl => match us, hl with | [_, _, _], _ => rfl
    F_Number_size := fun_mk (st := s_Number_size) l_Number_size c_Number_size k_Number_size
    b_Number_size := (fun_mk (st := s_Number_size) l_Number_size c_Number_size k_Number_size).binds (ps := ["self"]) fun _ _ _ _ _ _ us hl => match us, hl with | [_], _ => rfl
    F_Number_worth := fun_mk (st := s_Number_worth) l_Number_worth c_Number_worth k_Number_worth
    b_Number_worth := (fun_mk (st := s_Number_worth) l_Number_worth c_Number_worth k_Number_worth).binds (ps := ["self"]) fun _ _ _ _ _ _ us hl => match us, hl with | [_], _ => rfl
    F_worth_of := fun_mk (st := s_worth_of) l_worth_of c_worth_of k_worth_of
    b_worth_of := (fun_mk (st := s_worth_of) l_worth_of c_worth_of k_worth_of).binds (ps := ["number"]) fun _ _ _ _ _ _ us hl => match us, hl with | [_], _ => rfl
    m_worth_of := PySem.W.mg_of X G a_worth_of
    F_Row_init := fun_mk (st := s_Row_init) l_Row_init c_Row_init k_Row_init
    b_Row_init := (fun_mk (st := s_Row_init) l_Row_init c_Row_init k_Row_init).binds (ps := ["self", "size", "most", "items"]) fun _ _ _ _ _ _ us hl => match us, hl with | [_, _, _, _], _ => rfl
    F_Row_worths := fun_mk (st := s_Row_worths) l_Row_worths c_Row_worths k_Row_worths
    b_Row_worths := (fun_mk (st := s_Row_worths) l_Row_worths c_Row_worths k_Row_worths).binds (ps := ["self"]) fun _ _ _ _ _ _ us hl => match us, hl with | [_], _ => rfl
    F_Row_has := fun_mk (st := s_Row_has) l_Row_has c_Row_has k_Row_has
    b_Row_has := (fun_mk (st := s_Row_has) l_Row_has c_Row_has k_Row_has).binds (ps := ["self", "i"]) fun _ _ _ _ _ _ us hl => match us, hl with | [_, _], _ => rfl
    F_Row_len := fun_mk (st := s_Row_len) l_Row_len c_Row_len k_Row_len
    b_Row_len := (fun_mk (st := s_Row_len) l_Row_len c_Row_len k_Row_len).binds (ps := ["self"]) fun _ _ _ _ _ _ us hl => match us, hl with | [_], _ => rfl
    F_Row_getitem := fun_mk (st := s_Row_getitem) l_Row_getitem c_Row_getitem k_Row_getitem
    b_Row_getitem := (fun_mk (st := s_Row_getitem) l_Row_getitem c_Row_getitem k_Row_getitem).binds (ps := ["self", "at"]) fun _ _ _ _ _ _ us hl => match us, hl with | [_, _], _ => rfl
    F_Row_set_item := fun_mk (st := s_Row_set_item) l_Row_set_item c_Row_set_item k_Row_set_item
    b_Row_set_item := (fun_mk (st := s_Row_set_item) l_Row_set_item c_Row_set_item k_Row_set_item).binds (ps := ["self", "i", "x"]) fun _ _ _ _ _ _ us hl => match us, hl with | [_, _, _], _ => rfl
    F_Row_push_item := fun_mk (st := s_Row_push_item) l_Row_push_item c_Row_push_item k_Row_push_item
    b_Row_push_item := (fun_mk (st := s_Row_push_item) l_Row_push_item c_Row_push_item k_Row_push_item).binds (ps := ["self", "x"]) fun _ _ _ _ _ _ us hl => match us, hl with | [_, _], _ => rfl
    F_Row_setitem := fun_mk (st := s_Row_setitem) l_Row_setitem c_Row_setitem k_Row_setitem
    b_Row_setitem := (fun_mk (st := s_Row_setitem) l_Row_setitem c_Row_setitem k_Row_setitem).binds (ps := ["self", "at", "worth"]) fun _ _ _ _ _ _ us hl => match us, hl with | [_, _, _], _ => rfl
    F_Row_iadd := fun_mk (st := s_Row_iadd) l_Row_iadd c_Row_iadd k_Row_iadd
    b_Row_iadd := (fun_mk (st := s_Row_iadd) l_Row_iadd c_Row_iadd k_Row_iadd).binds (ps := ["self", "other"]) fun _ _ _ _ _ _ us hl => match us, hl with | [_, _], _ => rfl
    F_pot := fun_mk (st := s_pot) l_pot c_pot k_pot
    b_pot := (fun_mk (st := s_pot) l_pot c_pot k_pot).binds (ps := ["_law_script", "_law_k"]) fun _ _ _ _ _ _ us hl => match us, hl with | [_, _], _ => rfl
    m_pot := PySem.W.mg_of X G a_pot
    F_take := fun_mk (st := s_take) l_take c_take k_take
    b_take := (fun_mk (st := s_take) l_take c_take k_take).binds (ps := ["_law_pot_here", "_law_upto"]) fun _ _ _ _ _ _ us hl => match us, hl with | [_, _], _ => rfl
    m_take := PySem.W.mg_of X G a_take
    F_number := fun_mk (st := s_number) l_number c_number k_number
    b_number := (fun_mk (st := s_number) l_number c_number k_number).binds (ps := ["_law_pot_here", "_law_size"]) fun _ _ _ _ _ _ us hl => match us, hl with | [_, _], _ => rfl
    m_number := PySem.W.mg_of X G a_number
    F_read := fun_mk (st := s_read) l_read c_read k_read
    b_read := (fun_mk (st := s_read) l_read c_read k_read).binds (ps := ["_law_row", "_law_at"]) fun _ _ _ _ _ _ us hl => match us, hl with | [_, _], _ => rfl
    m_read := PySem.W.mg_of X G a_read
    F_set := fun_mk (st := s_set) l_set c_set k_set
    b_set := (fun_mk (st := s_set) l_set c_set k_set).binds (ps := ["_law_row", "_law_at", "_law_x"]) fun _ _ _ _ _ _ us hl => match us, hl with | [_, _, _], _ => rfl
    m_set := PySem.W.mg_of X G a_set
    F_pushed := fun_mk (st := s_pushed) l_pushed c_pushed k_pushed
    b_pushed := (fun_mk (st := s_pushed) l_pushed c_pushed k_pushed).binds (ps := ["_law_row", "_law_x"]) fun _ _ _ _ _ _ us hl => match us, hl with | [_, _], _ => rfl
    m_pushed := PySem.W.mg_of X G a_pushed
    F_deed_right := fun_mk (st := s_deed_right) l_deed_right c_deed_right k_deed_right
    b_deed_right := (fun_mk (st := s_deed_right) l_deed_right c_deed_right k_deed_right).binds (ps := ["_law_pot_here", "_law_row", "_law_mine", "_law_lore"]) fun _ _ _ _ _ _ us hl => match us, hl with | [_, _, _, _], _ => rfl
    m_deed_right := PySem.W.mg_of X G a_deed_right
    F_row_right := fun_mk (st := s_row_right) l_row_right c_row_right k_row_right
    b_row_right := (fun_mk (st := s_row_right) l_row_right c_row_right k_row_right).binds (ps := ["_law_pot_here"]) fun _ _ _ _ _ _ us hl => match us, hl with | [_], _ => rfl
    m_row_right := PySem.W.mg_of X G a_row_right
    F_law := fun_mk (st := s_law) l_law c_law k_law
    b_law := (fun_mk (st := s_law) l_law c_law k_law).binds (ps := ["_law_script"]) fun _ _ _ _ _ _ us hl => match us, hl with | [_], _ => rfl
    m_law := PySem.W.mg_of X G a_law
    m_Fault := PySem.W.mg_of X G a_Fault
    m_Number := PySem.W.mg_of X G a_Number
    m_Row := PySem.W.mg_of X G a_Row
    g_isinstance := PySem.W.mg_none_of X G z_isinstance
    g_int := PySem.W.mg_none_of X G z_int
    g_bool := PySem.W.mg_none_of X G z_bool
    g_tuple := PySem.W.mg_none_of X G z_tuple
    g_list := PySem.W.mg_none_of X G z_list
    g_len := PySem.W.mg_none_of X G z_len
    g_abs := PySem.W.mg_none_of X G z_abs
    g_repr := PySem.W.mg_none_of X G z_repr
    g_all := PySem.W.mg_none_of X G z_all
    g_range := PySem.W.mg_none_of X G z_range
    P_size := ⟨a_Number_size, g_Number_size, t_Number_size, ⟨_, r_Number_size⟩⟩
    P_worth := ⟨a_Number_worth, g_Number_worth, t_Number_worth, ⟨_, r_Number_worth⟩⟩
    P_worths := ⟨a_Row_worths, g_Row_worths, t_Row_worths, ⟨_, r_Row_worths⟩⟩
    cls_Number := ⟨x_pg, x_hd, x_po, x_sa⟩
    mk_Number := ⟨x_mk, a_Number_init, i_Number_init, x_kc⟩
    nS := x_nS
    nW := x_nW
    cls_Row := ⟨y_pg, y_hd, y_po, y_sa⟩
    mk_Row := ⟨y_mk, a_Row_init, i_Row_init, y_kc⟩
    rS := y_nS
    rM := y_nM
    rI := y_nI
    M_has := ⟨a_Row_has, i_Row_has, k_Row_has⟩
    M_set_item := ⟨a_Row_set_item, i_Row_set_item, k_Row_set_item⟩
    M_push_item := ⟨a_Row_push_item, i_Row_push_item, k_Row_push_item⟩
    gi := a_Row_getitem
    gin := y_gin
    gif := i_Row_getitem
    nsq := y_nsq
    si := a_Row_setitem
    sif := i_Row_setitem
    rsf := y_sf
    ia := a_Row_iadd
    iaf := i_Row_iadd
    ln := a_Row_len
    lnf := i_Row_len
    rcl := y_kcl
    rob := y_kob
    rr := kit_self
    kcl := x_kcl
    kgs := x_kgs
    ktk := x_ktk
    kob := x_kob
    nn := kit_self
    ni := kit_no rfl x_nic x_nty x_n1
    oex := ⟨⟨_, _, _, _, _, _, _, _, _, _, _, _, _, _, _, x_fl, x_fr⟩, x_fs, x_fe, x_ft, x_fk⟩
    xf := ⟨x_fg, x_fh, x_fe, x_fd⟩
    xno := x_fno
    xin := a_Fault_init
    xfn := x_ffn
    xme := exm_self x_fe x_fic x_ft x_fsu }
  exact ⟨PySem.W.fnOf "law" "law" (defArgs s_law) (defBody s_law) (defScope s_law) .none kV_law dc_law pm_law an_law cd_law ct_law, fun s v => .of_eq rfl, fun base _ _ => ok_law T⟩
theorem walk {l : PySem.W.OpenLaw} {q : Program} {loose : List Str} {XP : (Str → Option Value) → Heap → Prop} {YP : World → Heap → Prop} {d : DefRec} {K : Params → Frag} (hn : l.most = some 63) (hdf : d.params.defaults = [])
    (hY : ∀ (v : World) (h : Heap), YP v h → (K v.params).In h)
    (F : ∀ (w : World) (m : Str → Option Value) (fa : Addr) (h : Heap), (K w.params).In h → h.Ns mainGlobals m → m d.name = some (.ref fa) →
      ∃ fd : FuncData, (∀ (s : Shared) (u : Value), BindsTo s fd ⟨[u], []⟩ [("_law_script", u)]) ∧ ∀ base : Heap, (K w.params).In base → base.Ns mainGlobals m → FnG l.prog w (K w.params) m base CX0 10 fa fd ["_law_script"] (spLaw (K w.params))) : PySem.W.WalkO q loose XP YP l.row.toRowW d [] (fun f vs => PySem.call f vs) :=
  walk_G (n := 63) (k := 10) (x := "_law_script") (CX := fun _ => CX0) (sp := fun w => spLaw (K w.params)) hn (by decide) hdf ⟨rfl, by decide, by decide⟩ hY F (fun _ _ a ns hl hS _ => ⟨a, ns, rfl, hS, hl, fun _ => rfl⟩) fun _ _ _ _ _ z => z
end K02
open PySem PySem.W PyProof.Rows
set_option maxRecDepth 100000 in
set_option maxHeartbeats 0 in
theorem PySem.Challenge.cw_tapedonce_k02_rows_read_set_and_pushed_holds : PySem.Challenge.rw_tapedonce_k02_rows_read_set_and_pushed.Holds := by
  w_on; o_law; k_head; (case hw => w_witness2)
  k_fill
  refine K02.walk (l := PySem.Challenge.rw_tapedonce_k02_rows_read_set_and_pushed) rfl rfl (fun w h Y => PySem.W.kIn_of Y) ?F
  case F =>
    intro w mg fa h KX G hmg
    refine' K02.all_mk KX G hmg ?a_Fault ?a_Number ?a_Row ?a_Fault_init ?i_Fault_init ?l_Fault_init ?c_Fault_init ?k_Fault_init ?a_is_whole ?l_is_whole ?c_is_whole ?k_is_whole ?a_is_size ?l_is_size ?c_is_size ?k_is_size ?a_is_most ?l_is_most ?c_is_most ?k_is_most ?a_are_items ?l_are_items ?c_are_items ?k_are_items ?a_Number_init ?i_Number_init ?l_Number_init ?c_Number_init ?k_Number_init ?a_Number_size ?g_Number_size ?t_Number_size ?r_Number_size ?l_Number_size ?c_Number_size ?k_Number_size ?a_Number_worth ?g_Number_worth ?t_Number_worth ?r_Number_worth ?l_Number_worth ?c_Number_worth ?k_Number_worth ?a_worth_of ?l_worth_of ?c_worth_of ?k_worth_of ?a_Row_init ?i_Row_init ?l_Row_init ?c_Row_init ?k_Row_init ?a_Row_worths ?g_Row_worths ?t_Row_worths ?r_Row_worths ?l_Row_worths ?c_Row_worths ?k_Row_worths ?a_Row_has ?i_Row_has ?l_Row_has ?c_Row_has ?k_Row_has ?a_Row_len ?i_Row_len ?l_Row_len ?c_Row_len ?k_Row_len ?a_Row_getitem ?i_Row_getitem ?l_Row_getitem ?c_Row_getitem ?k_Row_getitem ?a_Row_set_item ?i_Row_set_item ?l_Row_set_item ?c_Row_set_item ?k_Row_set_item ?a_Row_push_item ?i_Row_push_item ?l_Row_push_item ?c_Row_push_item ?k_Row_push_item ?a_Row_setitem ?i_Row_setitem ?l_Row_setitem ?c_Row_setitem ?k_Row_setitem ?a_Row_iadd ?i_Row_iadd ?l_Row_iadd ?c_Row_iadd ?k_Row_iadd ?a_pot ?l_pot ?c_pot ?k_pot ?a_take ?l_take ?c_take ?k_take ?a_number ?l_number ?c_number ?k_number ?a_read ?l_read ?c_read ?k_read ?a_set ?l_set ?c_set ?k_set ?a_pushed ?l_pushed ?c_pushed ?k_pushed ?a_deed_right ?l_deed_right ?c_deed_right ?k_deed_right ?a_row_right ?l_row_right ?c_row_right ?k_row_right ?a_law ?l_law ?c_law ?k_law ?z_isinstance ?z_int ?z_bool ?z_tuple ?z_list ?z_len ?z_abs ?z_repr ?z_all ?z_range ?x_pg ?x_hd ?x_po ?x_sa ?x_mk ?x_kc ?x_nS ?x_nW ?y_pg ?y_hd ?y_po ?y_sa ?y_mk ?y_kc ?y_nS ?y_nM ?y_nI ?y_gin ?y_nsq ?y_sf ?y_kcl ?y_kob ?x_kcl ?x_kgs ?x_ktk ?x_kob ?x_nic ?x_nty ?x_n1 ?x_fl ?x_fr ?x_fs ?x_fe ?x_ft ?x_fk ?x_fg ?x_fh ?x_fd ?x_fno ?x_ffn ?x_fic ?x_fsu
    (case a_Fault => k_is)
    (case a_Number => k_is)
    (case a_Row => k_is)
    (case a_Fault_init => k_is)
    (case i_Fault_init => k_is)
    (case l_Fault_init => k_is)
    (case c_Fault_init => k_is)
    (case k_Fault_init => k_is)
    (case a_is_whole => k_is)
    (case l_is_whole => k_is)
    (case c_is_whole => k_is)
    (case k_is_whole => k_is)
    (case a_is_size => k_is)
    (case l_is_size => k_is)
    (case c_is_size => k_is)
    (case k_is_size => k_is)
    (case a_is_most => k_is)
    (case l_is_most => k_is)
    (case c_is_most => k_is)
    (case k_is_most => k_is)
    (case a_are_items => k_is)
    (case l_are_items => k_is)
    (case c_are_items => k_is)
    (case k_are_items => k_is)
    (case a_Number_init => k_is)
    (case i_Number_init => k_is)
    (case l_Number_init => k_is)
    (case c_Number_init => k_is)
    (case k_Number_init => k_is)
    (case a_Number_size => k_is)
    (case g_Number_size => k_is)
    (case t_Number_size => k_is)
    (case r_Number_size => k_is)
    (case l_Number_size => k_is)
    (case c_Number_size => k_is)
    (case k_Number_size => k_is)
    (case a_Number_worth => k_is)
    (case g_Number_worth => k_is)
    (case t_Number_worth => k_is)
    (case r_Number_worth => k_is)
    (case l_Number_worth => k_is)
    (case c_Number_worth => k_is)
    (case k_Number_worth => k_is)
    (case a_worth_of => k_is)
    (case l_worth_of => k_is)
    (case c_worth_of => k_is)
    (case k_worth_of => k_is)
    (case a_Row_init => k_is)
    (case i_Row_init => k_is)
    (case l_Row_init => k_is)
    (case c_Row_init => k_is)
    (case k_Row_init => k_is)
    (case a_Row_worths => k_is)
    (case g_Row_worths => k_is)
    (case t_Row_worths => k_is)
    (case r_Row_worths => k_is)
    (case l_Row_worths => k_is)
    (case c_Row_worths => k_is)
    (case k_Row_worths => k_is)
    (case a_Row_has => k_is)
    (case i_Row_has => k_is)
    (case l_Row_has => k_is)
    (case c_Row_has => k_is)
    (case k_Row_has => k_is)
    (case a_Row_len => k_is)
    (case i_Row_len => k_is)
    (case l_Row_len => k_is)
    (case c_Row_len => k_is)
    (case k_Row_len => k_is)
    (case a_Row_getitem => k_is)
    (case i_Row_getitem => k_is)
    (case l_Row_getitem => k_is)
    (case c_Row_getitem => k_is)
    (case k_Row_getitem => k_is)
    (case a_Row_set_item => k_is)
    (case i_Row_set_item => k_is)
    (case l_Row_set_item => k_is)
    (case c_Row_set_item => k_is)
    (case k_Row_set_item => k_is)
    (case a_Row_push_item => k_is)
    (case i_Row_push_item => k_is)
    (case l_Row_push_item => k_is)
    (case c_Row_push_item => k_is)
    (case k_Row_push_item => k_is)
    (case a_Row_setitem => k_is)
    (case i_Row_setitem => k_is)
    (case l_Row_setitem => k_is)
    (case c_Row_setitem => k_is)
    (case k_Row_setitem => k_is)
    (case a_Row_iadd => k_is)
    (case i_Row_iadd => k_is)
    (case l_Row_iadd => k_is)
    (case c_Row_iadd => k_is)
    (case k_Row_iadd => k_is)
    (case a_pot => k_is)
    (case l_pot => k_is)
    (case c_pot => k_is)
    (case k_pot => k_is)
    (case a_take => k_is)
    (case l_take => k_is)
    (case c_take => k_is)
    (case k_take => k_is)
    (case a_number => k_is)
    (case l_number => k_is)
    (case c_number => k_is)
    (case k_number => k_is)
    (case a_read => k_is)
    (case l_read => k_is)
    (case c_read => k_is)
    (case k_read => k_is)
    (case a_set => k_is)
    (case l_set => k_is)
    (case c_set => k_is)
    (case k_set => k_is)
    (case a_pushed => k_is)
    (case l_pushed => k_is)
    (case c_pushed => k_is)
    (case k_pushed => k_is)
    (case a_deed_right => k_is)
    (case l_deed_right => k_is)
    (case c_deed_right => k_is)
    (case k_deed_right => k_is)
    (case a_row_right => k_is)
    (case l_row_right => k_is)
    (case c_row_right => k_is)
    (case k_row_right => k_is)
    (case a_law => k_is)
    (case l_law => k_is)
    (case c_law => k_is)
    (case k_law => k_is)
    (case z_isinstance => k_is)
    (case z_int => k_is)
    (case z_bool => k_is)
    (case z_tuple => k_is)
    (case z_list => k_is)
    (case z_len => k_is)
    (case z_abs => k_is)
    (case z_repr => k_is)
    (case z_all => k_is)
    (case z_range => k_is)
    (case x_pg => k_is)
    (case x_hd => k_is)
    (case x_po => k_is)
    (case x_sa => k_is)
    (case x_mk => k_is)
    (case x_kc => k_is)
    (case x_nS => k_is)
    (case x_nW => k_is)
    (case y_pg => k_is)
    (case y_hd => k_is)
    (case y_po => k_is)
    (case y_sa => k_is)
    (case y_mk => k_is)
    (case y_kc => k_is)
    (case y_nS => k_is)
    (case y_nM => k_is)
    (case y_nI => k_is)
    (case y_gin => k_is)
    (case y_nsq => k_is)
    (case y_sf => k_is)
    (case y_kcl => k_is)
    (case y_kob => k_is)
    (case x_kcl => k_is)
    (case x_kgs => k_is)
    (case x_ktk => k_is)
    (case x_kob => k_is)
    (case x_nic => k_is)
    (case x_nty => k_is)
    (case x_n1 => k_is)
    (case x_fl => k_is)
    (case x_fr => decide +kernel)
    (case x_fs => k_is)
    (case x_fe => k_is)
    (case x_ft => k_is)
    (case x_fk => k_is)
    (case x_fg => k_is)
    (case x_fh => k_is)
    (case x_fd => k_is)
    (case x_fno => k_is)
    (case x_ffn => k_is)
    (case x_fic => k_is)
    (case x_fsu => k_is)

