import PyProof.Rows.All
import Wide.All
import OpenK.AllK
import Wide.FinOn
import PyProof.EqAt
import PyProof.EqKinds
import PyProof.TupleCall
import HandS.Base
import HandS.Call
import HandS.List
import HandS.Exc
import HandS.IsInst
import HandS.ExcOwn
import HandS.ExcInit
import HandS.ExcField
import HandS.ExcIs
import HandS.TryOnly
import HandS.CallSlots
import HandS.Words
import HandS.WordsExc
import KE.KExcIs
import HandS.Sort
import PyProof.Rows.RuleN_abs
import HandS.OwnEq
import HandS.IterNext
import PyProof.FactsSeq
import PyProof.TupleIter
import PyProof.WalksMore
import HandS.Star
import HandS.Zip
import HandS.Walk
import HandS.Comp
import HandS.Conv
import HandS.EndBits
import HandS.Wide
import PySem.Challenge.RW_gangbooks_k04_amounts_within
set_option Elab.async false
set_option linter.all false
set_option maxRecDepth 100000
set_option maxHeartbeats 4000000
/-! own operators over the layer -/
namespace L2
open PySem PySem.Spec PyProof.Rows
theorem cmpBack_of {Q : Value → Shared → Prop} {v : V} {u : Value} {s : Shared} (r : RelV v u) (q : Q u s) : PySem.W.CmpBack Q u s := by
  cases v with
  | non => cases (show u = Value.none from r); exact q
  | bl b => cases (show u = Value.bool b from r); exact q
  | int i => obtain ⟨t, e⟩ := (show ∃ t, u = Value.int i t from r); cases e; exact q
  | str x => obtain ⟨t, e⟩ := (show ∃ t, u = Value.str x t from r); cases e; exact q
  | byt x => obtain ⟨t, e⟩ := (show ∃ t, u = Value.bytes x t from r); cases e; exact q
  | flt x => obtain ⟨t, e⟩ := (show ∃ t, u = Value.float x t from r); cases e; exact q
  | ref a => cases (show u = Value.ref a from r); exact q
  | ty n => cases (show u = Value.type n from r); exact q
section
variable {X : Cx} {pins : List (Addr × Obj)} {σ : St} {H : Hp} {s : Shared} {a C dx : Addr} {fs : List (Str × V)}
theorem Inv.instAt (I : Inv X pins σ H s) (e : H a = some (.ins C dx fs)) : ∃ od, PySem.W.InstAt s.heap a (PySem.W.instObj C dx) C (some od) := by
  obtain ⟨mA, J, _⟩ := ins_get I.hok e
  obtain ⟨od, h, _⟩ := J.look
  exact ⟨od, h⟩
end
section
variable {X : Cx} {CX : CXT} {k : Nat} {f C : Addr} {fd : FuncData} {ps : List Str} {sp : Sp} {dvs : List V} {ds : List Value} {E : XK}
/-- the callee runs, within some units of the C stack -/
theorem run_fnA {A : Around} {pins : List (Addr × Obj)} {σ : St} {H : Hp} {s : Shared} {Q : VK} {us : List Value} {vs : List V} (hfA : A.frames = X.A.frames) (F : FnOk X.prog X.w X.K X.mg X.base CX k f fd ps sp) (hr : Room k A) (hb : Binds X.K fd ps ds) (hd : Vals dvs ds) (hx : Passes CX X E)
    (I : Inv X pins σ H s) (r : Vals vs us) (h : sp (vs ++ dvs) H Q E) : wpAny (model X.prog X.w) A (call (.ref f) us) (EP X pins σ Q) X.xe s := by
  have r2 : Vals (vs ++ dvs) (us ++ ds) := r.append hd
  have hl : (us ++ ds).length = ps.length := by rw [← r2.length]; exact F.len _ _ _ _ h
  have e0 := I.env0
  have e1 : Env0 X.prog X.w X.K X.mg X.base A X.stack s H := ⟨hfA.trans e0.frames, e0.mod, e0.bs, e0.bsz, e0.funs, e0.frf, e0.hok, e0.bare⟩
  refine wpAny_call (codeAny_mono (F.run A X.stack s H ⟨us, []⟩ (us ++ ds) (vs ++ dvs) Q E hr e1 (hb s us I.kIn hl) r2 h) fun r s' hq => ?_)
  cases r with
  | error e => exact hx pins σ H s e s' I hq
  | ok fl =>
    cases fl with
    | ret u => exact I.after hq
    | next => exact False.elim hq
    | brk => exact False.elim hq
    | cont => exact False.elim hq
/-- x op y, both of the class at C -/
def rOwn (C : Addr) (sp : Sp) (E : XK) : R2 := fun x y H Q => ∃ a dx fs b dy gs, x = .ref a ∧ H a = some (.ins C dx fs) ∧ y = .ref b ∧ H b = some (.ins C dy gs) ∧ sp [x, y] H Q E
theorem op_own {op : Operator} (hm : Meth X.K C (PySem.dunder op.info.2) f) (hc : PySem.W.selfFirst X.K C = true) (F : FnOk X.prog X.w X.K X.mg X.base CX k f fd ps sp) (hr : Room k X.A) (hb : Binds X.K fd ps []) (hx : Passes CX X E) :
    OpR X (binaryOp op) (rOwn C sp E) := by
  intro pins s σ H x y v u Q I rx ry h
  obtain ⟨a, dx, fs, b, dy, gs, rfl, ea, rfl, eb, h⟩ := h
  obtain rfl : v = Value.ref a := rx
  obtain rfl : u = Value.ref b := ry
  obtain ⟨od, J⟩ := I.instAt ea
  obtain ⟨od', J'⟩ := I.instAt eb
  obtain ⟨m, fr⟩ := I.fr
  refine PySem.W.binop_K fr I.ok.mod.kin J J'.type hc hm.at_ hm.fn (thn (run_fnA (us := [.ref a, .ref b]) (vs := [.ref a, .ref b]) (dvs := []) rfl F hr hb .nil hx I (.cons rfl (.cons rfl .nil)) h) fun w s' q => ?_)
  obtain ⟨v', H', I', rv, q⟩ := q
  exact cmpBack_of rv ⟨v', H', I', rv, q⟩
/-- x op i, an int on the right -/
def rOwnI (C : Addr) (sp : Sp) (E : XK) : R2 := fun x y H Q => ∃ a dx fs i, x = .ref a ∧ H a = some (.ins C dx fs) ∧ y = .int i ∧ sp [x, y] H Q E
structure OwnI (K : PySem.W.Frag) (C : Addr) (op : Operator) : Prop where
  r : ∃ rc, PySem.W.findIn K (.ref C) (dunderR op.info.2) = some rc ∧ (rc = none ∨ ∃ g : Addr, rc = some (.ref g))
  i1 : ∃ fo, PySem.W.findIn K (.type "int") (PySem.dunder op.info.2) = some fo
  i2 : ∃ ro, PySem.W.findIn K (.type "int") (dunderR op.info.2) = some ro
  sub : PySem.W.subIn K (.type "int") (.ref C) = some false
theorem op_ownI {op : Operator} (hm : Meth X.K C (PySem.dunder op.info.2) f) (hc : PySem.W.selfFirst X.K C = true) (hi : OwnI X.K C op) (F : FnOk X.prog X.w X.K X.mg X.base CX k f fd ps sp) (hr : Room k X.A) (hb : Binds X.K fd ps []) (hx : Passes CX X E) :
    OpR X (binaryOp op) (rOwnI C sp E) := by
  intro pins s σ H x y v u Q I rx ry h
  obtain ⟨a, dx, fs, i, rfl, ea, rfl, h⟩ := h
  obtain rfl : v = Value.ref a := rx
  obtain ⟨t, rfl⟩ := (show ∃ t, u = Value.int i t from ry)
  obtain ⟨od, J⟩ := I.instAt ea
  obtain ⟨m, fr⟩ := I.fr
  obtain ⟨⟨rc, h1, h2⟩, ⟨fo, h3⟩, ⟨ro, h4⟩, h5⟩ := hi
  refine PySem.W.ksp_binT (T := "int") fr I.ok.mod.kin J rfl hc hm.at_ hm.fn h1 h2 h3 h4 h5 (thn (run_fnA (us := [.ref a, .int i t]) (vs := [.ref a, .int i]) (dvs := []) rfl F hr hb .nil hx I (.cons rfl (.cons ⟨t, rfl⟩ .nil)) h) fun w s' q => ?_)
  obtain ⟨v', H', I', rv, q⟩ := q
  exact cmpBack_of rv ⟨v', H', I', rv, q⟩
/-- -x -/
def rOwn1 (C : Addr) (sp : Sp) (E : XK) : V → Hp → VK → Prop := fun x H Q => ∃ a dx fs, x = .ref a ∧ H a = some (.ins C dx fs) ∧ sp [x] H Q E
theorem un_own (hm : Meth X.K C "__neg__" f) (F : FnOk X.prog X.w X.K X.mg X.base CX k f fd ps sp) (hr : Room k X.A) (hb : Binds X.K fd ps []) (hx : Passes CX X E) :
    UnR X (unaryOp .USub) (rOwn1 C sp E) := by
  intro pins s σ H x v Q I rx h
  obtain ⟨a, dx, fs, rfl, ea, h⟩ := h
  obtain rfl : v = Value.ref a := rx
  obtain ⟨od, J⟩ := I.instAt ea
  obtain ⟨m, fr⟩ := I.fr
  exact PySem.W.ksp_neg fr I.ok.mod.kin J hm.at_ hm.fn (run_fnA (us := [.ref a]) (vs := [.ref a]) (dvs := []) rfl F hr hb .nil hx I (.cons rfl .nil) h)
/-- truth by an own __bool__ -/
def rOwnT (C : Addr) (sp : Sp) (E : XK) : V → Hp → (Bool → Hp → Prop) → Prop := fun x H Q => ∃ a dx fs, x = .ref a ∧ H a = some (.ins C dx fs) ∧ sp [x] H (fun v H' => ∃ b, v = .bl b ∧ Q b H') E
theorem tru_ownA {A : Around} (hfA : A.frames = X.A.frames) (hm : Meth X.K C "__bool__" f) (F : FnOk X.prog X.w X.K X.mg X.base CX k f fd ps sp) (hr : Room k A) (hb : Binds X.K fd ps []) (hx : Passes CX X E) {pins : List (Addr × Obj)} {s : Shared} {σ : St} {H : Hp} {x : V} {v : Value} {Q : Bool → Hp → Prop}
    (I : Inv X pins σ H s) (rx : RelV x v) (h : rOwnT C sp E x H Q) : wpAny (model X.prog X.w) A (truthy v) (TP X pins σ Q) X.xe s := by
  obtain ⟨a, dx, fs, rfl, ea, h⟩ := h
  obtain rfl : v = Value.ref a := rx
  obtain ⟨od, J⟩ := I.instAt ea
  obtain ⟨m, fr⟩ := I.fr
  refine PySem.W.truthy_K fr I.ok.mod.kin J hm.at_ hm.fn (thn (run_fnA (us := [.ref a]) (vs := [.ref a]) (dvs := []) hfA F hr hb .nil hx I (.cons rfl .nil) h) fun w s' q => ?_)
  obtain ⟨v', H', I', rv, b, rfl, q⟩ := q
  obtain rfl : w = Value.bool b := rv
  exact ⟨H', I', q⟩
theorem tru_own (hm : Meth X.K C "__bool__" f) (F : FnOk X.prog X.w X.K X.mg X.base CX k f fd ps sp) (hr : Room k X.A) (hb : Binds X.K fd ps []) (hx : Passes CX X E) : TruR X (rOwnT C sp E) :=
  fun _ _ _ _ _ _ _ I rx h => tru_ownA rfl hm F hr hb hx I rx h
/-- v in x, by an own __contains__ that hands back a bool -/
def rOwnIn (C : Addr) (sp : Sp) (E : XK) : R2 := fun y x H Q => ∃ a dx fs, x = .ref a ∧ H a = some (.ins C dx fs) ∧ sp [x, y] H (fun v H' => ∃ b, v = .bl b ∧ Q (.bl b) H') E
theorem op_inOwn (hm : Meth X.K C "__contains__" f) (F : FnOk X.prog X.w X.K X.mg X.base CX k f fd ps sp) (hr : Room k X.A) (hb : Binds X.K fd ps []) (hx : Passes CX X E) : OpR X (compareOp .In) (rOwnIn C sp E) := by
  intro pins s σ H y x v u Q I ry rx h
  obtain ⟨a, dx, fs, rfl, ea, h⟩ := h
  obtain rfl : u = Value.ref a := rx
  obtain ⟨od, J⟩ := I.instAt ea
  obtain ⟨m, fr⟩ := I.fr
  refine PySem.W.in_K fr I.ok.mod.kin J hm.at_ hm.fn (thn (run_fnA (us := [.ref a, v]) (vs := [.ref a, y]) (dvs := []) rfl F hr hb .nil hx I (.cons rfl (.cons ry .nil)) h) fun w s' q => ?_)
  obtain ⟨v', H', I', rv, b, rfl, q⟩ := q
  obtain rfl : w = Value.bool b := rv
  exact wpAny_truthy_bool ⟨.bl b, H', I', rfl, q⟩
/-- len(x) by an own __len__ -/
def rOwnLen (C : Addr) (sp : Sp) (E : XK) : List V → Hp → VK → Prop := fun xs H Q => ∃ a dx fs, xs = [.ref a] ∧ H a = some (.ins C dx fs) ∧ sp [.ref a] H (fun v H' => ∃ n : Int, v = .int n ∧ 0 ≤ n ∧ n < 2 ^ 63 ∧ Q (.int n) H') E
theorem call_lenOwn (hm : Meth X.K C "__len__" f) (F : FnOk X.prog X.w X.K X.mg X.base CX k f fd ps sp) (hr : Room (k + 1) X.A) (hb : Binds X.K fd ps []) (hx : Passes CX X E) : CallR X (.builtin "len") (rOwnLen C sp E) := by
  intro pins s σ H xs us Q I r h
  obtain ⟨a, dx, fs, rfl, ea, h⟩ := h
  obtain ⟨u, rfl, ru⟩ := vals1 r
  obtain rfl : u = Value.ref a := ru
  obtain ⟨od, J⟩ := I.instAt ea
  obtain ⟨m, fr⟩ := I.fr
  refine PySem.W.len_K fr I.ok.mod.kin J hm.at_ hm.fn (thn (run_fnA (A := X.A.in1) (us := [.ref a]) (vs := [.ref a]) (dvs := []) rfl F hr.in1 hb .nil hx I (.cons rfl .nil) h) fun w s' q => ?_)
  obtain ⟨v', H', I', rv, n, rfl, h0, h1, q⟩ := q
  obtain ⟨t, rfl⟩ := (show ∃ t, w = Value.int n t from rv)
  exact ⟨⟨h0, h1⟩, .int n, H', I'.tok _, ⟨_, rfl⟩, q⟩
end
end L2

namespace L2
open PySem PySem.Spec PyProof.Rows
section
variable {X : Cx} {CX : CXT} {k : Nat} {f C : Addr} {fd : FuncData} {ps : List Str} {sp : Sp} {E : XK}
theorem meets_bool_any {prog : Program} {w : World} (x : Value) : MeetsIn prog w (Builtin.«bool.__new__» ⟨[.type "bool", x], []⟩) (fun A R s => wpAny (model prog w) A.in1 (truthy x) (fun b s' => R (.ok (.ret (.bool b))) s') (fun e s' => R (.error e) s') s) :=
  MeetsIn.of_wp fun A R s hs => by
    have f1 := F.conv_sub_bool
    obtain ⟨hp, g, d, tk, os⟩ := s
    repeat (any_goals (first | assumption | (with_reducible refine wpAny_bind (wpAny_mono hs (fun b s' q => ?_) fun _ _ z => z)) | (with_reducible refine wpAny_mono hs (fun b s' q => ?_) fun _ _ z => z) | wp_step))
    all_goals first | exact ⟨_, rfl, q⟩ | exact q | skip
/-- bool(x), by an own __bool__ -/
def rBoolOwn (C : Addr) (sp : Sp) (E : XK) : List V → Hp → VK → Prop := fun xs H Q => ∃ x, xs = [x] ∧ rOwnT C sp E x H fun b H' => Q (.bl b) H'
theorem call_boolOwn (hm : Meth X.K C "__bool__" f) (Fk : FnOk X.prog X.w X.K X.mg X.base CX k f fd ps sp) (hr : Room (k + 2) X.A) (hb : Binds X.K fd ps []) (hx : Passes CX X E) : CallR X (.type "bool") (rBoolOwn C sp E) := by
  intro pins s σ H xs us Q I r h
  obtain ⟨x, rfl, h⟩ := h
  obtain ⟨u, rfl, ru⟩ := vals1 r
  refine callType_newIn PySem.F.called_bool PySem.F.newNe_bool (PySem.F.typeCall_bool_1 u) (PySem.F.newCall_bool_1 u) (fun obj => PySem.F.args_object_init_2 obj u) PySem.F.entry_bool_new (meets_bool_any u) ?_
  refine thn (tru_ownA (A := X.A.in1.in1) rfl hm Fk hr.in1.in1 hb hx I ru h) fun b s' ⟨H', I', q⟩ => ?_
  exact ⟨rfl, .bl b, H', I', rfl, q⟩
end
end L2
namespace L2
open PySem PySem.Spec PyProof.Rows
section
variable {X : Cx} {CX : CXT} {k : Nat} {f C : Addr} {fd : FuncData} {ps : List Str} {sp : Sp} {E : XK}
/-- x == y by an own __eq__, y of the class or of a kind that is no subclass of it -/
def rEqOwn (K : PySem.W.Frag) (C : Addr) (sp : Sp) (E : XK) : R2 := fun x y H Q => ∃ a dx fs t, x = .ref a ∧ H a = some (.ins C dx fs) ∧ TyX K H y t ∧ PySem.W.notFirst K C t = true ∧ sp [x, y] H Q E
theorem op_eqOwn (hm : Meth X.K C "__eq__" f) (F : FnOk X.prog X.w X.K X.mg X.base CX k f fd ps sp) (hr : Room k X.A) (hb : Binds X.K fd ps []) (hx : Passes CX X E) : OpR X (compareOp .Eq) (rEqOwn X.K C sp E) := by
  intro pins s σ H x y v u Q I rx ry h
  obtain ⟨a, dx, fs, t, rfl, ea, ty, hn, h⟩ := h
  obtain rfl : v = Value.ref a := rx
  obtain ⟨od, J⟩ := I.instAt ea
  obtain ⟨m, fr⟩ := I.fr
  obtain ⟨P, Z, p, _⟩ := kit_of I ry ty
  have hb' := Z.ty (model X.prog X.w) _ I.kIn p
  show wpAny _ _ (richCompare .Eq (.ref a) u) _ _ _
  refine PySem.W.cmp_K (op := .Eq) hr.units0 fr I.ok.mod.kin J hb' hn hm.at_ hm.fn (thn (run_fnA (us := [.ref a, u]) (vs := [.ref a, y]) (dvs := []) rfl F hr hb .nil hx I (.cons rfl (.cons ry .nil)) h) fun w s' q => ?_)
  obtain ⟨v', H', I', rv, q⟩ := q
  exact cmpBack_of rv ⟨v', H', I', rv, q⟩
end
end L2
namespace PySem.W
open PySem PySem.Spec PySem.Calls PyProof.Rows
section
variable {prog : Program} {w : World} {A : Around} {E : Value → Shared → Prop} {s : Shared} {K : Frag} {x D : Addr} {ox : Obj}
theorem gb_kitx_exc {od : Option Obj} (hga : findIn K (.ref D) "__getattribute__" = some (some (.builtin "BaseException.__getattribute__"))) (hgt : findIn K (.ref D) "__getattr__" = some none) (hsub : subIn K (.ref D) (.type "BaseException") = some true) (hdct : hasDictIn K D = true) (ha : findIn K (.ref D) "__class__" = some (some (.builtin "object.__class__")))
    (hn : specialIn K (.builtin "object.__class__") "__get__" = some (some (.builtin "getset_descriptor.__get__"))) (htk : takesIn K (.builtin "object.__class__") = some true) (hm : mroIn K D (.type "object") = some true) :
    KitX K (.ref x) (.ref D) (fun h => InstAt h x ox D od) where
  ty := fun _ _ _ I => I.type
  it := fun _ _ X _ => by
    obtain ⟨cdD, hcD, _⟩ := any_some hdct
    unfold clsIn at hcD
    split at hcD
    · rename_i c' d' cd' sl' ho
      intro A' Q' E' s' k q
      unfold isType loadHead
      exact wpAny_bind (wpAny_loadPart (k _ _ (X _ _ ho)) (wpAny_pure q))
    · cases hcD
  ne := fun h tp dd its n sl X htp => by
    obtain ⟨cdD, hcD, _⟩ := any_some hdct
    refine Bool.eq_false_iff.mpr fun q => ?_
    have e : D = tp := Value.ref.inj (beq_iff_eq.mp q)
    subst e
    unfold clsIn at hcD
    split at hcD
    · rename_i c' d' cd' sl' ho
      have z := (X _ _ ho).symm.trans htp
      cases z
    · cases hcD
  ca := fun X I k => kx_classE X I hga hgt hsub (findObj_dataE (by obtain ⟨cd, hc, _⟩ := any_some hdct; rw [hc]; rfl) ha hn htk) hm k
end
end PySem.W
namespace L2
open PySem PySem.Spec PyProof.Rows
/-- isinstance(e, c), e the exception that the suite holds, with its own dict -/
def rIsX (K : PySem.W.Frag) (a : Addr) (cls : Value) (d : Option Addr) : List V → Hp → VK → Prop := fun xs H Q => ∃ (c : V) (cv : Value) (b : Bool) (D dd : Addr) (fs : List (Str × V)), xs = [.ref a, c] ∧ (∀ u, RelV c u → u = cv) ∧ cls = .ref D ∧ ExcC K D ∧ d = some dd ∧ H dd = some (.xd fs) ∧ PySem.W.kitOne K (.ref D) cv = some b ∧ Q (.bl b) H
theorem instX {X : Cx} {pins : List (Addr × Obj)} {σ : St} {H : Hp} {s : Shared} {a D dd : Addr} {oe : Obj} {pn : List (Addr × Obj)} {fs : List (Str × V)} (I : Inv (X.suite a ((a, oe) :: pn)) pins σ H s) (hz : Zc (.ref D) (some dd) oe) (hf : ∃ vs, oe.data = .fields vs) (he : H dd = some (.xd fs)) : ∃ od, PySem.W.InstAt s.heap a oe D (some od) := by
  obtain ⟨hget, _⟩ := I.pin (a, oe) (List.mem_append.mpr (.inl List.mem_cons_self))
  obtain ⟨vs, hv⟩ := hf
  obtain ⟨mA, ⟨od, es, ep, e1, e2, e3⟩, r⟩ := (show ObjOk X.prog X.w H s.heap dd (.xd fs) from I.hok dd _ he)
  exact ⟨od, hget, hz.1, by unfold PySem.W.notCls; rw [hv] <;> rfl, by rw [hz.2]; exact e1⟩
theorem call_isX {X : Cx} {a : Addr} {cls : Value} {d : Option Addr} {oe : Obj} {pn : List (Addr × Obj)} (hz : Zc cls d oe) (hf : ∃ vs, oe.data = .fields vs) : CallR (X.suite a ((a, oe) :: pn)) (.builtin "isinstance") (rIsX X.K a cls d) := by
  intro pins s σ H xs us Q I r h
  obtain ⟨c, cv, b, D, dd, fs, rfl, hcv, rfl, C, rfl, hd, e, q⟩ := h
  obtain ⟨u1, u2, rfl, rx, rt⟩ := vals2 r
  cases rx
  have ec := hcv _ rt
  subst ec
  obtain ⟨od, J⟩ := instX I hz hf hd
  exact PySem.W.kia_one (PySem.W.gb_kitx_exc C.hg C.hk C.hs C.hd C.ha C.hn C.ht C.hm) I.kIn J e (fun z => nomatch z) fun tk => ⟨.bl b, H, I.kept (t' := tk) fun _ _ z => z, rfl, q⟩
/-- isinstance(e, (c1, c2, ..)) -/
def rIsXT (K : PySem.W.Frag) (a : Addr) (cls : Value) (d : Option Addr) : List V → Hp → VK → Prop := fun xs H Q => ∃ (tp : Addr) (cs : List V) (us : List Value) (b : Bool) (D dd : Addr) (fs : List (Str × V)), xs = [.ref a, .ref tp] ∧ H tp = some (.tup cs) ∧ Paired ClsV cs us ∧ cls = .ref D ∧ ExcC K D ∧ d = some dd ∧ H dd = some (.xd fs) ∧ PySem.W.kitAny K (.ref D) us = some b ∧ Q (.bl b) H
theorem call_isXT {X : Cx} {a : Addr} {cls : Value} {d : Option Addr} {oe : Obj} {pn : List (Addr × Obj)} (hz : Zc cls d oe) (hf : ∃ vs, oe.data = .fields vs) : CallR (X.suite a ((a, oe) :: pn)) (.builtin "isinstance") (rIsXT X.K a cls d) := by
  intro pins s σ H xs us Q I r h
  obtain ⟨tp, cs, ws, b, D, dd, fs, rfl, hT, k, rfl, C, rfl, hd, e, q⟩ := h
  obtain ⟨u1, u2, rfl, rx, rt⟩ := vals2 r
  cases rx
  cases (show u2 = Value.ref tp from rt)
  obtain ⟨od, J⟩ := instX I hz hf hd
  obtain ⟨_, its, rv, o, h1, h2, n, h3⟩ := (show ObjOk X.prog X.w H s.heap tp (.tup cs) from I.hok tp _ hT)
  have e3 := ClsV.all k rv
  subst e3
  obtain ⟨oc, od, dt, sl⟩ := o
  simp only at h2 h3
  subst h2 h3
  exact PySem.W.kia_tup (PySem.W.gb_kitx_exc C.hg C.hk C.hs C.hd C.ha C.hn C.ht C.hm) I.kIn J h1 e (fun z => nomatch z) fun tk => ⟨.bl b, H, I.kept (t' := tk) fun _ _ z => z, rfl, q⟩
theorem exc_heap {H : Hp} {a d : Addr} {o1 o2 o3 u : HO} (h : H a = none) : upd (del (upd (upd (upd H a o1) d o2) a o3) a) d u = upd H d u := by
  funext b
  by_cases hd : b = d
  · subst hd; rw [upd_same, upd_same]
  · rw [upd_ne hd, upd_ne hd]
    by_cases ha : b = a
    · subst ha; rw [del_same, h]
    · rw [del_ne ha, upd_ne ha, upd_ne hd, upd_ne ha]
/-- what the classes of errors are, over one base with __init__(self, subject) -/
structure GExc (K : PySem.W.Frag) (C fI : Addr) : Prop where
  oex : OexC K C
  iC : PySem.W.findIn K (.ref C) "__init__" = some (some (.ref fI))
  tI : PySem.W.typeIn K (.ref fI) = some (.type "function")
  noS : PySem.W.findIn K (.ref C) "subject" = some none
/-- __init__(self, subject): self.subject = subject -/
def spGI (K : PySem.W.Frag) : Sp := fun vs H Q _ => ∃ (a C : Addr) (v : V), vs = [.ref a, v] ∧ OexC K C ∧ PySem.W.findIn K (.ref C) "subject" = some none ∧ H a = some (exo a C none) ∧
  ∀ dx, H dx = none → dx ≠ a → Q .non (upd (upd H dx (exd dx [(("subject" : Str), v)])) a (exo a C (some dx)))
/-- raise X(e): what it wants of e's value and the heap behind it -/
def RaiseG (K : PySem.W.Frag) (C : Addr) (W : WX) (σ : St) (v : V) (H1 : Hp) : Prop := ([v] : List V).length ≤ 1000 ∧ ∀ a, H1 a = none → spGI K (.ref a :: ([v] ++ [])) (upd H1 a (exo a C none))
  (fun v' H2 => v' = .non ∧ ∃ (d : Addr) (fs : List (Str × V)), H2 a = some (exo a C (some d)) ∧ H2 d = some (exd d fs) ∧ H1 d = none ∧ W (.ref C) (some d) σ (upd (del H2 a) d (.xd fs))) (fun _ _ _ => False)
theorem raiseG_in {K : PySem.W.Frag} {C fI : Addr} {W : WX} {σ : St} {v : V} {H1 : Hp} (T : GExc K C fI) (h : ∀ d, H1 d = none → W (.ref C) (some d) σ (upd H1 d (.xd [(("subject" : Str), v)]))) : RaiseG K C W σ v H1 := by
  refine ⟨by show 1 ≤ 1000; decide, fun a ha => ⟨a, C, v, rfl, T.oex, T.noS, upd_same, fun dx hdx hne => ⟨rfl, dx, [(("subject" : Str), v)], upd_same, ?_, ?_, ?_⟩⟩⟩
  · rw [upd_ne hne, upd_same]
  · rw [upd_ne hne] at hdx; exact hdx
  · rw [exc_heap ha]
    rw [upd_ne hne] at hdx
    exact h dx hdx
def tRaiseG (K : PySem.W.Frag) (C : Addr) (W : WX) (te : TE) : TS := fun _ σ H => te σ H fun v H1 => RaiseG K C W σ v H1
theorem ps_raiseG {X : Cx} {x : Str} {C fI : Addr} {k : Nat} {fd : FuncData} {ps : List Str} {W : WX} {e : Expr} {te : TE} {p pos pos2 : Pos} (hc : X.calm = true) (T : GExc X.K C fI)
    (F1 : FnOk X.prog X.w X.K X.mg X.base CX0 k fI fd ps (spGI X.K)) (hr : Room (k + 1) X.A) (hb : Binds X.K fd ps []) (hg : Gl X x) (hm : X.mg x = some (.ref C)) (tk : Takes X W) (ha : PE X e te)
    (hdb : (x == ("__debug__" : Str)) = false := by decide) (he : starEach [e] X.env = (false, eval e X.env) :: starEach [] X.env := by rfl) (hpl : (backTo pos (starEach [] X.env)).any (·.1) = false := by rfl) :
    PS X (.Raise (some (.Call (.Name x p) [e] [] pos)) none pos2) (tRaiseG X.K C W te) :=
  ps_raise (pos := pos2) hc tk (pmk_oex (p := p) (pos := pos) (dvs := []) T.oex T.iC T.tI F1 hr hb .nil (fun _ _ _ _ _ _ _ h => h.elim) hg hm (pa_cons ha pa_nil he) hdb he hpl)
/-- C(e, ..) of an own class in a try's body -/
def tMakeS (C : Addr) (sp : Sp) (E : St → XK) (t : TA) : TE := fun σ H Q => t σ H fun vs H1 => ∀ x dx, H1 x = none → H1 dx = none → dx ≠ x →
  sp (.ref x :: vs) (upd (upd H1 dx (.own x)) x (.ins C dx [])) (fun v H2 => v = .non ∧ Q (.ref x) H2) (E σ)
section
variable {X : Cx} {CX : CXT} {k : Nat} {f C : Addr} {fd : FuncData} {ps : List Str} {sp : Sp} {E : St → XK} {x : Str} {p pos : Pos} {e : Expr} {es : List Expr} {t : TA} {ta tb : TE}
theorem run_makeS {pins : List (Addr × Obj)} {σ : St} {H : Hp} {s : Shared} {Q : VK} {us : List Value} {vs : List V} (M : Mk X.K C f) (F : FnOk X.prog X.w X.K X.mg X.base CX k f fd ps sp) (hr : Room (k + 1) X.A) (hb : Binds X.K fd ps [])
    (hx : PassesAt CX X σ (E σ)) (I : Inv X pins σ H s) (r : Vals vs us)
    (h : ∀ x dx, H x = none → H dx = none → dx ≠ x → sp (.ref x :: vs) (upd (upd H dx (.own x)) x (.ins C dx [])) (fun v H2 => v = .non ∧ Q (.ref x) H2) (E σ)) :
    wpAny (model X.prog X.w) X.A (call (.ref C) us) (EP X pins σ Q) X.xe s := by
  have hq := h (s.heap.objs.size + 1) s.heap.objs.size (I.hok.fresh (Nat.le_succ _)) (I.hok.fresh (Nat.le_refl _)) (Nat.ne_of_lt (Nat.lt_succ_self _))
  have I2 := Inv.made (C := C) I
  have r2 : Vals (V.ref (s.heap.objs.size + 1) :: vs) (Value.ref (s.heap.objs.size + 1) :: us) := .cons rfl r
  have hl : (Value.ref (s.heap.objs.size + 1) :: us).length = ps.length := by
    have e := r2.length
    rw [F.len _ _ _ _ hq] at e
    exact e.symm
  have hb' := hb
  refine wpAny_call (make_map (f := f) I.kIn M.makes M.init (beq_iff_eq.mp M.fn) (codeAny_mono (F.run _ X.stack _ _ ⟨Value.ref (s.heap.objs.size + 1) :: us, []⟩ (Value.ref (s.heap.objs.size + 1) :: us) _ _ (E σ) (hr.make C us [])
    (I2.env0.make C us []) (by have z := hb _ (Value.ref (s.heap.objs.size + 1) :: us) I2.kIn (by rw [List.append_nil]; exact hl); rw [List.append_nil] at z; exact z) r2 hq) fun r s' hq' => ?_))
  cases r with
  | error e => exact hx pins _ _ e s' I2 hq'
  | ok fl =>
    cases fl with
    | ret u =>
      obtain ⟨v, H', I3, rv, ev, q3⟩ := I2.after hq'
      subst ev
      exact ⟨rv, ⟨V.ref (s.heap.objs.size + 1), H', I3, rfl, q3⟩⟩
    | next => exact False.elim hq'
    | brk => exact False.elim hq'
    | cont => exact False.elim hq'
theorem pe_makeS (M : Mk X.K C f) (F : FnOk X.prog X.w X.K X.mg X.base CX k f fd ps sp) (hr : Room (k + 1) X.A) (hg : Gl X x) (hm : X.mg x = some (.ref C)) (hb : Binds X.K fd ps []) (hx : ∀ σ, PassesAt CX X σ (E σ))
    (ha : PA X (e :: es) t) (hdb : (x == ("__debug__" : Str)) = false := by decide) (he : starEach (e :: es) X.env = (false, eval e X.env) :: starEach es X.env := by rfl) (hpl : (backTo pos (starEach es X.env)).any (·.1) = false := by rfl) :
    PE X (.Call (.Name x p) (e :: es) [] pos) (tMakeS C sp E t) := by
  refine ⟨fun pins s σ H Q I h => ?_⟩
  refine wpAny_Call_Name_kw (ld_glob I hg hm ?_ hdb)
  refine PySem.W.callWith_K (h₀ := X.base) I.ok.mod.kin M.kp (thn (ha.run pos pins s σ H _ I h) fun us s1 ⟨vs, H1, I1, r, q⟩ => ⟨I1.kIn, ?_⟩) he hpl
  exact run_makeS M F hr hb (hx σ) I1 r q
theorem run_fnS2 {pins : List (Addr × Obj)} {σ : St} {H : Hp} {s : Shared} {Q : VK} {us : List Value} {vs : List V} (F : FnOk X.prog X.w X.K X.mg X.base CX k f fd ps sp) (hr : Room k X.A) (hb : Binds X.K fd ps []) (hx : PassesAt CX X σ (E σ))
    (I : Inv X pins σ H s) (r : Vals vs us) (h : sp vs H Q (E σ)) : wpAny (model X.prog X.w) X.A (call (.ref f) us) (EP X pins σ Q) X.xe s :=
  run_fnSD (dvs := []) (ds := []) F hr hb .nil hx I r (by rw [List.append_nil]; exact h)
/-- x op y in a try's body: y of the class, or an int -/
def tOpS (C : Addr) (sp : Sp) (E : St → XK) (ta tb : TE) : TE := fun σ H Q => ta σ H fun x H1 => tb σ H1 fun y H2 => ∃ a dx fs, x = .ref a ∧ H2 a = some (.ins C dx fs) ∧ ((∃ b dy gs, y = .ref b ∧ H2 b = some (.ins C dy gs)) ∨ ∃ i, y = .int i) ∧ sp [x, y] H2 Q (E σ)
theorem pe_opS {op : Operator} (hm : Meth X.K C (PySem.dunder op.info.2) f) (hc : PySem.W.selfFirst X.K C = true) (hi : OwnI X.K C op) (F : FnOk X.prog X.w X.K X.mg X.base CX k f fd ps sp) (hr : Room k X.A) (hb : Binds X.K fd ps []) (hx : ∀ σ, PassesAt CX X σ (E σ))
    {l r : Expr} (ha : PE X l ta) (hb' : PE X r tb) : PE X (.BinOp l op r pos) (tOpS C sp E ta tb) := by
  refine ⟨fun pins s σ H Q I h => ?_⟩
  refine wpAny_BinOp (binT ha hb' I h fun v u s2 x y H2 I2 rx ry q => ?_)
  obtain ⟨a, dx, fs, rfl, ea, hy, q⟩ := q
  obtain rfl : v = Value.ref a := rx
  obtain ⟨od, J⟩ := I2.instAt ea
  obtain ⟨m, fr⟩ := I2.fr
  have run := run_fnS2 F hr hb (hx σ) I2 (.cons (show RelV (.ref a) (Value.ref a) from rfl) (.cons ry .nil)) q
  rcases hy with ⟨b, dy, gs, rfl, eb⟩ | ⟨i, rfl⟩
  · obtain rfl : u = Value.ref b := ry
    obtain ⟨od', J'⟩ := I2.instAt eb
    refine PySem.W.binop_K fr I2.ok.mod.kin J J'.type hc hm.at_ hm.fn (thn run fun w s' q => ?_)
    obtain ⟨v', H', I', rv, q⟩ := q
    exact cmpBack_of rv ⟨v', H', I', rv, q⟩
  · obtain ⟨t, rfl⟩ := (show ∃ t, u = Value.int i t from ry)
    obtain ⟨⟨rc, h1, h2⟩, ⟨fo, h3⟩, ⟨ro, h4⟩, h5⟩ := hi
    refine PySem.W.ksp_binT (T := "int") fr I2.ok.mod.kin J rfl hc hm.at_ hm.fn h1 h2 h3 h4 h5 (thn run fun w s' q => ?_)
    obtain ⟨v', H', I', rv, q⟩ := q
    exact cmpBack_of rv ⟨v', H', I', rv, q⟩
end
end L2
namespace L2
open PySem PySem.Spec PyProof.Rows
section
variable {X : Cx}
theorem rangeSize1 (a b : Int) : Builtin.Range.rangeSize a b 1 = if a < b then b - a else 0 := by
  unfold Builtin.Range.rangeSize
  rw [if_pos (by decide)]
  by_cases h : a < b
  · rw [if_pos h, if_pos h]; omega
  · rw [if_neg h, if_neg h]
theorem q_rlen (r : Addr) (a b : Int) (t u v : Tok) (hz : b - a < 2 ^ 63) :
    Meets (Builtin.«range.__len__» ⟨[.ref r], []⟩) (fun _ R s => s.heap.get? r = some { cls := .type "range", dict := none, data := .fields #[.int a t, .int b u, .int 1 v], slots := #[] } ∧ R (.ok (.ret (.int (if a < b then b - a else 0) s.toks))) { s with toks := s.toks + 1 }) :=
  .of_wp fun prog w A R s h => by
    obtain ⟨hp, g, d, tk, os⟩ := s
    obtain ⟨hl, h⟩ := h
    have hn : ¬ (Builtin.Range.rangeSize a b 1 ≥ 2 ^ 63) := by rw [rangeSize1]; split <;> omega
    wp_walk
    rw [rangeSize1] at hn ⊢
    rw [if_neg hn]
    wp_walk
    exact ⟨_, rfl, h⟩
/-- len(r), r a range with step 1 -/
def rLenRng : List V → Hp → VK → Prop := fun xs H Q => ∃ a lo hi, xs = [.ref a] ∧ H a = some (.rng lo hi) ∧ hi - lo < 2 ^ 63 ∧ Q (.int (if lo < hi then hi - lo else 0)) H
theorem call_lenRng : CallR X (.builtin "len") rLenRng := by
  intro pins s σ H xs us Q I r h
  obtain ⟨a, lo, hi, rfl, ea, hz, q⟩ := h
  obtain ⟨u, rfl, ru⟩ := vals1 r
  obtain rfl : u = Value.ref a := ru
  obtain ⟨t1, t2, t3, ho⟩ := I.hok a _ ea
  refine call_len_slot (T := "range") (n := if lo < hi then hi - lo else 0) ⟨_, ho, rfl⟩ PySem.F.slot_range_len (fun Q' q' => ?_) (by split <;> omega) (by split <;> omega) ⟨.int (if lo < hi then hi - lo else 0), H, (I.tok _), ⟨_, rfl⟩, q⟩
  exact call_meets PySem.F.slot_range_len ⟨_, ho, rfl⟩ PySem.F.entry_range_len (PySem.F.args_range_len_1 _) (q_rlen a lo hi t1 t2 t3 hz) ⟨ho, q'⟩
end
end L2
namespace L2
open PySem PySem.Spec PyProof.Rows
section
variable {X : Cx} {a : Expr} {ta : TE}
/-- * of any two ints whose product the machine takes -/
theorem op_mulX : OpR X (binaryOp .Mult) (rI IntMulOk fun i j => .int (i * j)) := opI fun _ _ _ _ _ _ _ hc q => mul_int q hc
theorem mulL {i j : Int} (h : -(2 ^ 64) < i ∧ i < 2 ^ 64) : IntMulOk i j := CMul.ok (.inl h)
theorem mulR {i j : Int} (h : -(2 ^ 64) < j ∧ j < 2 ^ 64) : IntMulOk i j := CMul.ok (.inr h)
/-- a test by an own truth -/
theorem pt_own {r : V → Hp → (Bool → Hp → Prop) → Prop} (ht : TruR X r) (ha : PE X a ta) (he : ∀ whole, isTrue a X.env whole = (do let v ← whole; standAt a.pos; holding [v] (truthy v)) := by intro _; rfl) :
    PT X a (fun σ H Q => ta σ H fun x H' => r x H' Q) := by
  refine ⟨fun pins s σ H Q I h => ?_⟩
  rw [he]
  refine wpAny_bind (thn (ha.run pins s σ H _ I h) fun v s1 ⟨x, H1, I1, r1, q1⟩ => ?_)
  exact wpAny_bind (wpAny_standAt (wpAny_holding (ht pins s1 σ H1 x v Q I1 r1 q1)))
end
/-- what was tracked stays, but for what stands at p -/
def SameBut (p : Addr) (H H' : Hp) : Prop := ∀ b o, b ≠ p → H b = some o → H' b = some o
theorem SameBut.refl {p : Addr} {H : Hp} : SameBut p H H := fun _ _ _ h => h
theorem SameBut.trans {p : Addr} {H H1 H2 : Hp} (a : SameBut p H H1) (b : SameBut p H1 H2) : SameBut p H H2 := fun c o n h => b c o n (a c o n h)
theorem Same.but {p : Addr} {H H' : Hp} (a : Same H H') : SameBut p H H' := fun c o _ h => a c o h
theorem same_new {H : Hp} {p : Addr} {o : HO} (h : H p = none) : Same H (upd H p o) := fun b u e => by rw [upd_ne (ne_of_none e h)]; exact e
theorem sameBut_upd {H : Hp} {p : Addr} {o : HO} : SameBut p H (upd H p o) := fun b u n e => by rw [upd_ne n]; exact e
theorem Same.seqT {K : PySem.W.Frag} {H H' : Hp} {a : Addr} {xs : List V} (e : Same H H') (h : SqT K H a xs) : SqT K H' a xs := by
  rcases h with (h | ⟨o, h⟩) | h
  · exact .inl (.inl (e _ _ h))
  · exact .inl (.inr ⟨o, e _ _ h⟩)
  · exact .inr h
theorem getMap {xs : List Int} {i : Nat} {y : V} (h : (xs.map V.int)[i]? = some y) : ∃ z, xs[i]? = some z ∧ y = V.int z := by
  rw [List.getElem?_map] at h
  cases e : xs[i]? with
  | none => rw [e] at h; cases h
  | some z => rw [e] at h; exact ⟨z, rfl, (Option.some.inj h).symm⟩
theorem bitsMul {i j : Int} (hi : Builtin.Int.intBits i ≤ 1048576) (hj : Builtin.Int.intBits j ≤ 1048576) : IntMulOk i j := IntMulOk.of_le hi hj (by decide)

theorem iteD {p : Prop} [Decidable p] {A B : Prop} (h1 : p → A) (h2 : ¬ p → B) : if decide p = true then A else B := by
  by_cases h : p
  · rw [decide_eq_true h, if_pos rfl]; exact h1 h
  · rw [decide_eq_false h, if_neg Bool.false_ne_true]; exact h2 h
theorem iteDN {p : Prop} [Decidable p] {A B : Prop} (h1 : p → B) (h2 : ¬ p → A) : if (!decide p) = true then A else B := by
  by_cases h : p
  · rw [decide_eq_true h]; exact iteF (h1 h)
  · rw [decide_eq_false h]; exact iteT (h2 h)
theorem qd {Q : VK} {H : Hp} {p q : Prop} [Decidable p] [Decidable q] (e : p ↔ q) (h : Q (.bl (decide p)) H) : Q (.bl (decide q)) H := by
  have z : decide p = decide q := by
    by_cases c : p
    · rw [decide_eq_true c, decide_eq_true (e.mp c)]
    · rw [decide_eq_false c, decide_eq_false fun y => c (e.mpr y)]
  rw [← z]; exact h
theorem qt {Q : VK} {H : Hp} {p : Prop} [Decidable p] (c : p) (h : Q (.bl (decide p)) H) : Q (.bl true) H := by
  rw [decide_eq_true c] at h; exact h
theorem qf {Q : VK} {H : Hp} {p : Prop} [Decidable p] (c : ¬ p) (h : Q (.bl (decide p)) H) : Q (.bl false) H := by
  rw [decide_eq_false c] at h; exact h

/-! ### the pool of draws -/
/-- the list of the pool: four ints, then ints of at least 1 -/
def poolL (a b c n : Int) (bs : List Int) : List V := [.int a, .int b, .int c, .int n] ++ bs.map V.int
def PoolAt (H : Hp) (p : Addr) : Prop := ∃ a b c n bs, H p = some (.lst (poolL a b c n bs)) ∧ bs.length ≤ 63 ∧ ∀ z ∈ bs, 1 ≤ z
theorem pool_len (a b c n : Int) (bs : List Int) : (poolL a b c n bs).length = 4 + bs.length := by
  unfold poolL; rw [List.length_append, List.length_map]; rfl
theorem pool_at0 {a b c n : Int} {bs : List Int} : atI (poolL a b c n bs) 0 = some (.int a) := atI_nat (j := 0) rfl
theorem pool_at1 {a b c n : Int} {bs : List Int} : atI (poolL a b c n bs) 1 = some (.int b) := atI_nat (j := 1) rfl
theorem pool_at2 {a b c n : Int} {bs : List Int} : atI (poolL a b c n bs) 2 = some (.int c) := atI_nat (j := 2) rfl
theorem pool_at3 {a b c n : Int} {bs : List Int} : atI (poolL a b c n bs) 3 = some (.int n) := atI_nat (j := 3) rfl
theorem pool_at4 {a b c n z : Int} {bs : List Int} : atI (poolL a b c n (z :: bs)) 4 = some (.int z) := atI_nat (j := 4) rfl
theorem ixN_of {n : Nat} {j : Nat} (h : j < n) : ixN n (j : Int) = some j := by
  unfold ixN
  rw [if_pos (by omega), if_pos (by omega)]
  simp
theorem pool_ix {a b c n : Int} {bs : List Int} (j : Nat) (h : j < 4) : ixN (poolL a b c n bs).length (j : Int) = some j := ixN_of (by rw [pool_len]; omega)
theorem pool_ix4 {a b c n z : Int} {bs : List Int} : ixN (poolL a b c n (z :: bs)).length 4 = some 4 := ixN_of (j := 4) (by rw [pool_len, List.length_cons]; omega)
theorem pool_seq4 {a b c n z : Int} {bs : List Int} : seqIndex? 4 (poolL a b c n (z :: bs)).length = some 4 := (ixN_seq pool_ix4).1
theorem PoolAt.of {H : Hp} {p : Addr} {a b c n : Int} {bs : List Int} (h : H p = some (.lst (poolL a b c n bs))) (hl : bs.length ≤ 63) (hz : ∀ z ∈ bs, 1 ≤ z) : PoolAt H p := ⟨a, b, c, n, bs, h, hl, hz⟩
theorem PoolAt.mono {H H' : Hp} {p : Addr} (h : PoolAt H p) (e : Same H H') : PoolAt H' p := let ⟨a, b, c, n, bs, q, hl, hz⟩ := h; ⟨a, b, c, n, bs, e _ _ q, hl, hz⟩
theorem PoolAt.ne {H : Hp} {p q : Addr} (h : PoolAt H p) (hq : H q = none) : p ≠ q := let ⟨_, _, _, _, _, e, _, _⟩ := h; ne_of_none e hq
theorem same_of_but {H H' : Hp} {p : Addr} (hp : H p = none) (s : SameBut p H H') : Same H H' := fun b o e => s b o (ne_of_none e hp) e
theorem dp2 {K : PySem.W.Frag} {H : Hp} {t : Addr} {a b : Int} (h : SqT K H t [.int a, .int b]) : Dp K H (.ref t) (.tuple [.int a, .int b]) := .tup h (.cons (.int a) (.cons (.int b) .nil))
theorem eqv2 (a b : Int) : PyData.eqv (.tuple [.int a, .int b]) (.tuple [.int a, .int b]) = true := by simp [PyData.eqv, PyData.eqvAll]
theorem eqv22 (a b c d : Int) : PyData.eqv (.tuple [.int a, .int b]) (.tuple [.int c, .int d]) = decide (a = c ∧ b = d) := by
  simp [PyData.eqv, PyData.eqvAll, Bool.decide_and]
  try rfl
theorem andV_two {p q : Prop} [Decidable p] [Decidable q] {Qk : VK} {σ : L2.St} {H : Hp} {tb : TE} (h1 : Qk (.bl (decide q)) H → tb σ H Qk) (h : Qk (.bl (decide p && decide q)) H) : if decide p = true then tb σ H Qk else Qk (.bl false) H := by
  by_cases c : p
  · rw [decide_eq_true c] at h ⊢; exact h1 h
  · rw [decide_eq_false c] at h ⊢; rw [if_neg Bool.false_ne_true]; exact h
theorem notFirst_self {K : PySem.W.Frag} {C : Addr} : PySem.W.notFirst K C (.ref C) = true := by unfold PySem.W.notFirst; simp
def spPool (K : PySem.W.Frag) : Sp := fun vs H Q _ => ∃ (a : Addr) (ns : List Int), vs = [.ref a] ∧ SqL K H a (ns.map V.int) ∧ ns.length ≤ 63 ∧ (∀ z ∈ ns, Builtin.Int.intBits z ≤ 1048576) ∧
  ∀ p H', H p = none → PoolAt H' p → SameBut p H H' → Q (.ref p) H'
def spDraw : Sp := fun vs H Q _ => ∃ (p : Addr) (m : Int), vs = [.ref p, .int m] ∧ PoolAt H p ∧ 1 ≤ m ∧ m < 1073741824 ∧ ∀ r H', 0 ≤ r → r < m → PoolAt H' p → SameBut p H H' → Q (.int r) H'

/-! ### the rules that speak of K, by the K at hand -/
section
variable {X : Cx} {o e : Expr} {ta tl : TE} {tg : Expr} {f : Str} {pos : Pos}
theorem op_eqDK (K : PySem.W.Frag) (hu : X.A.units + 64 < cLine) (hK : X.K = K := by rfl) : OpR X (compareOp .Eq) (rEqD K) := hK ▸ op_eqD hu
theorem op_neDK (K : PySem.W.Frag) (hu : X.A.units + 64 < cLine) (hK : X.K = K := by rfl) : OpR X (compareOp .NotEq) (rNeD K) := hK ▸ op_neD hu
theorem ix_tupK (K : PySem.W.Frag) (hK : X.K = K := by rfl) : IxR X (rIxT K) := hK ▸ ix_tup
theorem ix_listK (K : PySem.W.Frag) (hK : X.K = K := by rfl) : IxR X (rIxL K) := hK ▸ ix_list
theorem pe_fldK (K : PySem.W.Frag) (he : PE X e ta) (hb : attributeBase e f X.env (eval e X.env) = eval e X.env) (hK : X.K = K := by rfl) : PE X (.Attribute e f pos) (tFld K ta f) := hK ▸ pe_fld he hb
theorem op_in_seqK (K : PySem.W.Frag) (hK : X.K = K := by rfl) : OpR X (compareOp .In) (rIn K false) := hK ▸ op_in_seq
theorem op_notIn_seqK (K : PySem.W.Frag) (hK : X.K = K := by rfl) : OpR X (compareOp .NotIn) (rIn K true) := hK ▸ op_notIn_seq
theorem call_isiK' (K : PySem.W.Frag) (hK : X.K = K := by rfl) : CallR X (.builtin "isinstance") (rIsi K) := hK ▸ call_isi
theorem pi_listK (K : PySem.W.Frag) (hl : PE X o tl) (hK : X.K = K := by rfl) : PI X tg o (iList K tl) := hK ▸ pi_list hl
theorem pi_tupK (K : PySem.W.Frag) (hl : PE X o tl) (hK : X.K = K := by rfl) : PI X tg o (iTup K tl) := hK ▸ pi_tup hl
def rLenSq (K : PySem.W.Frag) : List V → Hp → VK → Prop := fun xs H Q => ∃ p ys, xs = [.ref p] ∧ (SqL K H p ys ∨ SqT K H p ys) ∧ Q (.int ys.length) H
theorem call_len_seqK (K : PySem.W.Frag) (hK : X.K = K := by rfl) : CallR X (.builtin "len") (rLenSq K) := hK ▸ call_len_seq
end
theorem kit_same {K : PySem.W.Frag} {t : Value} : PySem.W.kitOne K t t = some true := by
  unfold PySem.W.kitOne
  rw [if_pos (by simp)]
theorem kit_sub {K : PySem.W.Frag} {t C : Addr} {b : Bool} (hd : PySem.W.hasDictIn K C = true) (ty : PySem.W.typeIn K (.ref C) = some (.type "type")) (self : PySem.W.subIn K (.ref C) (.ref C) = some true) (h : PySem.W.subIn K (.ref t) (.ref C) = some b) :
    PySem.W.kitOne K (.ref t) (.ref C) = some b := by
  unfold PySem.W.kitOne
  by_cases e : t = C
  · subst e
    rw [if_pos (by simp)]
    exact self.symm.trans h
  · rw [if_neg (by simpa using e)]
    obtain ⟨cd, hc, _⟩ := PySem.W.any_some hd
    have e2 : ((PySem.W.clsIn K C).isSome && PySem.W.typeIn K (.ref C) == some (.type "type")) = true := by rw [hc, ty] <;> rfl
    show (if ((PySem.W.clsIn K C).isSome && PySem.W.typeIn K (.ref C) == some (.type "type")) = true then PySem.W.subIn K (.ref t) (.ref C) else none) = some b
    rw [if_pos e2]
    exact h
theorem kit_base {K : PySem.W.Frag} {t : Addr} {T : String} {b : Bool} (hm : PySem.W.kitMeta T = true) (h : PySem.W.subIn K (.ref t) (.type T) = some b) : PySem.W.kitOne K (.ref t) (.type T) = some b := by
  unfold PySem.W.kitOne
  rw [if_neg (by simp)]
  show (if PySem.W.kitMeta T = true then PySem.W.subIn K (.ref t) (.type T) else none) = some b
  rw [if_pos hm]
  exact h
end L2
namespace L2
open PySem PySem.Spec PyProof.Rows
theorem dec_add (i : Int) (t : Tok) (a C dx : Addr) : Meets (Builtin.«int.__add__» ⟨[.int i t, .ref a], []⟩) (fun _ R s => s.heap.get? a = some (PySem.W.instObj C dx) ∧ R (.ok (.ret .notImplemented)) s) :=
  .of_wp fun prog w A R s h => by obtain ⟨hp, g, d, tk, os⟩ := s; obtain ⟨hl, h⟩ := h; unfold PySem.W.instObj at hl; wp_walk; exact ⟨_, rfl, h⟩
theorem dec_sub (i : Int) (t : Tok) (a C dx : Addr) : Meets (Builtin.«int.__sub__» ⟨[.int i t, .ref a], []⟩) (fun _ R s => s.heap.get? a = some (PySem.W.instObj C dx) ∧ R (.ok (.ret .notImplemented)) s) :=
  .of_wp fun prog w A R s h => by obtain ⟨hp, g, d, tk, os⟩ := s; obtain ⟨hl, h⟩ := h; unfold PySem.W.instObj at hl; wp_walk; exact ⟨_, rfl, h⟩
theorem dec_mul (i : Int) (t : Tok) (a C dx : Addr) : Meets (Builtin.«int.__mul__» ⟨[.int i t, .ref a], []⟩) (fun _ R s => s.heap.get? a = some (PySem.W.instObj C dx) ∧ R (.ok (.ret .notImplemented)) s) :=
  .of_wp fun prog w A R s h => by obtain ⟨hp, g, d, tk, os⟩ := s; obtain ⟨hl, h⟩ := h; unfold PySem.W.instObj at hl; wp_walk; exact ⟨_, rfl, h⟩
theorem dec_eq (i : Int) (t : Tok) (a C dx : Addr) : Meets (Builtin.«int.__eq__» ⟨[.int i t, .ref a], []⟩) (fun _ R s => s.heap.get? a = some (PySem.W.instObj C dx) ∧ R (.ok (.ret .notImplemented)) s) :=
  .of_wp fun prog w A R s h => by obtain ⟨hp, g, d, tk, os⟩ := s; obtain ⟨hl, h⟩ := h; unfold PySem.W.instObj at hl; wp_walk; exact ⟨_, rfl, h⟩

/-- what the classes say of an operator with an int on the left -/
structure IntOp (op : Operator) (B : Builtin) (id : String) : Prop where
  fills : fillsNumberSlot (.type "int") op.info.2 = pure true
  slot : Slot "int" (PySem.dunder op.info.2) id
  entry : entryFor table id = some B
  args : ∀ a b, argsOk id ⟨[a, b], []⟩
  dec : ∀ (i : Int) (t : Tok) (a C dx : Addr), Meets (B ⟨[.int i t, .ref a], []⟩) (fun _ R s => s.heap.get? a = some (PySem.W.instObj C dx) ∧ R (.ok (.ret .notImplemented)) s)
theorem intAdd : IntOp .Add Builtin.«int.__add__» "int.__add__" := ⟨F.fills_int_add, F.slot_int_add, F.entry_int_add, F.args_int_add_2, dec_add⟩
theorem intSub : IntOp .Sub Builtin.«int.__sub__» "int.__sub__" := ⟨F.fills_int_sub, F.slot_int_sub, F.entry_int_sub, F.args_int_sub_2, dec_sub⟩
theorem intMul : IntOp .Mult Builtin.«int.__mul__» "int.__mul__" := ⟨F.fills_int_mul, F.slot_int_mul, F.entry_int_mul, F.args_int_mul_2, dec_mul⟩
open PySem.W in
theorem binop_IK {prog : Program} {w : World} {A : Around} {E : Value → Shared → Prop} {s : Shared} {K : Frag} {x C L f f0 dx : Addr} {h₀ : Heap} {m : Str → Option Value} {od : Option Obj} {op : Operator} {B : Builtin} {id : String} {i : Int} {t : Tok} {Q : Value → Shared → Prop} (J : IntOp op B id)
    (Fr0 : Fr h₀ L s.heap m) (X₀ : K.In h₀) (I : PySem.W.InstAt s.heap x (PySem.W.instObj C dx) C od) (hc : selfFirst K C = true) (hs : findIn K (.ref C) (PySem.dunder op.info.2) = some (some (.ref f0)))
    (hr : findIn K (.ref C) (dunderR op.info.2) = some (some (.ref f))) (hf : isFn K (.ref f) = true) (hsub : subIn K (.ref C) (.type "int") = some false)
    (h : wpAny (model prog w) A (call (.ref f) [.ref x, .int i t]) (PySem.W.CmpBack Q) E s) : wpAny (model prog w) A (binaryOp op (.int i t) (.ref x)) Q E s := by
  have X := X₀.keeps Fr0.keep
  obtain ⟨cd, rest, hcd, hm⟩ := ksp_first hc
  obtain ⟨hfT, slot, entry, args, dec⟩ := J
  rcases hi : op.info with ⟨sym, nm⟩
  rw [hi] at hs hr hfT slot
  dsimp only at hs hr hfT slot
  have hne : (Value.type "int" == Value.ref C) = false := Bool.eq_false_iff.mpr fun q => by cases beq_iff_eq.mp q
  simp only [binaryOp, hi]
  refine wpAny_holding (wpAny_bind ?_)
  unfold binaryOp1
  refine wpAny_bind (wpAny_typeOf (show s.TypeIs (.int i t) "int" from rfl) (wpAny_bind (I.type.here (wpAny_bind (wpAny_of_eq hfT ?_)))))
  simp only [hne, Bool.false_eq_true, if_false]
  refine wpAny_bind ((fills_K X hcd hm hs).here ?_)
  simp only [Bool.and_self, if_true]
  refine wpAny_bind ((looks_subIn X hsub).here ?_)
  have hpy : numberSlotInPython (.type "int") nm = pure false := rfl
  simp only [Bool.false_eq_true, if_false, pure_bind, Bool.not_false, Bool.and_self, if_true, hpy]
  refine wpAny_bind (wpAny_tryMethod_declines (T := "int") rfl slot (call_meets slot rfl entry (args _ _) (dec i t x C dx) ⟨I.at_, rfl, ?_⟩))
  show wpAny _ _ (tryMethod (.ref x) (dunderR nm) (.int i t) >>= _) _ _ _
  refine wpAny_bind (wpAny_mono (ksp_try X I hr hf h) (fun r s' hq => ?_) fun _ _ z => z)
  obtain ⟨v, rfl, q⟩ := hq
  first | exact wpAny_bind (wpAny_rule (wpAny_pure (wpAny_pure q))) | exact wpAny_rule (wpAny_pure (wpAny_pure q)) | exact wpAny_bind (wpAny_rule (wpAny_pure q))
open PySem.W in
theorem eq_IK {prog : Program} {w : World} {A : Around} {E : Value → Shared → Prop} {s : Shared} {K : Frag} {x C L f dx : Addr} {h₀ : Heap} {m : Str → Option Value} {od : Option Obj} {i : Int} {t : Tok} {Q : Value → Shared → Prop} (hu : A.units < cLine)
    (Fr0 : Fr h₀ L s.heap m) (X₀ : K.In h₀) (I : PySem.W.InstAt s.heap x (PySem.W.instObj C dx) C od) (hs : findIn K (.ref C) "__eq__" = some (some (.ref f))) (hf : isFn K (.ref f) = true) (hsub : subIn K (.ref C) (.type "int") = some false)
    (h : wpAny (model prog w) A (call (.ref f) [.ref x, .int i t]) (PySem.W.CmpBack Q) E s) : wpAny (model prog w) A (richCompare .Eq (.int i t) (.ref x)) Q E s := by
  have X := X₀.keeps Fr0.keep
  have one : wpAny (model prog w) A (tryCompare (.ref x) "__eq__" (.int i t)) (fun r s' => ∃ v, r = some v ∧ Q v s') E s := by
    unfold tryCompare
    refine wpAny_bind (ifBound_K X I hs hf (wpAny_mono h (fun v s' hv => ?_) fun _ _ e => e))
    cases v <;> first | exact hv.elim | exact wpAny_pure ⟨_, rfl, hv⟩
  have hne : (Value.type "int" != Value.ref C) = true := by
    have : (Value.type "int" == Value.ref C) = false := Bool.eq_false_iff.mpr fun q => by cases beq_iff_eq.mp q
    simp [bne, this]
  unfold richCompare
  refine wpAny_holding (wpAny_bind (wpAny_cRoomFor hu ?_))
  have ho : oneThing? .Eq (.int i t) (.ref x) = none := rfl
  rw [ho]
  refine wpAny_bind (wpAny_typeOf (show s.TypeIs (.int i t) "int" from rfl) (wpAny_bind (I.type.here ?_)))
  rw [if_pos hne]
  refine wpAny_bind ((looks_subIn X hsub).here ?_)
  simp only [Bool.false_eq_true, if_false]
  refine wpAny_bind (wpAny_tryCompare_declines (T := "int") rfl PySem.F.slot_int_eq (call_meets PySem.F.slot_int_eq rfl PySem.F.entry_int_eq (PySem.F.args_int_eq_2 _ _) (dec_eq i t x C dx) ⟨I.at_, rfl, ?_⟩))
  simp only [Bool.not_false, if_true]
  refine wpAny_bind (wpAny_mono one (fun r s' hq => ?_) fun _ _ z => z)
  obtain ⟨v, rfl, q⟩ := hq
  exact wpAny_pure q
section
variable {X : Cx} {CX : CXT} {k : Nat} {f f0 C : Addr} {fd : FuncData} {ps : List Str} {sp : Sp} {E : XK}
/-- i op x, an int on the left: x's reflected method at (x, i) -/
def rIOwn (C : Addr) (sp : Sp) (E : XK) : R2 := fun y x H Q => ∃ a dx fs i, x = .ref a ∧ H a = some (.ins C dx fs) ∧ y = .int i ∧ sp [x, y] H Q E
theorem op_iown {op : Operator} {B : Builtin} {id : String} (J : IntOp op B id) (hm0 : Meth X.K C (PySem.dunder op.info.2) f0) (hm : Meth X.K C (dunderR op.info.2) f) (hc : PySem.W.selfFirst X.K C = true) (hsub : PySem.W.subIn X.K (.ref C) (.type "int") = some false)
    (F : FnOk X.prog X.w X.K X.mg X.base CX k f fd ps sp) (hr : Room k X.A) (hb : Binds X.K fd ps []) (hx : Passes CX X E) : OpR X (binaryOp op) (rIOwn C sp E) := by
  intro pins s σ H y x v u Q I ry rx h
  obtain ⟨a, dx, fs, i, rfl, ea, rfl, h⟩ := h
  obtain rfl : u = Value.ref a := rx
  obtain ⟨t, rfl⟩ := (show ∃ t, v = Value.int i t from ry)
  obtain ⟨od, Ia⟩ := I.instAt ea
  obtain ⟨m, fr⟩ := I.fr
  refine binop_IK J fr I.ok.mod.kin Ia hc hm0.at_ hm.at_ hm.fn hsub (thn (run_fnA (us := [.ref a, .int i t]) (vs := [.ref a, .int i]) (dvs := []) rfl F hr hb .nil hx I (.cons rfl (.cons ⟨t, rfl⟩ .nil)) h) fun w s' q => ?_)
  obtain ⟨v', H', I', rv, q⟩ := q
  exact cmpBack_of rv ⟨v', H', I', rv, q⟩
theorem op_ieq (hm : Meth X.K C "__eq__" f) (hsub : PySem.W.subIn X.K (.ref C) (.type "int") = some false)
    (F : FnOk X.prog X.w X.K X.mg X.base CX k f fd ps sp) (hr : Room k X.A) (hb : Binds X.K fd ps []) (hx : Passes CX X E) : OpR X (compareOp .Eq) (rIOwn C sp E) := by
  intro pins s σ H y x v u Q I ry rx h
  obtain ⟨a, dx, fs, i, rfl, ea, rfl, h⟩ := h
  obtain rfl : u = Value.ref a := rx
  obtain ⟨t, rfl⟩ := (show ∃ t, v = Value.int i t from ry)
  obtain ⟨od, Ia⟩ := I.instAt ea
  obtain ⟨m, fr⟩ := I.fr
  show wpAny _ _ (richCompare .Eq (.int i t) (.ref a)) _ _ _
  refine eq_IK hr.units0 fr I.ok.mod.kin Ia hm.at_ hm.fn hsub (thn (run_fnA (us := [.ref a, .int i t]) (vs := [.ref a, .int i]) (dvs := []) rfl F hr hb .nil hx I (.cons rfl (.cons ⟨t, rfl⟩ .nil)) h) fun w s' q => ?_)
  obtain ⟨v', H', I', rv, q⟩ := q
  exact cmpBack_of rv ⟨v', H', I', rv, q⟩
end
/-- // by any divisor but 0, of less than 9000 bits -/
theorem op_fdivX {X : Cx} : OpR X (binaryOp .FloorDiv) (rI (fun _ j => j ≠ 0 ∧ j.natAbs.log2 < 9000) fun i j => .int (i.fdiv j)) := opI fun i j _ _ _ _ _ hc q => floordiv_int hc.1 q (.inl (PyProof.noPylong_of_log2 hc.2))
section
variable {X : Cx} {CX : CXT} {k : Nat} {f C : Addr} {fd : FuncData} {ps : List Str} {sp : Sp} {E : XK}
/-- abs(x), by an own __abs__ -/
def rAbsOwn (C : Addr) (sp : Sp) (E : XK) : List V → Hp → VK → Prop := fun xs H Q => ∃ a dx fs, xs = [.ref a] ∧ H a = some (.ins C dx fs) ∧ sp [.ref a] H Q E
theorem call_absOwn (hm : Meth X.K C "__abs__" f) (Fk : FnOk X.prog X.w X.K X.mg X.base CX k f fd ps sp) (hr : Room (k + 1) X.A) (hb : Binds X.K fd ps []) (hx : Passes CX X E) : CallR X (.builtin "abs") (rAbsOwn C sp E) := by
  intro pins s σ H xs us Q I r h
  obtain ⟨a, dx, fs, rfl, ea, h⟩ := h
  obtain ⟨u, rfl, ru⟩ := vals1 r
  obtain rfl : u = Value.ref a := ru
  obtain ⟨od, J⟩ := I.instAt ea
  refine PySem.Calls.call_function_entry kind_abs plain_abs entry_abs (args_abs _) ?_
  unfold Builtin.«abs»
  refine wpAny_bind (m := oneArg "abs" _) (wpAny_pure ?_)
  refine wpAny_bind (m := callSpecial? (.ref a) (Str.ofString "__abs__")) (PySem.W.special_fn I.kIn J hm.at_ (beq_iff_eq.mp hm.fn) (thn (run_fnA (A := X.A.in1) (us := [.ref a]) (vs := [.ref a]) (dvs := []) rfl Fk hr.in1 hb .nil hx I (.cons rfl .nil) h) fun w s' q => ?_))
  exact wpAny_pure ⟨_, rfl, q⟩
end
theorem kit_tb {K : PySem.W.Frag} {C : Addr} {T : String} {b : Bool} (hd : PySem.W.hasDictIn K C = true) (ty : PySem.W.typeIn K (.ref C) = some (.type "type")) (h : PySem.W.subIn K (.type T) (.ref C) = some b) : PySem.W.kitOne K (.type T) (.ref C) = some b := by
  unfold PySem.W.kitOne
  rw [if_neg (by simp)]
  obtain ⟨cd, hc, _⟩ := PySem.W.any_some hd
  have e2 : ((PySem.W.clsIn K C).isSome && PySem.W.typeIn K (.ref C) == some (.type "type")) = true := by rw [hc, ty] <;> rfl
  show (if ((PySem.W.clsIn K C).isSome && PySem.W.typeIn K (.ref C) == some (.type "type")) = true then PySem.W.subIn K (.type T) (.ref C) else none) = some b
  rw [if_pos e2]
  exact h
theorem notFirst_ty {K : PySem.W.Frag} {C : Addr} {T : String} (h : PySem.W.subIn K (.type T) (.ref C) = some false) : PySem.W.notFirst K C (.type T) = true := by unfold PySem.W.notFirst; rw [h]; simp
theorem binds_none {K : PySem.W.Frag} {fd : FuncData} {ps : List Str} (h : ∃ ds, Vals ([] : List V) ds ∧ Binds K fd ps ds) : Binds K fd ps [] := by
  obtain ⟨ds, r, b⟩ := h
  cases r
  exact b
end L2
/-! plain mathematics: lowest terms, Euclid's steps -/
namespace L2
/-- (t, b) is T / B in lowest terms -/
structure Rep (t b T B : Int) : Prop where
  pos : 1 ≤ b
  cross : t * B = T * b
  cop : Nat.gcd t.natAbs b.natAbs = 1
  st : t.natAbs ≤ T.natAbs
  sb : b.natAbs ≤ B.natAbs
theorem rep_of {T B : Int} (hB : B ≠ 0) {g : Nat} (hg : g = Nat.gcd T.natAbs B.natAbs) {f : Int} (hf : f = if B < 0 then -(g : Int) else (g : Int)) : f ≠ 0 ∧ f.natAbs ≤ B.natAbs ∧ Rep (T.fdiv f) (B.fdiv f) T B := by
  have hb0 : 0 < B.natAbs := Int.natAbs_pos.mpr hB
  have g0 : 0 < g := by rw [hg]; exact Nat.gcd_pos_of_pos_right _ hb0
  have gle : g ≤ B.natAbs := by rw [hg]; exact Nat.gcd_le_right _ hb0
  have d1 : (g : Int) ∣ T := by
    rw [hg]; exact Int.ofNat_dvd_left.mpr (Nat.gcd_dvd_left _ _)
  have d2 : (g : Int) ∣ B := by
    rw [hg]; exact Int.ofNat_dvd_left.mpr (Nat.gcd_dvd_right _ _)
  obtain ⟨t1, e1⟩ := d1
  obtain ⟨b1, e2⟩ := d2
  have gi : (g : Int) ≠ 0 := by omega
  have cop : Nat.gcd t1.natAbs b1.natAbs = 1 := by
    have h : g = g * Nat.gcd t1.natAbs b1.natAbs := by
      have : Nat.gcd T.natAbs B.natAbs = g * Nat.gcd t1.natAbs b1.natAbs := by
        rw [e1, e2, Int.natAbs_mul, Int.natAbs_mul, Int.natAbs_natCast, Nat.gcd_mul_left]
      rw [← hg] at this; exact this
    have h' : g * 1 = g * Nat.gcd t1.natAbs b1.natAbs := by rw [Nat.mul_one]; exact h
    exact (Nat.eq_of_mul_eq_mul_left g0 h').symm
  have st : t1.natAbs ≤ T.natAbs := by rw [e1, Int.natAbs_mul, Int.natAbs_natCast]; exact Nat.le_mul_of_pos_left _ g0
  have sb : b1.natAbs ≤ B.natAbs := by rw [e2, Int.natAbs_mul, Int.natAbs_natCast]; exact Nat.le_mul_of_pos_left _ g0
  by_cases hn : B < 0
  · rw [if_pos hn] at hf
    have ft : T.fdiv f = -t1 := by
      rw [hf, e1, show (g : Int) * t1 = -(g : Int) * (-t1) by rw [Int.neg_mul_neg]]
      exact Int.mul_fdiv_cancel_left _ (by omega)
    have fb : B.fdiv f = -b1 := by
      rw [hf, e2, show (g : Int) * b1 = -(g : Int) * (-b1) by rw [Int.neg_mul_neg]]
      exact Int.mul_fdiv_cancel_left _ (by omega)
    have hb1 : b1 < 0 := by
      have q : (g : Int) * b1 < (g : Int) * 0 := by rw [Int.mul_zero, ← e2]; exact hn
      exact Int.lt_of_mul_lt_mul_left q (by omega)
    refine ⟨by omega, by rw [hf, Int.natAbs_neg, Int.natAbs_natCast]; exact gle, ?_⟩
    rw [ft, fb]
    refine ⟨by omega, ?_, by rw [Int.natAbs_neg, Int.natAbs_neg]; exact cop, by rw [Int.natAbs_neg]; exact st, by rw [Int.natAbs_neg]; exact sb⟩
    rw [e1, e2, Int.neg_mul, Int.mul_neg, Int.mul_assoc, Int.mul_left_comm]
  · rw [if_neg hn] at hf
    have ft : T.fdiv f = t1 := by rw [hf, e1]; exact Int.mul_fdiv_cancel_left _ gi
    have fb : B.fdiv f = b1 := by rw [hf, e2]; exact Int.mul_fdiv_cancel_left _ gi
    have hb1 : 0 < b1 := by
      have q : (g : Int) * 0 < (g : Int) * b1 := by rw [Int.mul_zero, ← e2]; omega
      exact Int.lt_of_mul_lt_mul_left q (by omega)
    refine ⟨by omega, by rw [hf, Int.natAbs_natCast]; exact gle, ?_⟩
    rw [ft, fb]
    refine ⟨by omega, ?_, cop, st, sb⟩
    rw [e1, e2, Int.mul_assoc, Int.mul_left_comm]
/-- lowest terms are the only ones -/
theorem rep_uniq {t b t' b' : Int} (h : 1 ≤ b) (h' : 1 ≤ b') (c : Nat.gcd t.natAbs b.natAbs = 1) (c' : Nat.gcd t'.natAbs b'.natAbs = 1) (e : t * b' = t' * b) : t = t' ∧ b = b' := by
  have e1 : t.natAbs * b'.natAbs = t'.natAbs * b.natAbs := by rw [← Int.natAbs_mul, ← Int.natAbs_mul, e]
  have d1 : b.natAbs ∣ b'.natAbs := by
    refine Nat.Coprime.dvd_of_dvd_mul_left (k := b.natAbs) (m := t.natAbs) ?_ ?_
    · show Nat.gcd b.natAbs t.natAbs = 1
      rw [Nat.gcd_comm]; exact c
    · rw [e1]; exact Nat.dvd_mul_left _ _
  have d2 : b'.natAbs ∣ b.natAbs := by
    refine Nat.Coprime.dvd_of_dvd_mul_left (k := b'.natAbs) (m := t'.natAbs) ?_ ?_
    · show Nat.gcd b'.natAbs t'.natAbs = 1
      rw [Nat.gcd_comm]; exact c'
    · rw [← e1]; exact Nat.dvd_mul_left _ _
  have eb := Nat.dvd_antisymm d1 d2
  have eb' : b = b' := by omega
  subst eb'
  exact ⟨Int.eq_of_mul_eq_mul_right (by omega) e, rfl⟩
/-! ### Euclid -/
def Euc (a b i : Nat) : Prop := (i = 0 ∧ b < 2 ^ 200) ∨ (1 ≤ i ∧ b < a ∧ a * b * 2 ^ (i - 1) ≤ 2 ^ 400)
theorem Euc.turn {a b i : Nat} (h : Euc a b i) (hb : b ≠ 0) : Euc b (a % b) (i + 1) ∧ i ≤ 401 := by
  have hm : a % b < b := Nat.mod_lt _ (Nat.pos_of_ne_zero hb)
  rcases h with ⟨rfl, h⟩ | ⟨h1, h2, h3⟩
  · refine ⟨.inr ⟨Nat.le_refl _, hm, ?_⟩, Nat.zero_le _⟩
    show b * (a % b) * 2 ^ 0 ≤ 2 ^ 400
    have : b * (a % b) ≤ 2 ^ 200 * 2 ^ 200 := Nat.mul_le_mul (Nat.le_of_lt h) (Nat.le_of_lt (Nat.lt_trans hm h))
    rw [Nat.pow_zero, Nat.mul_one]
    rw [← Nat.pow_add] at this
    exact this
  · refine ⟨.inr ⟨by omega, hm, ?_⟩, ?_⟩
    · obtain ⟨j, rfl⟩ : ∃ j, i = j + 1 := ⟨i - 1, by omega⟩
      show b * (a % b) * 2 ^ (j + 1) ≤ 2 ^ 400
      have h2' : 2 * (a % b) ≤ a := by
        have e := Nat.div_add_mod a b
        have q : 1 ≤ a / b := Nat.div_pos (Nat.le_of_lt h2) (Nat.pos_of_ne_zero hb)
        have : b * 1 ≤ b * (a / b) := Nat.mul_le_mul_left _ q
        omega
      have e : b * (a % b) * 2 ^ (j + 1) = (b * (2 * (a % b))) * 2 ^ j := by
        rw [Nat.pow_succ, Nat.mul_comm (2 ^ j) 2, ← Nat.mul_assoc, Nat.mul_assoc b, Nat.mul_comm (a % b) 2]
      rw [e]
      refine Nat.le_trans (Nat.mul_le_mul_right _ (Nat.mul_le_mul_left b h2')) ?_
      rw [Nat.mul_comm b a]
      exact h3
    · have : 1 * 1 * 2 ^ (i - 1) ≤ a * b * 2 ^ (i - 1) := Nat.mul_le_mul_right _ (Nat.mul_le_mul (by omega) (by omega))
      simp only [Nat.one_mul] at this
      have q : i - 1 ≤ 400 := (Nat.pow_le_pow_iff_right (by decide)).mp (Nat.le_trans this h3)
      omega
theorem pow_le {m n : Nat} (h : m ≤ n) : (1000 : Int) ^ m ≤ 1000 ^ n := by
  induction h with
  | refl => exact Int.le_refl _
  | step h ih =>
    rename_i k
    have p : ∀ j : Nat, (0 : Int) ≤ 1000 ^ j := fun j => by
      induction j with
      | zero => decide
      | succ j ih => rw [Int.pow_succ]; omega
    rw [Nat.succ_eq_add_one, Int.pow_succ]
    have := p k
    omega
end L2
namespace L2
open PySem PySem.Spec PyProof.Rows
section
variable {X : Cx} {CX : CXT} {k : Nat} {f C : Addr} {fd : FuncData} {ps : List Str} {sp : Sp} {E : St → XK} {m : Str} {pos apos : Pos} {e o : Expr} {es : List Expr} {ta : TE} {t : TA}
/-- o.m(e, ..) in a try's body -/
def tMethT (C : Addr) (m : Str) (sp : Sp) (E : St → XK) (ta : TE) (t : TA) : TE := fun σ H Q => ta σ H fun x H1 => ∃ a dx fs, x = .ref a ∧ H1 a = some (.ins C dx fs) ∧ fs.lookup m = none ∧ t σ H1 fun vs H2 => sp (x :: vs) H2 Q (E σ)
theorem pe_methT {pl : Sem Bool} (he : PE X o ta) (c : Cls X.K C) (hm : Meth X.K C m f) (F : FnOk X.prog X.w X.K X.mg X.base CX k f fd ps sp) (hr : Room k X.A) (hb : Binds X.K fd ps []) (hx : ∀ σ, PassesAt CX X σ (E σ)) (ha : PA X (e :: es) t)
    (hst : starEach (e :: es) X.env = (false, eval e X.env) :: starEach es X.env := by rfl) (hpl : (backTo pos (starEach es X.env)).any (·.1) = false := by rfl)
    (ht : eval (.Call (.Attribute o m apos) (e :: es) [] pos) X.env = (do
      let ov ← eval o X.env
      standAt apos.atName
      let (f, first) ← holding [ov] (getMethod ov m pl)
      callWith pos f first (backTo pos (starEach (e :: es) X.env)) (backToKw pos (keywordEach [] X.env))) := by rfl) :
    PE X (.Call (.Attribute o m apos) (e :: es) [] pos) (tMethT C m sp E ta t) := by
  refine ⟨fun pins s σ H Q I h => ?_⟩
  refine PySem.W.methodCall_KW (pl := pl) (thn (he.run pins s σ H _ I h) fun u s1 ⟨x, H1, I1, rx, a, dx, fs, ex, ea, l, q⟩ => ?_) ht
  subst ex
  obtain rfl : u = Value.ref a := rx
  refine getmeth_ok I1 ea c hm l ?_
  refine PySem.W.callWith_K (first := [.ref a]) (h₀ := X.base) I.ok.mod.kin hm.kp (thn (ha.run pos pins s1 σ H1 _ I1 q) fun us s2 ⟨vs, H2, I2, r, q2⟩ => ⟨I2.kIn, ?_⟩) hst hpl
  exact run_fnS2 (us := .ref a :: us) (vs := .ref a :: vs) F hr hb (hx σ) I2 (.cons rfl r) q2
end
theorem op_two {X : Cx} {op : Operator} {r1 r2 : R2} (h1 : OpR X (binaryOp op) r1) (h2 : OpR X (binaryOp op) r2) : OpR X (binaryOp op) (fun x y H Q => r1 x y H Q ∨ r2 x y H Q) := by
  intro pins s σ H x y v u Q I rx ry h
  rcases h with h | h
  · exact h1 _ _ _ _ _ _ _ _ _ I rx ry h
  · exact h2 _ _ _ _ _ _ _ _ _ I rx ry h
end L2
/-! iter of a tuple; list(x) of an own class whose __iter__ gives a tuple's iterator and that has an own __len__ -/
namespace L2
open PySem PySem.Spec PyProof.Rows
section
variable {prog : Program} {w : World} {A : Around} {E : Value → Shared → Prop} {s : Shared}
theorem gb_iter_tuple {t : Addr} {items : Array Value} {Q : Value → Shared → Prop} (ht : s.heap.IsTuple t items) (h : Q (.ref s.heap.objs.size) { s with heap := s.heap.push { cls := .type "tuple_iterator", data := .fields #[.ref t, .int 0 0] } }) : wpAny (model prog w) A (call (.builtin "iter") [.ref t]) Q E s := by
  refine Calls.call_function_entry (by decide +kernel) (by decide +kernel) PySem.W.kdk_entry_iter (PySem.W.kdk_args_iter _) ?_
  unfold Builtin.«iter»
  refine wpAny_bind (m := someArgs "iter" 1 2 _) (wpAny_of_eq (a := [Value.ref t]) (by first | rfl | kernel_rfl!) ?_)
  show wpAny _ _ (pyIter (.ref t) >>= _) _ _ _
  refine wpAny_bind (wpAny_pyIter_tuple ht ?_)
  exact wpAny_pure ⟨_, rfl, h⟩
/-- the end of a tuple's iterator; the iterator stays an object -/
theorem gb_tuple_end {it t : Addr} {i : Nat} {items : Array Value} {Q : Option Value → Shared → Prop} (hh : A.handled = none)
    (hit : s.heap.IsTupleIter it t i) (ht : s.heap.IsTuple t items) (hx : items[i]? = none)
    (hQ : ∀ h', Heap.ExtBut it s.heap h' → (∃ u, h'.get? it = some u) → Q none { s with heap := h' }) : wpAny (model prog w) A (pyNext (.ref it)) Q E s := by
  obtain ⟨o, ho, hc, hd⟩ := id hit
  obtain ⟨ol, hol, _, nl, hdl⟩ := ht
  unfold pyNext
  refine wpAny_bind (wpAny_attempt (wpAny_callSpecial?_slot (name := Str.ofString "__next__") hit.typeIs F.slot_tuple_iterator_next
    (wpAny_call_entry F.slot_tuple_iterator_next hit.typeIs F.entry_tuple_iterator_next ?_ (F.args_tuple_iterator_next_1 _))))
  show wpAny _ _ (field (.ref it) 0 >>= _) _ _ s
  refine wpAny_bind (wpAny_field ho hd (x := .ref t) rfl ?_)
  show wpAny _ _ (if (Value.ref t == Value.none) = true then _ else _) _ _ s
  rw [if_neg (show ¬ ((Value.ref t == Value.none) = true) from Bool.false_ne_true)]
  show wpAny _ _ (field (.ref it) 1 >>= _) _ _ s
  refine wpAny_bind (wpAny_field ho hd (x := .int i 0) rfl ?_)
  show wpAny _ _ (seqItems? (.ref t) >>= _) _ _ s
  refine wpAny_bind (wpAny_seqItems hol hdl ?_)
  simp only [Int.toNat_natCast, hx]
  refine wpAny_bind (wpAny_rule (wpAny_bind (wpAny_setField ho hd (by simp) ?_)))
  show wpAny _ _ (newExc (.type "StopIteration") [] >>= _) _ _ _
  refine wpAny_bind ?_
  simp only [newExc, newTuple]
  refine wpAny_bind (wpAny_newObj_type ?_ (by size_fits))
  refine wpAny_bind (m := firstArgMember _ _) (wpAny_of_eq (a := Value.none) (by first | rfl | (simp only [firstArgMember]; rfl)) ?_)
  refine wpAny_newObj_type ?_ (by size_fits)
  simp only [raiseNew]
  refine wpAny_bind (wpAny_handled ?_)
  first | rw [show A.in1.handled = none from hh] | rw [hh]
  refine wpAny_bind (wpAny_pure (wpAny_throw ?_))
  refine wpAny_bind (wpAny_isInstance (T := "StopIteration") (b := true) ⟨_, Heap.get?_push_size _ rfl, rfl⟩ isSubtype_stop ?_)
  exact wpAny_pure (hQ _ (((Heap.SameBut.update ..).extBut.push _).push _) ⟨_, Heap.get?_push_of_some _ (Heap.get?_push_of_some _ (Heap.get?_update_self _ ho (Obj.isFreed_of_fields (Obj.data_mapFields hd _))))⟩)
theorem gb_hint {Q : Bool → Shared → Prop} {K : PySem.W.Frag} {a C fl : Addr} {ox : Obj} {od : Option Obj} (hl : PySem.W.findIn K (.ref C) "__len__" = some (some (.ref fl))) (hK : K.In s.heap) (J : PySem.W.InstAt s.heap a ox C od)
    (h : wpAny (model prog w) A (call (.builtin "len") [.ref a]) (fun v s' => ∃ n t, v = .int n t ∧ Builtin.List.listTooLong n.toNat = false ∧ Q (n != 0) s') (fun _ _ => False) s) : wpAny (model prog w) A (Builtin.List.listLengthHint (.ref a)) Q E s := by
  unfold Builtin.List.listLengthHint
  refine wpAny_bind (wpAny_bind (J.type.here ((PySem.W.looks_findIn hK hl).here ?_)))
  refine PySem.W.KFB.if_not rfl ?_
  show wpAny _ _ (rule _ >>= _) _ _ _
  refine wpAny_bind (wpAny_rule ?_)
  refine wpAny_bind (wpAny_attempt (wpAny_mono h (fun v s' hv => ?_) fun _ _ z => ?_))
  · obtain ⟨n, t, rfl, h1, q⟩ := hv
    show wpAny _ _ (if Builtin.List.listTooLong n.toNat = true then _ else pure (n != 0)) _ _ _
    rw [if_neg (by rw [h1]; decide)]
    exact wpAny_pure q
  · exact z.elim
end
/-- at it an iterator over the tuple at t, the next place is i -/
def ItT (t it : Addr) (i : Nat) : HO := .ext fun h => h.IsTupleIter it t i
/-- at it something that is no longer of use -/
def ItX (it : Addr) : HO := .ext fun h => ∃ o, h.get? it = some o
theorem itT_ok {P : Program} {w : World} {H : Hp} {h : Heap} {t it : Addr} {i : Nat} (e : h.IsTupleIter it t i) : ObjOk P w H h it (ItT t it i) := ⟨e, let ⟨o, ho, _⟩ := e; ⟨o, ho⟩, fun h1 h2 q k => Heap.IsTupleIter.at q k⟩
theorem itX_ok {P : Program} {w : World} {H : Hp} {h : Heap} {it : Addr} (e : ∃ o, h.get? it = some o) : ObjOk P w H h it (ItX it) := ⟨e, e, fun h1 h2 q k => let ⟨o, ho⟩ := q; ⟨o, k o ho⟩⟩
section
variable {X : Cx} {pins : List (Addr × Obj)} {σ : St} {H : Hp} {s : Shared} {t it l : Addr} {i : Nat} {zs : List V}
theorem itT_get (I : Inv X pins σ H s) (e : H it = some (ItT t it i)) : s.heap.IsTupleIter it t i := (I.hok it _ e).1
def rIterT (K : PySem.W.Frag) : List V → Hp → VK → Prop := fun xs H Q => ∃ (t : Addr) (zs : List V), xs = [.ref t] ∧ SqT K H t zs ∧ ∀ it, H it = none → Q (.ref it) (upd H it (ItT t it 0))
theorem call_iterT : CallR X (.builtin "iter") (rIterT X.K) := by
  intro pins s σ H xs us Q I r h
  obtain ⟨t, zs, rfl, hq, q⟩ := h
  obtain rfl := Vals.ref1 r
  obtain ⟨its, rv, pl, hz⟩ := I.tuple hq
  refine gb_iter_tuple (show s.heap.IsTuple t its.toArray from pl) ?_
  exact ⟨.ref s.heap.objs.size, _, I.laid (t' := s.toks) (fun b u e => Heap.get?_push_of_some _ e) (Nat.le_refl _) (itT_ok ⟨_, Heap.get?_push_size _ rfl, rfl, rfl⟩), rfl, q _ (I.hok.fresh (Nat.le_refl _))⟩
theorem upd_swap {a b : Addr} {o u : HO} (h : a ≠ b) : upd (upd H a o) b u = upd (upd H b u) a o := by
  funext c
  by_cases ha : c = a
  · subst ha; rw [upd_ne h, upd_same, upd_same]
  · rw [upd_ne ha]
    by_cases hb : c = b
    · subst hb; rw [upd_same, upd_same]
    · rw [upd_ne hb, upd_ne hb, upd_ne ha]
/-- the loop over a tuple's iterator, the list at l filled -/
theorem gb_loop {A1 : Around} {Rs : Result → Shared → Prop} (hh : A1.handled = none) (hne : it ≠ l) (hT : SqT X.K H t zs) (hz : zs.length < sizeLine) (hlt : H l = none) (hit : H it = none)
    (hdone : ∀ s, Inv X pins σ (upd (upd H l (.lst zs)) it (ItX it)) s → Rs (.ok (.ret .none)) s) :
    ∀ (k i : Nat) (s : Shared), zs.length - i = k → i ≤ zs.length → Inv X pins σ (upd (upd H l (.lst (zs.take i))) it (ItT t it i)) s → codeAny (model X.prog X.w) A1 (.builtin "list.extend.loop" ⟨[.ref l, .ref it, .none], []⟩) Rs s := by
  have sT : ∀ {o1 o2 : HO}, SqT X.K (upd (upd H l o1) it o2) t zs := fun {o1 o2} => Same.seqT ((same_new hlt).trans (same_new (by rw [upd_ne hne]; exact hit))) hT
  intro k
  induction k with
  | zero =>
    intro i s hk hi I
    have hin : i = zs.length := by omega
    subst hin
    obtain ⟨its, rv, pl, _⟩ := I.tuple (sT (o1 := _) (o2 := _))
    refine codeAny_builtin PySem.F.entry_extend_loop ?_
    rw [Around.under_plainId PySem.F.plain_extend_loop _]
    show wpAny _ A1.in1 (pyNext (.ref it) >>= _) _ _ s
    refine wpAny_bind (gb_tuple_end (A := A1.in1) hh (itT_get I upd_same) (show s.heap.IsTuple t its.toArray from pl) (by have := rv.length; simp; omega) fun h' hb hu => ?_)
    refine wpAny_pure (hdone _ ?_)
    have I2 := I.write (x := it) (e := it) (o := ItX it) (h' := h') (t' := s.toks) (by rw [upd_same]; exact True.intro) (.inl rfl) (fun b u nb z => hb b u nb z) hu (itX_ok hu)
    rw [upd_upd, List.take_length] at I2
    exact I2
  | succ k ih =>
    intro i s hk hi I
    have hlt2 : i < zs.length := by omega
    obtain ⟨its, rv, pl, _⟩ := I.tuple (sT (o1 := _) (o2 := _))
    obtain ⟨u, hu, ru⟩ := rv.get (List.getElem?_eq_getElem hlt2)
    refine codeAny_builtin PySem.F.entry_extend_loop ?_
    rw [Around.under_plainId PySem.F.plain_extend_loop _]
    show wpAny _ A1.in1 (pyNext (.ref it) >>= _) _ _ s
    refine wpAny_bind (wpAny_pyNext_tuple_item (itT_get I upd_same) (show s.heap.IsTuple t its.toArray from pl) (x := u) (by simpa using hu) fun h' hi' sb => ?_)
    have I2 := I.write (x := it) (e := it) (o := ItT t it (i + 1)) (h' := h') (t' := s.toks) (by rw [upd_same]; exact True.intro) (.inl rfl) (fun b o nb z => (sb.2 b nb).trans z) (let ⟨o, ho, _⟩ := hi'; ⟨o, ho⟩) (itT_ok hi')
    rw [upd_upd, upd_swap hne.symm] at I2
    show wpAny _ A1.in1 (updateSeq l (·.push u) >>= _) _ _ _
    obtain ⟨z, its2, c, r2, hl, e⟩ := I2.lstM upd_same
    have hl2 : its2.length = i := by rw [← r2.length, List.length_take]; omega
    refine wpAny_bind (wpAny_updateSeq e rfl (wpAny_pure ⟨plainId_quiet PySem.F.plain_extend_loop _, ?_⟩) (by rw [List.size_toArray]; omega) (by show (its2.toArray.push u).size ≤ sizeLine + 1; rw [Array.size_push, List.size_toArray]; omega))
    have I3 := I2.lset (its' := its2 ++ [u]) (ys := zs.take (i + 1)) (t' := s.toks) (f := (·.push u)) upd_same e (by simp) (by rw [List.take_succ, List.getElem?_eq_getElem hlt2]; exact r2.append (.cons ru .nil)) (by rw [List.length_take]; omega)
    rw [upd_upd, upd_swap hne] at I3
    exact ih (i + 1) _ (by omega) hlt2 I3
end
section
variable {X : Cx} {k k2 : Nat} {fi fl C : Addr} {fd fd2 : FuncData} {ps ps2 : List Str} {spI spL : Sp}
/-- list(x) -/
def rListIt (K : PySem.W.Frag) (C : Addr) (spI spL : Sp) : List V → Hp → VK → Prop := fun xs H Q => ∃ (a dx t : Addr) (fs : List (Str × V)) (zs : List V), xs = [.ref a] ∧ H a = some (.ins C dx fs) ∧ SqT K H t zs ∧ zs.length < 1000 ∧
  ∀ l, H l = none →
    spI [.ref a] (upd H l (.lst [])) (fun v H' => ∃ it, v = .ref it ∧ upd H l (.lst []) it = none ∧ H' = upd (upd H l (.lst [])) it (ItT t it 0)) (fun _ _ _ => False) ∧
    (∀ it, H it = none → it ≠ l → spL [.ref a] (upd (upd H l (.lst [])) it (ItT t it 0)) (fun v H' => v = .int zs.length ∧ H' = upd (upd H l (.lst [])) it (ItT t it 0)) (fun _ _ _ => False)) ∧
    ∀ it, H it = none → it ≠ l → Q (.ref l) (upd (upd H l (.lst zs)) it (ItX it))
theorem call_listIt (hmI : Meth X.K C "__iter__" fi) (hmL : Meth X.K C "__len__" fl) (FI : FnOk X.prog X.w X.K X.mg X.base CX0 k fi fd ps spI) (FL : FnOk X.prog X.w X.K X.mg X.base CX0 k2 fl fd2 ps2 spL)
    (bI : Binds X.K fd ps []) (bL : Binds X.K fd2 ps2 []) (hr : Room (k + 2) X.A) (hr2 : Room (k2 + 3) X.A) : CallR X (.type "list") (rListIt X.K C spI spL) := by
  intro pins s σ H xs us Q I rv h
  obtain ⟨a, dx, t, fs, zs, rfl, ha, hT, hz, hq⟩ := h
  obtain ⟨u, rfl, ru⟩ := rv.one
  obtain rfl : u = Value.ref a := ru
  refine callType_codes (Q₁ := fun obj s₁ => obj = .ref s.heap.objs.size ∧ s₁ = { s with heap := s.heap.push { cls := .type "list", data := .seq #[] } }) PySem.F.called_list (PySem.F.typeCall_list_1 _) PySem.F.entry_list_init
    (code_list_new _ ⟨rfl, rfl⟩) fun obj s₁ h₁ => ?_
  obtain ⟨rfl, rfl⟩ := h₁
  have hS : (s.heap.push { cls := .type "list", data := .seq #[] }).get? s.heap.objs.size = some { cls := .type "list", data := .seq #[] } := Heap.get?_push_size _ rfl
  refine ⟨⟨_, hS, rfl⟩, PySem.F.args_list_init_2 _ _, ?_⟩
  have fr : H s.heap.objs.size = none := I.hok.fresh (Nat.le_refl _)
  obtain ⟨q1, q2, q3⟩ := hq _ fr
  have I1 : Inv X pins σ (upd H s.heap.objs.size (.lst [])) { s with heap := s.heap.push { cls := .type "list", data := .seq #[] } } := I.lnew (its := []) (t' := s.toks) .nil (Nat.zero_le _)
  show wpAny _ _ (do let old ← Builtin.List.listItems (.ref s.heap.objs.size); Builtin.List.listUpdate (.ref s.heap.objs.size) (fun _ => #[]); letGo old.toList.reverse; Builtin.List.listExtendWith (.ref s.heap.objs.size) (.ref a) .none) _ _ _
  refine wpAny_bind ?_
  unfold Builtin.List.listItems
  refine wpAny_bind (wpAny_seqItems hS rfl (wpAny_pure ?_))
  show wpAny _ _ (updateSeq s.heap.objs.size (fun _ => #[]) >>= fun _ => letGo (#[] : Array Value).toList.reverse >>= fun _ => Builtin.List.listExtendWith (.ref s.heap.objs.size) (.ref a) .none) _ _ _
  refine wpAny_bind (wpAny_updateSeq hS rfl ?_)
  have I2 := I1.lset (f := fun _ => #[]) (its := []) (its' := []) (ys := []) (t' := s.toks) upd_same hS rfl .nil (Nat.zero_le _)
  rw [upd_upd] at I2
  refine wpAny_bind (wpAny_letGo ?_)
  generalize hl0 : s.heap.objs.size = l at *
  have hne : a ≠ l := ne_of_none ha fr
  have ha2 : upd H l (.lst []) a = some (.ins C dx fs) := by rw [upd_ne hne]; exact ha
  generalize ({ s with heap := (s.heap.push { cls := .type "list", data := .seq #[] }).update l (Obj.mapSeq fun _ => #[]), toks := s.toks } : Shared) = s2 at I2 ⊢
  obtain ⟨od, J⟩ := I2.instAt ha2
  obtain ⟨m0, hF⟩ := I2.fr
  unfold Builtin.List.listExtendWith
  refine wpAny_bind (J.type.here ?_)
  have h1 : Builtin.List.listSameRef (.ref l) (.ref a) = false := by simp [Builtin.List.listSameRef, hne.symm]
  have h2 : (Value.ref C == Value.type "list") = false := rfl
  have h3 : (Value.ref C == Value.type "tuple") = false := rfl
  simp only [h1, h2, h3, Bool.or_false, Bool.false_eq_true, if_false]
  refine wpAny_bind (PySem.W.owit_iter hF I2.ok.mod.kin J hmI.at_ hmI.fn ?_)
  have rI : Room k X.A.in1.in1 := (hr.in1 (k := k + 1)).in1
  refine wpAny_mono (run_fnA (X := X.nox) (us := [.ref a]) (vs := [.ref a]) (dvs := []) rfl FI rI bI .nil pass0 (I2.wish _) (.cons rfl .nil) q1) (fun v s3 q => ?_) (fun _ _ z => z.elim)
  obtain ⟨v', H', I3, rv', it, rfl, hit, rfl⟩ := q
  obtain rfl : v = Value.ref it := rv'
  replace I3 := I3.unwish
  have hil : it ≠ l := fun z => by rw [z, upd_same] at hit; cases hit
  have hitH : H it = none := by rw [upd_ne hil] at hit; exact hit
  have gi := itT_get I3 upd_same
  show wpAny _ _ (specialOf (.ref it) "__next__") _ _ _
  refine wpAny_specialOf gi.typeIs PySem.F.slot_tuple_iterator_next.lookup ?_
  have ha3 : upd (upd H l (.lst [])) it (ItT t it 0) a = some (.ins C dx fs) := by rw [upd_ne (ne_of_none ha2 hit)]; exact ha2
  obtain ⟨od3, J3⟩ := I3.instAt ha3
  obtain ⟨m3, hF3⟩ := I3.fr
  have rL : Room k2 X.A.in1.in1.in1 := ((hr2.in1 (k := k2 + 2)).in1 (k := k2 + 1)).in1
  refine wpAny_bind (wpAny_holding (gb_hint hmL.at_ I3.kIn J3 (PySem.W.len_K hF3 I3.ok.mod.kin J3 hmL.at_ hmL.fn ?_)))
  refine wpAny_mono (run_fnA (X := X.nox) (us := [.ref a]) (vs := [.ref a]) (dvs := []) rfl FL rL bL .nil pass0 (I3.wish _) (.cons rfl .nil) (q2 it hitH hil)) (fun v s4 q => ?_) (fun _ _ z => z.elim)
  obtain ⟨v', H', I4, rv4, rfl, rfl⟩ := q
  obtain ⟨tk, rfl⟩ := (show ∃ t, v = Value.int zs.length t from rv4)
  replace I4 := I4.unwish.tok (s4.toks + 1)
  refine ⟨⟨by omega, by omega⟩, _, _, rfl, ?_, ?_⟩
  · show decide ((zs.length : Int).toNat > sizeLine) = false
    rw [sizeLine_eq]
    exact decide_eq_false (by omega)
  generalize ({ s4 with toks := s4.toks + 1 } : Shared) = s5 at I4 ⊢
  have hzl : zs.length < sizeLine := by rw [sizeLine_eq]; omega
  have loop : ∀ s, Inv X pins σ (upd (upd H l (.lst [])) it (ItT t it 0)) s → codeAny (model X.prog X.w) X.A.in1 (.builtin "list.extend.loop" ⟨[.ref l, .ref it, .none], []⟩) (wants (fun r s₂ => r = .none ∧ EP X pins σ Q (.ref l) s₂) X.xe) s := fun s' I' =>
    gb_loop (A1 := X.A.in1) (zs := zs) (show X.A.in1.handled = none from hr.hd) hil hT hzl fr hitH (fun s6 I6 => ⟨rfl, .ref l, _, I6, rfl, q3 it hitH hil⟩) zs.length 0 s' rfl (Nat.zero_le _) I'
  refine wpAny_ite_split (fun _ => ?_) (fun _ => wpAny_pure ⟨plainId_quiet PySem.F.plain_extend_loop _, loop s5 I4⟩)
  have hql : upd (upd H l (.lst [])) it (ItT t it 0) l = some (.lst []) := by rw [upd_ne hil.symm, upd_same]
  obtain ⟨z, its, k4, r3, hl3, e3⟩ := I4.lstM hql
  cases r3
  refine wpAny_bind (wpAny_rule ?_)
  refine wpAny_bind ?_
  show wpAny _ _ (updateSeq l (·.push .none) >>= fun _ => updateSeq l (·.pop)) _ _ _
  refine wpAny_bind (wpAny_updateSeq e3 rfl ?_)
  have I5 := I4.lset (f := (·.push Value.none)) (its' := [Value.none]) (ys := [.non]) (t' := s5.toks) hql e3 (by simp) (.cons rfl .nil) (by rw [List.length_singleton, sizeLine_eq]; decide)
  obtain ⟨z4, its4, k5, r4, hl4, e4⟩ := I5.lstM upd_same
  obtain ⟨u4, rfl, ru4⟩ := r4.one
  refine wpAny_updateSeq e4 rfl ?_ (by show 1 ≤ sizeLine; rw [sizeLine_eq]; decide) (by show 0 ≤ sizeLine + 1; exact Nat.zero_le _)
  refine wpAny_pure ⟨plainId_quiet PySem.F.plain_extend_loop _, loop _ ?_⟩
  have I6 := I5.lset (f := (·.pop)) (its := [u4]) (its' := []) (ys := []) (t' := s5.toks) upd_same e4 (by rfl) .nil (Nat.zero_le _)
  rw [upd_upd] at I6
  have hH : upd (upd (upd H l (.lst [])) it (ItT t it 0)) l (.lst []) = upd (upd H l (.lst [])) it (ItT t it 0) := by rw [upd_swap hil, upd_upd]
  rw [hH] at I6
  exact I6
end
end L2
namespace L2
open PySem PySem.Spec PyProof.Rows StX
/-- zip of two tuples -/
theorem walk_zipT {K : PySem.W.Frag} {a b : Addr} {xs ys : List V} {n : Nat} (hn : n = min xs.length ys.length) : Walk (RZ.ItzT K a b) n (fun H => SqT K H a xs ∧ SqT K H b ys) (YPair (fun i => xs[i]?) (fun i => ys[i]?)) := by
  subst hn
  refine ⟨fun i _ hi q => ?_, fun _ q => ⟨xs, ys, q.1, q.2, by omega⟩, fun i H v H' _ q y => ?_⟩
  · have h1 : i < xs.length := by omega
    have h2 : i < ys.length := by omega
    exact ⟨xs, ys, xs[i], ys[i], q.1, q.2, by simp [h1], by simp [h2]⟩
  · obtain ⟨T, x, z, h1, h2, h3, h4, h5⟩ := y
    exact ⟨T, x, z, h1, h2, h3, h4 xs q.1, h5 ys q.2⟩
theorem pi_zipK {X : Cx} (K : PySem.W.Frag) {e e2 : Expr} {ta : TA} {p pos tpos : Pos} {elts : List Expr} {kk : Nat} (hg : Gl X "zip") (hm : X.mg "zip" = none) (ha : PA X [e, e2] ta) (hK : X.K = K := by rfl)
    (hs : starEach [e, e2] X.env = (false, eval e X.env) :: starEach [e2] X.env := by rfl) (hpl : (backTo pos (starEach [e2] X.env)).any (·.1) = false := by rfl) :
    PI X (.Tuple elts kk tpos) (.Call (.Name "zip" p) [e, e2] [] pos) (RZ.iZipA K ta) := hK ▸ RZ.pi_zipA hg hm ha hs hpl
section
variable {P : Program} {w : World} {K : PySem.W.Frag} {mg : Str → Option Value} {base : Heap}
/-- what a def with *args says of its arguments -/
def spStar (m : Nat) (sp : Sp) : Sp := fun vs H Q E => ∃ ws rest, vs = ws ++ rest ∧ ws.length = m ∧ rest.length ≤ sizeLine ∧ ∀ p, H p = Option.none → sp (ws ++ [V.ref p]) (upd H p (.tup rest)) Q E
theorem Fun.okStar {x qual : Str} {st : Stmt} {f : Addr} {fd : FuncData} {N : List Str} {p1 pv : Str} {k : Nat} {sp : Sp} (F : Fun K x qual st f fd) (S : FnScope N ([p1] ++ [pv]) (defScope st))
    (hb : ∀ (kV doc pm : Value) (an : Option Addr) (cdv ct : Value) (us rest : List Value), us.length = [p1].length → bindArgs (PySem.W.fnOf x qual (defArgs st) (defBody st) (defScope st) .none kV doc pm an cdv ct) ⟨us ++ rest, []⟩ = (newTuple rest >>= fun t => pure ([p1].zip us ++ [(pv, t)])))
    (hbody : ∀ (cdv : Value) (A : Around) (outer : List Env) (s : Shared) (H : Hp) (vs : List V) (Q : VK) (E : XK), Room k (A.deeper (envOfC qual (defScope st) s.heap.objs.size f cdv)) → sp vs H Q E →
      ∃ t, PSs (cxOf (L2.CX P w) P w K mg base N qual (defScope st) f cdv A outer s H E) (defBody st) t ∧ t { nx := fun _ H' => Q .non H', rt := Q } (start N vs) H) : FnR P w K mg base (L2.CX P w) (k + 1) f (spStar 1 sp) := by
  obtain ⟨oc, od, kV, doc, pm, an, cdv, ct, osl, rfl, lk, hcd⟩ := F.ex
  exact fn_star (ps := [p1]) (pv := pv) lk hcd S cxUp (hb kV doc pm an cdv ct) fun A outer s H vs Q E hr hsp => hbody cdv A outer s H vs Q E hr hsp
end
section
variable {X : Cx} {CX : CXT} {k : Nat} {f C : Addr} {fd : FuncData} {ps : List Str} {sp : Sp} {E : XK} {x : Str} {e : Expr} {es : List Expr} {te : TE} {t : TA} {p sp_ pos : Pos}
/-- C(*y) -/
def tMakeStar (K : PySem.W.Frag) (C : Addr) (sp : Sp) (E : XK) (te : TE) : TE := fun σ H Q => te σ H fun y H1 => ∃ a xs, y = V.ref a ∧ (SqT K H1 a xs ∨ SqL K H1 a xs) ∧ ∀ x dx, H1 x = Option.none → H1 dx = Option.none → dx ≠ x →
  sp (V.ref x :: xs) (upd (upd H1 dx (.own x)) x (.ins C dx [])) (fun v H2 => v = .non ∧ Q (.ref x) H2) E
theorem pe_makeStar (M : Mk X.K C f) (F : FnR X.prog X.w X.K X.mg X.base CX k f sp) (hr : Room (k + 1) X.A) (hg : Gl X x) (hm : X.mg x = some (.ref C)) (hx : Passes CX X E) (he : PE X e te) (hd : (x == ("__debug__" : Str)) = false := by decide)
    (hst : starEach [.Starred e sp_] X.env = [(true, eval e X.env)] := by rfl) : PE X (.Call (.Name x p) [.Starred e sp_] [] pos) (tMakeStar X.K C sp E te) := by
  refine ⟨fun pins s σ H Q I h => ?_⟩
  refine wpAny_Call_Name_kw (ld_glob I hg hm ?_ hd)
  refine PySem.W.callWith_S (h₀ := X.base) I.ok.mod.kin M.kp (thn (he.run pins s σ H _ I h) fun v s1 ⟨y, H1, I1, ry, a, xs, ey, hxs, q⟩ => ?_) hst
  subst ey
  obtain rfl : v = Value.ref a := ry
  exact star_any I1 hxs fun us s2 I2 rv => ⟨I2.kIn, run_makeR M F hr hx I2 rv q⟩
/-- the same in a try's body -/
def tMakeRT (C : Addr) (sp : Sp) (E : St → XK) (t : TA) : TE := fun σ H Q => t σ H fun vs H1 => ∀ x dx, H1 x = Option.none → H1 dx = Option.none → dx ≠ x →
  sp (V.ref x :: vs) (upd (upd H1 dx (.own x)) x (.ins C dx [])) (fun v H2 => v = .non ∧ Q (.ref x) H2) (E σ)
theorem run_makeRT {E : St → XK} {pins : List (Addr × Obj)} {σ : L2.St} {H : Hp} {s : Shared} {Q : VK} {us : List Value} {vs : List V} (M : Mk X.K C f) (F : FnR X.prog X.w X.K X.mg X.base CX k f sp) (hr : Room (k + 1) X.A) (hx : PassesAt CX X σ (E σ)) (I : Inv X pins σ H s) (r : Vals vs us)
    (h : ∀ x dx, H x = Option.none → H dx = Option.none → dx ≠ x → sp (V.ref x :: vs) (upd (upd H dx (.own x)) x (.ins C dx [])) (fun v H2 => v = .non ∧ Q (.ref x) H2) (E σ)) :
    wpAny (model X.prog X.w) X.A (call (.ref C) us) (EP X pins σ Q) X.xe s := by
  have hq := h (s.heap.objs.size + 1) s.heap.objs.size (I.hok.fresh (Nat.le_succ _)) (I.hok.fresh (Nat.le_refl _)) (Nat.ne_of_lt (Nat.lt_succ_self _))
  have I2 := Inv.made (C := C) I
  have r2 : Vals (V.ref (s.heap.objs.size + 1) :: vs) (Value.ref (s.heap.objs.size + 1) :: us) := .cons rfl r
  refine wpAny_call (make_map (f := f) I.kIn M.makes M.init (beq_iff_eq.mp M.fn) (codeAny_mono (F _ X.stack _ _ (Value.ref (s.heap.objs.size + 1) :: us) _ _ (E σ) (hr.make C us []) (I2.env0.make C us []) r2 hq) fun r s' hq' => ?_))
  cases r with
  | error e => exact hx pins _ _ e s' I2 hq'
  | ok fl =>
    cases fl with
    | ret u =>
      obtain ⟨v, H', I3, rv, ev, q3⟩ := I2.after hq'
      subst ev
      exact ⟨rv, ⟨V.ref (s.heap.objs.size + 1), H', I3, rfl, q3⟩⟩
    | next => exact False.elim hq'
    | brk => exact False.elim hq'
    | cont => exact False.elim hq'
theorem pe_makeRT {E : St → XK} (M : Mk X.K C f) (F : FnR X.prog X.w X.K X.mg X.base CX k f sp) (hr : Room (k + 1) X.A) (hg : Gl X x) (hm : X.mg x = some (.ref C)) (hx : ∀ σ, PassesAt CX X σ (E σ)) (ha : PA X (e :: es) t) (hdb : (x == ("__debug__" : Str)) = false := by decide)
    (he : starEach (e :: es) X.env = (false, eval e X.env) :: starEach es X.env := by rfl) (hpl : (backTo pos (starEach es X.env)).any (·.1) = false := by rfl) : PE X (.Call (.Name x p) (e :: es) [] pos) (tMakeRT C sp E t) := by
  refine ⟨fun pins s σ H Q I h => ?_⟩
  refine wpAny_Call_Name_kw (ld_glob I hg hm ?_ hdb)
  refine PySem.W.callWith_K (h₀ := X.base) I.ok.mod.kin M.kp (thn (ha.run pos pins s σ H _ I h) fun us s1 ⟨vs, H1, I1, r, q⟩ => ⟨I1.kIn, ?_⟩) he hpl
  exact run_makeRT M F hr (hx σ) I1 r q
theorem pe_makeRT0 {E : St → XK} (M : Mk X.K C f) (F : FnR X.prog X.w X.K X.mg X.base CX k f sp) (hr : Room (k + 1) X.A) (hg : Gl X x) (hm : X.mg x = some (.ref C)) (hx : ∀ σ, PassesAt CX X σ (E σ)) (hdb : (x == ("__debug__" : Str)) = false := by decide) :
    PE X (.Call (.Name x p) [] [] pos) (tMakeRT C sp E tNil) := by
  refine ⟨fun pins s σ H Q I h => ?_⟩
  refine wpAny_Call_Name_kw (ld_glob I hg hm ?_ hdb)
  exact PySem.W.callWith_K0 I.kIn M.kp (run_makeRT M F hr (hx σ) I .nil h)
/-- y in x in a try's body, x of an own class -/
def tInT (C : Addr) (sp : Sp) (E : St → XK) (ta tb : TE) : TE := fun σ H Q => ta σ H fun y H1 => tb σ H1 fun x H2 => ∃ a dx fs, x = .ref a ∧ H2 a = some (.ins C dx fs) ∧ sp [x, y] H2 (fun v H' => ∃ b, v = .bl b ∧ Q (.bl b) H') (E σ)
theorem pe_inT {E : St → XK} {l r : Expr} {ta tb : TE} (hm : Meth X.K C "__contains__" f) (F : FnOk X.prog X.w X.K X.mg X.base CX k f fd ps sp) (hr : Room k X.A) (hb : Binds X.K fd ps []) (hx : ∀ σ, PassesAt CX X σ (E σ)) (ha : PE X l ta) (hb' : PE X r tb) (hmk : behindInMarks .In r = false) :
    PE X (.Compare l [.In] [r] pos) (tInT C sp E ta tb) := by
  refine ⟨fun pins s σ H Q I h => ?_⟩
  refine wpAny_Compare1 (binT ha hb' I h fun v u s2 y x H2 I2 ry rx q => ?_) hmk
  obtain ⟨a, dx, fs, rfl, ea, q⟩ := q
  obtain rfl : u = Value.ref a := rx
  obtain ⟨od, J⟩ := I2.instAt ea
  obtain ⟨m, fr⟩ := I2.fr
  refine PySem.W.in_K fr I2.ok.mod.kin J hm.at_ hm.fn (thn (run_fnS2 F hr hb (hx σ) I2 (.cons (show RelV (.ref a) (Value.ref a) from rfl) (.cons ry .nil)) q) fun w s' q => ?_)
  obtain ⟨v', H', I', rv, b, rfl, q⟩ := q
  obtain rfl : w = Value.bool b := rv
  exact wpAny_truthy_bool ⟨.bl b, H', I', rfl, q⟩
end
section
variable {X : Cx} {CX : CXT} {k : Nat} {f C : Addr} {fd : FuncData} {ps : List Str} {sp : Sp} {E : XK}
/-- x[y] by an own __getitem__ -/
def rIxOwn (C : Addr) (sp : Sp) (E : XK) : R2 := fun x y H Q => ∃ a dx fs i, x = .ref a ∧ H a = some (.ins C dx fs) ∧ y = .int i ∧ sp [x, y] H Q E
theorem pe_ixOwn {a b : Expr} {ta tb : TE} {pos : Pos} (hm : Meth X.K C "__getitem__" f) (hfn : PySem.W.fnIn X.K f = true) (F : FnOk X.prog X.w X.K X.mg X.base CX k f fd ps sp) (hr : Room (k + 1) X.A) (hb : Binds X.K fd ps []) (hx : Passes CX X E) (ha : PE X a ta) (hb2 : PE X b tb)
    (hs : ∀ (x : Addr) (i : Value), subscripted b true (.ref x) i = runValue (.builtin "lifetime.subscript" ⟨[.ref x, i], []⟩) := by intro _ _; rfl) : PE X (.Subscript a b pos) (tOp (rIxOwn C sp E) ta tb) := by
  refine ⟨fun pins s σ H Q I h => ?_⟩
  refine Subscript_ (binT ha hb2 I h fun v u s2 x y H2 I2 rx ry q => ?_)
  obtain ⟨a', dx, fs, i, rfl, ea, rfl, q⟩ := q
  obtain rfl : v = Value.ref a' := rx
  obtain ⟨t, rfl⟩ := (show ∃ t, u = Value.int i t from ry)
  obtain ⟨od, J⟩ := I2.instAt ea
  obtain ⟨m, fr⟩ := I2.fr
  exact PySem.W.sub_K fr I2.ok.mod.kin J hm.at_ hfn hm.fn (run_fnA (A := X.A.in1) (us := [.ref a', .int i t]) (vs := [.ref a', .int i]) (dvs := []) rfl F hr.in1 hb .nil hx I2 (.cons rfl (.cons ⟨t, rfl⟩ .nil)) q) (hs _ _)
end
end L2
namespace L2
open PySem PySem.Spec PyProof.Rows StX
theorem call_listItK {X : Cx} (K : PySem.W.Frag) {k k2 : Nat} {fi fl C : Addr} {fd fd2 : FuncData} {ps ps2 : List Str} {spI spL : Sp} (hmI : Meth X.K C "__iter__" fi) (hmL : Meth X.K C "__len__" fl) (FI : FnOk X.prog X.w X.K X.mg X.base CX0 k fi fd ps spI) (FL : FnOk X.prog X.w X.K X.mg X.base CX0 k2 fl fd2 ps2 spL)
    (bI : Binds X.K fd ps []) (bL : Binds X.K fd2 ps2 []) (hr : Room (k + 2) X.A) (hr2 : Room (k2 + 3) X.A) (hK : X.K = K := by rfl) : CallR X (.type "list") (rListIt K C spI spL) := hK ▸ call_listIt hmI hmL FI FL bI bL hr hr2
theorem call_iterTK {X : Cx} (K : PySem.W.Frag) (hK : X.K = K := by rfl) : CallR X (.builtin "iter") (rIterT K) := hK ▸ call_iterT
def spNever : Sp := fun _ _ _ _ => False
theorem dpInts {K : PySem.W.Frag} {H : Hp} : ∀ xs : List Int, DpAll K H (xs.map V.int) (xs.map PyData.int)
  | [] => .nil
  | x :: xs => .cons (.int x) (dpInts xs)
theorem eqvInts : ∀ xs ys : List Int, PyData.eqvAll (xs.map PyData.int) (ys.map PyData.int) = decide (xs = ys)
  | [], [] => by simp [PyData.eqvAll]
  | [], _ :: _ => by simp [PyData.eqvAll]
  | _ :: _, [] => by simp [PyData.eqvAll]
  | x :: xs, y :: ys => by
    simp only [List.map_cons, PyData.eqvAll, eqvInts xs ys, PyData.eqv]
    simp [List.cons.injEq, Bool.decide_and]
    rfl
theorem eqvT (xs ys : List Int) : PyData.eqv (.tuple (xs.map PyData.int)) (.tuple (ys.map PyData.int)) = decide (xs = ys) := by simp only [PyData.eqv]; exact eqvInts xs ys
theorem eqvL (xs ys : List Int) : PyData.eqv (.list (xs.map PyData.int)) (.list (ys.map PyData.int)) = decide (xs = ys) := by simp only [PyData.eqv]; exact eqvInts xs ys
theorem layInts : ∀ xs : List Int, PyData.canLayAll0 (xs.map PyData.int) = true
  | [] => rfl
  | x :: xs => by
    show (PyData.canLay0 (PyData.int x) && PyData.canLayAll0 (xs.map PyData.int)) = true
    rw [layInts xs]; rfl
theorem depInts : ∀ xs : List Int, PyData.depthAll (xs.map PyData.int) = 0
  | [] => rfl
  | x :: xs => by
    simp only [List.map_cons, PyData.depthAll, depInts xs, PyData.depth]
    rfl
theorem shT (xs : List Int) : SeqAt.shaped (.tuple (xs.map PyData.int)) = true := by
  unfold SeqAt.shaped
  simp only [PyData.canLay0, PyData.depth, layInts, depInts]
  rfl
theorem shL (xs : List Int) : SeqAt.shaped (.list (xs.map PyData.int)) = true := by
  unfold SeqAt.shaped
  simp only [PyData.canLay0, PyData.depth, layInts, depInts]
  rfl
theorem same_put {H H' : Hp} {D : Addr} {o : HO} (s : Same H H') (h : H D = none) : Same H (upd H' D o) := fun b u e => by
  rw [upd_ne (fun z => by rw [z, h] at e; cases e)]
  exact s b u e
end L2
namespace L2
open PySem PySem.Spec PyProof.Rows StX
def rTupOf (K : PySem.W.Frag) : List V → Hp → VK → Prop := fun xs H Q => ∃ p ys, xs = [.ref p] ∧ ((SqL K H p ys ∧ ∀ l, H l = none → Q (.ref l) (upd H l (.tup ys))) ∨ (SqT K H p ys ∧ Q (.ref p) H))
theorem call_tuple_ofK {X : Cx} (K : PySem.W.Frag) (hK : X.K = K := by rfl) : CallR X (.type "tuple") (rTupOf K) := hK ▸ call_tuple_of
theorem sl_listK {X : Cx} (K : PySem.W.Frag) (hK : X.K = K := by rfl) : SlR X (rSlL K) := hK ▸ sl_list
end L2
namespace LW
open PySem PySem.Spec PyProof.Rows L2
def top (i : Nat) : Stmt := PySem.Challenge.pw_gangbooks_k04_amounts_within.main.body.getD i (.Pass ⟨0, 0, 0, 0⟩)
abbrev s_GangError_init : Stmt := inClass (top 1) 0
abbrev s_refuse_lengths : Stmt := top 7
abbrev s_Amounts_init : Stmt := inClass (top 8) 0
abbrev s_Amounts_bool : Stmt := inClass (top 8) 14
abbrev s_Amounts_add : Stmt := inClass (top 8) 2
abbrev s_Amounts_sub : Stmt := inClass (top 8) 3
abbrev s_Amounts_and : Stmt := inClass (top 8) 4
abbrev s_Amounts_or : Stmt := inClass (top 8) 5
abbrev s_Amounts_mul : Stmt := inClass (top 8) 6
abbrev s_Amounts_rmul : Stmt := inClass (top 8) 7
abbrev s_Amounts_floordiv : Stmt := inClass (top 8) 8
abbrev s_Amounts_mod : Stmt := inClass (top 8) 9
abbrev s_Amounts_contains : Stmt := inClass (top 8) 12
abbrev s_Amounts_eq : Stmt := inClass (top 8) 13
abbrev s_Amounts_getitem : Stmt := inClass (top 8) 15
abbrev s_Amounts_len : Stmt := inClass (top 8) 16
abbrev s_Amounts_iter : Stmt := inClass (top 8) 17
abbrev s_pool : Stmt := top 10
abbrev s_draw : Stmt := top 11
abbrev s_number : Stmt := top 12
abbrev s_signed : Stmt := top 13
abbrev s_near : Stmt := top 14
abbrev s_row : Stmt := top 15
abbrev s_whole : Stmt := top 16
abbrev s_is : Stmt := top 17
abbrev s_within : Stmt := top 18
abbrev s_subject : Stmt := top 19
abbrev s_counted : Stmt := top 20
abbrev s_pair : Stmt := top 21
abbrev s_law : Stmt := top 22
theorem sc_GangError_init : FnScope ["self", "subject"] ["self", "subject"] (defScope s_GangError_init) := ⟨rfl, rfl, rfl, by decide +kernel, rfl, by decide +kernel, by decide +kernel⟩
theorem sc_refuse_lengths : FnScope ["left", "right"] ["left", "right"] (defScope s_refuse_lengths) := ⟨rfl, rfl, rfl, by decide +kernel, rfl, by decide +kernel, by decide +kernel⟩
theorem sc_Amounts_init : FnScope ["self", "numbers"] ["self", "numbers"] (defScope s_Amounts_init) := ⟨rfl, rfl, rfl, by decide +kernel, rfl, by decide +kernel, by decide +kernel⟩
theorem sc_Amounts_bool : FnScope ["self", "number"] ["self"] (defScope s_Amounts_bool) := ⟨rfl, rfl, rfl, by decide +kernel, rfl, by decide +kernel, by decide +kernel⟩
theorem sc_Amounts_add : FnScope ["self", "other", "numbers", "one", "two"] ["self", "other"] (defScope s_Amounts_add) := ⟨rfl, rfl, rfl, by decide +kernel, rfl, by decide +kernel, by decide +kernel⟩
theorem sc_Amounts_sub : FnScope ["self", "other", "numbers", "one", "two"] ["self", "other"] (defScope s_Amounts_sub) := ⟨rfl, rfl, rfl, by decide +kernel, rfl, by decide +kernel, by decide +kernel⟩
theorem sc_Amounts_and : FnScope ["self", "other", "numbers", "one", "two"] ["self", "other"] (defScope s_Amounts_and) := ⟨rfl, rfl, rfl, by decide +kernel, rfl, by decide +kernel, by decide +kernel⟩
theorem sc_Amounts_or : FnScope ["self", "other", "numbers", "one", "two"] ["self", "other"] (defScope s_Amounts_or) := ⟨rfl, rfl, rfl, by decide +kernel, rfl, by decide +kernel, by decide +kernel⟩
theorem sc_Amounts_mul : FnScope ["self", "other", "numbers", "number"] ["self", "other"] (defScope s_Amounts_mul) := ⟨rfl, rfl, rfl, by decide +kernel, rfl, by decide +kernel, by decide +kernel⟩
theorem sc_Amounts_rmul : FnScope ["self", "other"] ["self", "other"] (defScope s_Amounts_rmul) := ⟨rfl, rfl, rfl, by decide +kernel, rfl, by decide +kernel, by decide +kernel⟩
theorem sc_Amounts_floordiv : FnScope ["self", "other", "one", "two"] ["self", "other"] (defScope s_Amounts_floordiv) := ⟨rfl, rfl, rfl, by decide +kernel, rfl, by decide +kernel, by decide +kernel⟩
theorem sc_Amounts_mod : FnScope ["self", "other"] ["self", "other"] (defScope s_Amounts_mod) := ⟨rfl, rfl, rfl, by decide +kernel, rfl, by decide +kernel, by decide +kernel⟩
theorem sc_Amounts_contains : FnScope ["self", "x", "one", "two"] ["self", "x"] (defScope s_Amounts_contains) := ⟨rfl, rfl, rfl, by decide +kernel, rfl, by decide +kernel, by decide +kernel⟩
theorem sc_Amounts_eq : FnScope ["self", "other"] ["self", "other"] (defScope s_Amounts_eq) := ⟨rfl, rfl, rfl, by decide +kernel, rfl, by decide +kernel, by decide +kernel⟩
theorem sc_Amounts_getitem : FnScope ["self", "at"] ["self", "at"] (defScope s_Amounts_getitem) := ⟨rfl, rfl, rfl, by decide +kernel, rfl, by decide +kernel, by decide +kernel⟩
theorem sc_Amounts_len : FnScope ["self"] ["self"] (defScope s_Amounts_len) := ⟨rfl, rfl, rfl, by decide +kernel, rfl, by decide +kernel, by decide +kernel⟩
theorem sc_Amounts_iter : FnScope ["self"] ["self"] (defScope s_Amounts_iter) := ⟨rfl, rfl, rfl, by decide +kernel, rfl, by decide +kernel, by decide +kernel⟩
theorem sc_pool : FnScope ["_law_script", "_law_pool_here", "_law_cell"] ["_law_script"] (defScope s_pool) := ⟨rfl, rfl, rfl, by decide +kernel, rfl, by decide +kernel, by decide +kernel⟩
theorem sc_draw : FnScope ["_law_pool_here", "_law_many", "_law_first", "_law_second", "_law_found"] ["_law_pool_here", "_law_many"] (defScope s_draw) := ⟨rfl, rfl, rfl, by decide +kernel, rfl, by decide +kernel, by decide +kernel⟩
theorem sc_number : FnScope ["_law_pool_here", "_law_groups", "_law_kind", "_law_count", "_law_number_here", "_law_k", "_law_part"] ["_law_pool_here", "_law_groups"] (defScope s_number) := ⟨rfl, rfl, rfl, by decide +kernel, rfl, by decide +kernel, by decide +kernel⟩
theorem sc_signed : FnScope ["_law_pool_here", "_law_groups", "_law_number_here"] ["_law_pool_here", "_law_groups"] (defScope s_signed) := ⟨rfl, rfl, rfl, by decide +kernel, rfl, by decide +kernel, by decide +kernel⟩
theorem sc_near : FnScope ["_law_pool_here", "_law_number_here", "_law_way"] ["_law_pool_here", "_law_number_here"] (defScope s_near) := ⟨rfl, rfl, rfl, by decide +kernel, rfl, by decide +kernel, by decide +kernel⟩
theorem sc_row : FnScope ["_law_numbers"] ["_law_numbers"] (defScope s_row) := ⟨rfl, rfl, rfl, by decide +kernel, rfl, by decide +kernel, by decide +kernel⟩
theorem sc_whole : FnScope ["_law_value"] ["_law_value"] (defScope s_whole) := ⟨rfl, rfl, rfl, by decide +kernel, rfl, by decide +kernel, by decide +kernel⟩
theorem sc_is : FnScope ["_law_row_here", "_law_numbers", "_law_k"] ["_law_row_here", "_law_numbers"] (defScope s_is) := ⟨rfl, rfl, rfl, by decide +kernel, rfl, by decide +kernel, by decide +kernel⟩
theorem sc_within : FnScope ["_law_inner", "_law_outer", "_law_k"] ["_law_inner", "_law_outer"] (defScope s_within) := ⟨rfl, rfl, rfl, by decide +kernel, rfl, by decide +kernel, by decide +kernel⟩
theorem sc_subject : FnScope ["_law_one", "_law_other", "_law_way", "e", "_law_found"] ["_law_one", "_law_other", "_law_way"] (defScope s_subject) := ⟨rfl, rfl, rfl, by decide +kernel, rfl, by decide +kernel, by decide +kernel⟩
theorem sc_counted : FnScope ["_law_numbers", "_law_many", "e"] ["_law_numbers", "_law_many"] (defScope s_counted) := ⟨rfl, rfl, rfl, by decide +kernel, rfl, by decide +kernel, by decide +kernel⟩
theorem sc_pair : FnScope ["_law_one", "_law_a", "_law_other", "_law_b", "_law_third", "_law_c", "_law_least", "_law_most", "_law_k"] ["_law_one", "_law_a", "_law_other", "_law_b", "_law_third", "_law_c"] (defScope s_pair) := ⟨rfl, rfl, rfl, by decide +kernel, rfl, by decide +kernel, by decide +kernel⟩
theorem sc_law : FnScope ["_law_script", "_law_pool_here", "_law_count", "_law_a", "_law_b", "_law_c", "_law_size", "_law_d", "_law_one", "_law_other", "_law_third", "_law_unlike", "_law_plain", "_law_sizes", "_law_fifth", "_law_sixth", "_law_turn", "_law_way", "_law_many", "_law_k", "_law_number_here"] ["_law_script"] (defScope s_law) := ⟨rfl, rfl, rfl, by decide +kernel, rfl, by decide +kernel, by decide +kernel⟩
/-- where the top has put what the law uses -/
structure Adr where
  c_Amounts : Addr
  c_GangError : Addr
  c_BadAmounts : Addr
  c_BadShare : Addr
  c_BadSpan : Addr
  f_GangError_init : Addr
  d_GangError_init : FuncData
  f_refuse_lengths : Addr
  d_refuse_lengths : FuncData
  f_Amounts_init : Addr
  d_Amounts_init : FuncData
  f_Amounts_bool : Addr
  d_Amounts_bool : FuncData
  f_Amounts_add : Addr
  d_Amounts_add : FuncData
  f_Amounts_sub : Addr
  d_Amounts_sub : FuncData
  f_Amounts_and : Addr
  d_Amounts_and : FuncData
  f_Amounts_or : Addr
  d_Amounts_or : FuncData
  f_Amounts_mul : Addr
  d_Amounts_mul : FuncData
  f_Amounts_rmul : Addr
  d_Amounts_rmul : FuncData
  f_Amounts_floordiv : Addr
  d_Amounts_floordiv : FuncData
  f_Amounts_mod : Addr
  d_Amounts_mod : FuncData
  f_Amounts_contains : Addr
  d_Amounts_contains : FuncData
  f_Amounts_eq : Addr
  d_Amounts_eq : FuncData
  f_Amounts_getitem : Addr
  d_Amounts_getitem : FuncData
  f_Amounts_len : Addr
  d_Amounts_len : FuncData
  f_Amounts_iter : Addr
  d_Amounts_iter : FuncData
  f_pool : Addr
  d_pool : FuncData
  f_draw : Addr
  d_draw : FuncData
  f_number : Addr
  d_number : FuncData
  f_signed : Addr
  d_signed : FuncData
  f_near : Addr
  d_near : FuncData
  f_row : Addr
  d_row : FuncData
  f_whole : Addr
  d_whole : FuncData
  f_is : Addr
  d_is : FuncData
  f_within : Addr
  d_within : FuncData
  f_subject : Addr
  d_subject : FuncData
  f_counted : Addr
  d_counted : FuncData
  f_pair : Addr
  d_pair : FuncData
  f_law : Addr
  d_law : FuncData
structure Txt (K : PySem.W.Frag) (mg : Str → Option Value) (A : Adr) : Prop where
  n_ValueError : mg "ValueError" = none
  n_abs : mg "abs" = none
  n_all : mg "all" = none
  n_any : mg "any" = none
  n_bool : mg "bool" = none
  n_int : mg "int" = none
  n_isinstance : mg "isinstance" = none
  n_iter : mg "iter" = none
  n_len : mg "len" = none
  n_list : mg "list" = none
  n_max : mg "max" = none
  n_min : mg "min" = none
  n_range : mg "range" = none
  n_tuple : mg "tuple" = none
  n_zip : mg "zip" = none
  g_Amounts : mg "Amounts" = some (.ref A.c_Amounts)
  g_GangError : mg "GangError" = some (.ref A.c_GangError)
  g_BadAmounts : mg "BadAmounts" = some (.ref A.c_BadAmounts)
  g_BadShare : mg "BadShare" = some (.ref A.c_BadShare)
  g_BadSpan : mg "BadSpan" = some (.ref A.c_BadSpan)
  F_GangError_init : Fun K "__init__" "GangError.__init__" s_GangError_init A.f_GangError_init A.d_GangError_init
  b_GangError_init : Binds K A.d_GangError_init ["self", "subject"] []
  me_GangError_init : Meth K A.c_GangError "__init__" A.f_GangError_init
  F_refuse_lengths : Fun K "refuse_lengths" "refuse_lengths" s_refuse_lengths A.f_refuse_lengths A.d_refuse_lengths
  b_refuse_lengths : Binds K A.d_refuse_lengths ["left", "right"] []
  g_refuse_lengths : mg "refuse_lengths" = some (.ref A.f_refuse_lengths)
  F_Amounts_init : Fun K "__init__" "Amounts.__init__" s_Amounts_init A.f_Amounts_init A.d_Amounts_init
  me_Amounts_init : Meth K A.c_Amounts "__init__" A.f_Amounts_init
  F_Amounts_bool : Fun K "__bool__" "Amounts.__bool__" s_Amounts_bool A.f_Amounts_bool A.d_Amounts_bool
  b_Amounts_bool : Binds K A.d_Amounts_bool ["self"] []
  me_Amounts_bool : Meth K A.c_Amounts "__bool__" A.f_Amounts_bool
  F_Amounts_add : Fun K "__add__" "Amounts.__add__" s_Amounts_add A.f_Amounts_add A.d_Amounts_add
  b_Amounts_add : Binds K A.d_Amounts_add ["self", "other"] []
  me_Amounts_add : Meth K A.c_Amounts "__add__" A.f_Amounts_add
  F_Amounts_sub : Fun K "__sub__" "Amounts.__sub__" s_Amounts_sub A.f_Amounts_sub A.d_Amounts_sub
  b_Amounts_sub : Binds K A.d_Amounts_sub ["self", "other"] []
  me_Amounts_sub : Meth K A.c_Amounts "__sub__" A.f_Amounts_sub
  F_Amounts_and : Fun K "__and__" "Amounts.__and__" s_Amounts_and A.f_Amounts_and A.d_Amounts_and
  b_Amounts_and : Binds K A.d_Amounts_and ["self", "other"] []
  me_Amounts_and : Meth K A.c_Amounts "__and__" A.f_Amounts_and
  F_Amounts_or : Fun K "__or__" "Amounts.__or__" s_Amounts_or A.f_Amounts_or A.d_Amounts_or
  b_Amounts_or : Binds K A.d_Amounts_or ["self", "other"] []
  me_Amounts_or : Meth K A.c_Amounts "__or__" A.f_Amounts_or
  F_Amounts_mul : Fun K "__mul__" "Amounts.__mul__" s_Amounts_mul A.f_Amounts_mul A.d_Amounts_mul
  b_Amounts_mul : Binds K A.d_Amounts_mul ["self", "other"] []
  me_Amounts_mul : Meth K A.c_Amounts "__mul__" A.f_Amounts_mul
  F_Amounts_rmul : Fun K "__rmul__" "Amounts.__rmul__" s_Amounts_rmul A.f_Amounts_rmul A.d_Amounts_rmul
  b_Amounts_rmul : Binds K A.d_Amounts_rmul ["self", "other"] []
  me_Amounts_rmul : Meth K A.c_Amounts "__rmul__" A.f_Amounts_rmul
  F_Amounts_floordiv : Fun K "__floordiv__" "Amounts.__floordiv__" s_Amounts_floordiv A.f_Amounts_floordiv A.d_Amounts_floordiv
  b_Amounts_floordiv : Binds K A.d_Amounts_floordiv ["self", "other"] []
  me_Amounts_floordiv : Meth K A.c_Amounts "__floordiv__" A.f_Amounts_floordiv
  F_Amounts_mod : Fun K "__mod__" "Amounts.__mod__" s_Amounts_mod A.f_Amounts_mod A.d_Amounts_mod
  b_Amounts_mod : Binds K A.d_Amounts_mod ["self", "other"] []
  me_Amounts_mod : Meth K A.c_Amounts "__mod__" A.f_Amounts_mod
  F_Amounts_contains : Fun K "__contains__" "Amounts.__contains__" s_Amounts_contains A.f_Amounts_contains A.d_Amounts_contains
  b_Amounts_contains : Binds K A.d_Amounts_contains ["self", "x"] []
  me_Amounts_contains : Meth K A.c_Amounts "__contains__" A.f_Amounts_contains
  F_Amounts_eq : Fun K "__eq__" "Amounts.__eq__" s_Amounts_eq A.f_Amounts_eq A.d_Amounts_eq
  b_Amounts_eq : Binds K A.d_Amounts_eq ["self", "other"] []
  me_Amounts_eq : Meth K A.c_Amounts "__eq__" A.f_Amounts_eq
  F_Amounts_getitem : Fun K "__getitem__" "Amounts.__getitem__" s_Amounts_getitem A.f_Amounts_getitem A.d_Amounts_getitem
  b_Amounts_getitem : Binds K A.d_Amounts_getitem ["self", "at"] []
  fn_Amounts_getitem : PySem.W.fnIn K A.f_Amounts_getitem = true
  me_Amounts_getitem : Meth K A.c_Amounts "__getitem__" A.f_Amounts_getitem
  F_Amounts_len : Fun K "__len__" "Amounts.__len__" s_Amounts_len A.f_Amounts_len A.d_Amounts_len
  b_Amounts_len : Binds K A.d_Amounts_len ["self"] []
  me_Amounts_len : Meth K A.c_Amounts "__len__" A.f_Amounts_len
  F_Amounts_iter : Fun K "__iter__" "Amounts.__iter__" s_Amounts_iter A.f_Amounts_iter A.d_Amounts_iter
  b_Amounts_iter : Binds K A.d_Amounts_iter ["self"] []
  me_Amounts_iter : Meth K A.c_Amounts "__iter__" A.f_Amounts_iter
  F_pool : Fun K "_law_pool" "_law_pool" s_pool A.f_pool A.d_pool
  b_pool : Binds K A.d_pool ["_law_script"] []
  g_pool : mg "_law_pool" = some (.ref A.f_pool)
  F_draw : Fun K "_law_draw" "_law_draw" s_draw A.f_draw A.d_draw
  b_draw : Binds K A.d_draw ["_law_pool_here", "_law_many"] []
  g_draw : mg "_law_draw" = some (.ref A.f_draw)
  F_number : Fun K "_law_number" "_law_number" s_number A.f_number A.d_number
  b_number : Binds K A.d_number ["_law_pool_here", "_law_groups"] []
  g_number : mg "_law_number" = some (.ref A.f_number)
  F_signed : Fun K "_law_signed" "_law_signed" s_signed A.f_signed A.d_signed
  b_signed : Binds K A.d_signed ["_law_pool_here", "_law_groups"] []
  g_signed : mg "_law_signed" = some (.ref A.f_signed)
  F_near : Fun K "_law_near" "_law_near" s_near A.f_near A.d_near
  b_near : Binds K A.d_near ["_law_pool_here", "_law_number_here"] []
  g_near : mg "_law_near" = some (.ref A.f_near)
  F_row : Fun K "_law_row" "_law_row" s_row A.f_row A.d_row
  b_row : Binds K A.d_row ["_law_numbers"] []
  g_row : mg "_law_row" = some (.ref A.f_row)
  F_whole : Fun K "_law_whole" "_law_whole" s_whole A.f_whole A.d_whole
  b_whole : Binds K A.d_whole ["_law_value"] []
  g_whole : mg "_law_whole" = some (.ref A.f_whole)
  F_is : Fun K "_law_is" "_law_is" s_is A.f_is A.d_is
  b_is : Binds K A.d_is ["_law_row_here", "_law_numbers"] []
  g_is : mg "_law_is" = some (.ref A.f_is)
  F_within : Fun K "_law_within" "_law_within" s_within A.f_within A.d_within
  b_within : Binds K A.d_within ["_law_inner", "_law_outer"] []
  g_within : mg "_law_within" = some (.ref A.f_within)
  F_subject : Fun K "_law_subject" "_law_subject" s_subject A.f_subject A.d_subject
  b_subject : Binds K A.d_subject ["_law_one", "_law_other", "_law_way"] []
  g_subject : mg "_law_subject" = some (.ref A.f_subject)
  F_counted : Fun K "_law_counted" "_law_counted" s_counted A.f_counted A.d_counted
  b_counted : Binds K A.d_counted ["_law_numbers", "_law_many"] []
  g_counted : mg "_law_counted" = some (.ref A.f_counted)
  F_pair : Fun K "_law_pair" "_law_pair" s_pair A.f_pair A.d_pair
  b_pair : Binds K A.d_pair ["_law_one", "_law_a", "_law_other", "_law_b", "_law_third", "_law_c"] []
  g_pair : mg "_law_pair" = some (.ref A.f_pair)
  F_law : Fun K "law" "law" s_law A.f_law A.d_law
  b_law : Binds K A.d_law ["_law_script"] []
  g_law : mg "law" = some (.ref A.f_law)
  cl_Amounts : Cls K A.c_Amounts
  mk_Amounts : Mk K A.c_Amounts A.f_Amounts_init
  sf_Amounts : PySem.W.selfFirst K A.c_Amounts = true
  k1_Amounts : PySem.W.findIn K (.ref A.c_Amounts) "__class__" = some (some (.builtin "object.__class__"))
  k4_Amounts : PySem.W.mroIn K A.c_Amounts (.type "object") = some true
  no_Amounts_numbers : NoAttr K A.c_Amounts "numbers"
  i_Amounts_add : OwnI K A.c_Amounts .Add
  i_Amounts_sub : OwnI K A.c_Amounts .Sub
  i_Amounts_and : OwnI K A.c_Amounts .BitAnd
  i_Amounts_or : OwnI K A.c_Amounts .BitOr
  i_Amounts_floordiv : OwnI K A.c_Amounts .FloorDiv
  i_Amounts_mod : OwnI K A.c_Amounts .Mod
  i_Amounts_mul : OwnI K A.c_Amounts .Mult
  kg : PySem.W.specialIn K (.builtin "object.__class__") "__get__" = some (some (.builtin "getset_descriptor.__get__"))
  kt : PySem.W.takesIn K (.builtin "object.__class__") = some true
  x_GangError : GExc K A.c_GangError A.f_GangError_init
  xf_GangError : XfC K A.c_GangError
  xc_GangError : ExcC K A.c_GangError
  xm_GangError : PySem.W.exmOne K (.ref A.c_GangError) (.ref A.c_GangError) = some true
  x_BadAmounts : GExc K A.c_BadAmounts A.f_GangError_init
  xf_BadAmounts : XfC K A.c_BadAmounts
  xc_BadAmounts : ExcC K A.c_BadAmounts
  xm_BadAmounts : PySem.W.exmOne K (.ref A.c_BadAmounts) (.ref A.c_GangError) = some true
  x_BadShare : GExc K A.c_BadShare A.f_GangError_init
  xf_BadShare : XfC K A.c_BadShare
  xc_BadShare : ExcC K A.c_BadShare
  xm_BadShare : PySem.W.exmOne K (.ref A.c_BadShare) (.ref A.c_GangError) = some true
  x_BadSpan : GExc K A.c_BadSpan A.f_GangError_init
  xf_BadSpan : XfC K A.c_BadSpan
  xc_BadSpan : ExcC K A.c_BadSpan
  xm_BadSpan : PySem.W.exmOne K (.ref A.c_BadSpan) (.ref A.c_GangError) = some true
  si_Amounts : PySem.W.subIn K (.ref A.c_Amounts) (.type "int") = some false
  st_int_Amounts : PySem.W.subIn K (.type "int") (.ref A.c_Amounts) = some false
  kt_int_Amounts : PySem.W.kitOne K (.type "int") (.ref A.c_Amounts) = some false
  kt_BadAmounts_BadAmounts : PySem.W.kitOne K (.ref A.c_BadAmounts) (.ref A.c_BadAmounts) = some true
  kt_BadAmounts_ValueError : PySem.W.kitOne K (.ref A.c_BadAmounts) (.type "ValueError") = some true
  kt_BadAmounts_BadShare : PySem.W.kitOne K (.ref A.c_BadAmounts) (.ref A.c_BadShare) = some false
  kt_BadAmounts_BadSpan : PySem.W.kitOne K (.ref A.c_BadAmounts) (.ref A.c_BadSpan) = some false
/-- fewer than n bits -/
def Bits (n : Nat) (x : Int) : Prop := x.natAbs < 2 ^ n
theorem Bits.log {n : Nat} {x : Int} (h : Bits n x) (h0 : 0 < n) : x.natAbs.log2 < n := PySem.Flt.log2_lt_of h0 h
theorem Bits.le {n : Nat} {x y : Int} (h : Bits n y) (e : x.natAbs ≤ y.natAbs) : Bits n x := Nat.lt_of_le_of_lt e h
theorem Bits.up {n m : Nat} {x : Int} (h : Bits n x) (e : n ≤ m) : Bits m x := Nat.lt_of_lt_of_le h (Nat.pow_le_pow_right (by decide) e)
theorem Bits.mul {n m : Nat} {x y : Int} (h : Bits n x) (h' : Bits m y) : Bits (n + m) (x * y) := by
  unfold Bits
  rw [Int.natAbs_mul, Nat.pow_add]
  exact Nat.mul_lt_mul'' h h'
theorem Bits.neg {n : Nat} {x : Int} (h : Bits n x) : Bits n (-x) := by unfold Bits; rw [Int.natAbs_neg]; exact h
theorem Bits.abs {n : Nat} {x : Int} (h : Bits n x) : Bits n (if x < 0 then -x else x) := by split; exact h.neg; exact h
theorem Bits.one {n : Nat} (h : 0 < n) : Bits n 1 := by
  show (1 : Nat) < 2 ^ n
  exact Nat.one_lt_two_pow (by omega)
theorem Bits.ok {n m : Nat} {x y : Int} (h : Bits n x) (h' : Bits m y) (h0 : 0 < n) (h1 : 0 < m) (e : n + m ≤ 1000000) : IntMulOk x y := by
  have a := h.log h0
  have b := h'.log h1
  exact CMulW.ok (by unfold CMulW; omega)
def spNumber : Sp := fun vs H Q _ => ∃ (p : Addr) (g : Nat), vs = [.ref p, .int g] ∧ PoolAt H p ∧ 1 ≤ g ∧ g ≤ 10 ∧ ∀ r H', 0 ≤ r → r < 1000 ^ g → PoolAt H' p → SameBut p H H' → Q (.int r) H'
def spSigned : Sp := fun vs H Q _ => ∃ (p : Addr) (g : Nat), vs = [.ref p, .int g] ∧ PoolAt H p ∧ 1 ≤ g ∧ g ≤ 10 ∧ ∀ r H', Bits (10 * g) r → PoolAt H' p → SameBut p H H' → Q (.int r) H'
theorem bits_of {r : Int} {g : Nat} (h0 : 0 ≤ r) (h : r < 1000 ^ g) : Bits (10 * g) r := by
  have e : ∀ k : Nat, (1000 : Int) ^ k ≤ ((2 ^ (10 * k) : Nat) : Int) := by
    intro k
    induction k with
    | zero => decide
    | succ k ih =>
      rw [Int.pow_succ, Nat.mul_succ, Nat.pow_add]
      have : (2 : Nat) ^ 10 = 1024 := by decide
      rw [this, Int.natCast_mul]
      have p : (0 : Int) ≤ ((2 ^ (10 * k) : Nat) : Int) := Int.natCast_nonneg _
      generalize ((2 ^ (10 * k) : Nat) : Int) = Z at *
      generalize (1000 : Int) ^ k = Y at *
      omega
  have := e g
  unfold Bits
  omega
def spWhole : Sp := fun vs H Q _ => ∃ i : Int, vs = [.int i] ∧ Q (.bl true) H

def afl (t : Addr) : List (Str × V) := putF "numbers" (.ref t) []
theorem afl_numbers (t : Addr) : (afl t).lookup ("numbers" : Str) = some (.ref t) := by
  unfold afl; rw [lookup_putF, if_pos rfl]
def AmtAt (A : Adr) (H : Hp) (x : Addr) (xs : List Int) : Prop := ∃ dx t, H x = some (.ins A.c_Amounts dx (afl t)) ∧ H t = some (.tup (xs.map V.int))
theorem AmtAt.mono {A : Adr} {H H' : Hp} {x : Addr} {xs : List Int} (h : AmtAt A H x xs) (k : Same H H') : AmtAt A H' x xs := let ⟨dx, t, a, b⟩ := h; ⟨dx, t, k _ _ a, k _ _ b⟩
def Few {α : Type} (xs : List α) : Prop := 1 ≤ xs.length ∧ xs.length ≤ 3
def NewA (A : Adr) (Q : VK) (H : Hp) (zs : List Int) : Prop := ∀ x H', Same H H' → AmtAt A H' x zs → Q (.ref x) H'
theorem NewA.from {A : Adr} {Q : VK} {H H1 : Hp} {zs : List Int} (k : NewA A Q H zs) (s : Same H H1) : NewA A Q H1 zs := fun x H' s' hx => k x H' (s.trans s') hx
def RefA (A : Adr) (E : XK) (H : Hp) (ys : List Int) : Prop := ∀ t d H', Same H H' → H' t = some (.tup (ys.map V.int)) → H' d = some (.xd [(("subject" : Str), .ref t)]) → E (.ref A.c_BadAmounts) (some d) H'
def spAI (A : Adr) : Sp := fun vs H Q E => ∃ (p t dx : Addr) (ys : List V), vs = [.ref p, .ref t] ∧ H p = some (.ins A.c_Amounts dx []) ∧ H t = some (.tup ys) ∧ (Few ys → Q .non (upd H p (.ins A.c_Amounts dx (afl t)))) ∧ (¬ Few ys → ∀ d H', Same H H' → H' d = some (.xd [(("subject" : Str), .ref t)]) → E (.ref A.c_BadAmounts) (some d) H')
def spRL (A : Adr) : Sp := fun vs H Q E => ∃ (a b : Addr) (xs ys : List Int), vs = [.ref a, .ref b] ∧ AmtAt A H a xs ∧ AmtAt A H b ys ∧ (xs.length = ys.length → Q .non H) ∧ (xs.length ≠ ys.length → RefA A E H ys)
def spBin (A : Adr) (f : Int → Int → Int) : Sp := fun vs H Q E => ∃ (a b : Addr) (xs ys : List Int), vs = [.ref a, .ref b] ∧ AmtAt A H a xs ∧ AmtAt A H b ys ∧ Few xs ∧ (xs.length = ys.length → NewA A Q H (List.zipWith f xs ys)) ∧ (xs.length ≠ ys.length → RefA A E H ys)
def spOff (A : Adr) : Sp := fun vs H Q E => ∃ (a b : Addr) (xs ys : List Int), vs = [.ref a, .ref b] ∧ AmtAt A H a xs ∧ AmtAt A H b ys ∧ xs.length ≠ ys.length ∧ RefA A E H ys
def mn (i j : Int) : Int := if j < i then j else i
def mx (i j : Int) : Int := if j > i then j else i
def wi (ys xs : List Int) : Bool := (List.zipWith (fun i j => decide (i ≤ j)) ys xs).all id
def spIn (A : Adr) : Sp := fun vs H Q E => ∃ (a b : Addr) (xs ys : List Int), vs = [.ref a, .ref b] ∧ AmtAt A H a xs ∧ AmtAt A H b ys ∧ Few xs ∧ (xs.length = ys.length → ∀ H', Same H H' → Q (.bl (wi ys xs)) H') ∧ (xs.length ≠ ys.length → RefA A E H ys)
def spBool (A : Adr) : Sp := fun vs H Q _ => ∃ (a : Addr) (xs : List Int), vs = [.ref a] ∧ AmtAt A H a xs ∧ Few xs ∧ ∀ H', Same H H' → Q (.bl (xs.any fun i => !decide (V.int i = V.int 0))) H'
def spEq (A : Adr) : Sp := fun vs H Q _ => ∃ (a b : Addr) (xs ys : List Int), vs = [.ref a, .ref b] ∧ AmtAt A H a xs ∧ AmtAt A H b ys ∧ Q (.bl (decide (xs = ys))) H
def spGet (A : Adr) : Sp := fun vs H Q _ => ∃ (a : Addr) (xs : List Int) (i : Nat) (z : Int), vs = [.ref a, .int (0 + (i : Int))] ∧ AmtAt A H a xs ∧ xs[i]? = some z ∧ Q (.int z) H
def spLen (A : Adr) : Sp := fun vs H Q _ => ∃ (a dx t : Addr) (ys : List V), vs = [.ref a] ∧ H a = some (.ins A.c_Amounts dx (afl t)) ∧ H t = some (.tup ys) ∧ Q (.int ys.length) H
def spIter (A : Adr) : Sp := fun vs H Q _ => ∃ (a dx t : Addr) (ys : List V), vs = [.ref a] ∧ H a = some (.ins A.c_Amounts dx (afl t)) ∧ H t = some (.tup ys) ∧ ∀ it, H it = none → Q (.ref it) (upd H it (ItT t it 0))
section
variable {A : Adr} {H : Hp} {Q : VK} {E : XK}
theorem amt_any {ys : List V} (hz : ys.length ≤ 1000) (k1 : Few ys → ∀ x t dx H', Same H H' → H' x = some (.ins A.c_Amounts dx (afl t)) → H' t = some (.tup ys) → Q (.ref x) H')
    (k2 : ¬ Few ys → ∀ t d H', Same H H' → H' t = some (.tup ys) → H' d = some (.xd [(("subject" : Str), .ref t)]) → E (.ref A.c_BadAmounts) (some d) H') :
    ∀ x dx, H x = none → H dx = none → dx ≠ x → spStar 1 (spAI A) (V.ref x :: ys) (upd (upd H dx (.own x)) x (.ins A.c_Amounts dx [])) (fun v H2 => v = .non ∧ Q (.ref x) H2) E := by
  intro x dx hx hd hne
  refine ⟨[.ref x], ys, rfl, rfl, by rw [sizeLine_eq]; omega, fun p hp => ⟨x, p, dx, ys, rfl, ?_, upd_same, fun g => ⟨rfl, k1 g x p dx _ ?_ upd_same ?_⟩, fun g d H' s1 e1 => k2 g p d H' ?_ (s1 _ _ upd_same) e1⟩⟩
  all_goals have npx : x ≠ p := (ne_of_none (H := upd (upd H dx (.own x)) x (.ins A.c_Amounts dx [])) upd_same hp)
  all_goals have s0 : Same H (upd (upd (upd H dx (.own x)) x (.ins A.c_Amounts dx [])) p (.tup ys)) := ((same_new hd).trans (same_new (by rw [upd_ne hne.symm]; exact hx))).trans (same_new hp)
  · rw [upd_ne npx]; exact upd_same
  · exact same_put s0 hx
  · rw [upd_ne npx.symm]; exact upd_same
  · exact s0.trans s1
theorem amt_made {xs : List Int} (hg : Few xs) (k : NewA A Q H xs) :
    ∀ x dx, H x = none → H dx = none → dx ≠ x → spStar 1 (spAI A) (V.ref x :: xs.map V.int) (upd (upd H dx (.own x)) x (.ins A.c_Amounts dx [])) (fun v H2 => v = .non ∧ Q (.ref x) H2) E :=
  amt_any (by rw [List.length_map]; have := hg.2; omega) (fun _ x t dx H' s a b => k x H' s ⟨dx, t, a, b⟩) (fun g => absurd (show Few (xs.map V.int) by unfold Few at *; rw [List.length_map]; exact hg) g)
theorem listIt {K : PySem.W.Frag} {x : Addr} {xs : List Int} (hX : AmtAt A H x xs) (hg : Few xs) (k : ∀ l H', Same H H' → H' l = some (.lst (xs.map V.int)) → Q (.ref l) H') : rListIt K A.c_Amounts (spIter A) (spLen A) [.ref x] H Q := by
  obtain ⟨dx, t, h1, h2⟩ := id hX
  refine ⟨x, dx, t, _, xs.map V.int, rfl, h1, SqT.of h2, by rw [List.length_map]; have := hg.2; omega, fun l hl => ?_⟩
  have s1 := same_new (o := .lst []) hl
  refine ⟨⟨x, dx, t, _, rfl, s1 _ _ h1, s1 _ _ h2, fun it hit => ⟨it, rfl, hit, rfl⟩⟩, fun it hit hne => ?_, fun it hit hne => ?_⟩
  · have s2 := s1.trans (same_new (o := ItT t it 0) (by rw [upd_ne hne]; exact hit))
    exact ⟨x, dx, t, _, rfl, s2 _ _ h1, s2 _ _ h2, rfl, rfl⟩
  · refine k l _ (same_put (same_put (Same.refl _) hl) hit) ?_
    rw [upd_ne hne.symm]; exact upd_same
end

def spNear : Sp := fun vs H Q _ => ∃ (p : Addr) (n : Int), vs = [.ref p, .int n] ∧ PoolAt H p ∧ ∀ r H', PoolAt H' p → SameBut p H H' → Q (.int r) H'
def spRow (A : Adr) : Sp := fun vs H Q _ => ∃ (l : Addr) (xs : List Int), vs = [.ref l] ∧ H l = some (.lst (xs.map V.int)) ∧ Few xs ∧ NewA A Q H xs
def spIs (A : Adr) : Sp := fun vs H Q _ => ∃ (x l : Addr) (xs : List Int), vs = [.ref x, .ref l] ∧ AmtAt A H x xs ∧ H l = some (.lst (xs.map V.int)) ∧ Few xs ∧ ∀ H', Same H H' → Q (.bl true) H'
def spWithin : Sp := fun vs H Q _ => ∃ (l m : Addr) (xs ys : List Int), vs = [.ref l, .ref m] ∧ H l = some (.lst (xs.map V.int)) ∧ H m = some (.lst (ys.map V.int)) ∧ Few xs ∧ xs.length = ys.length ∧ Q (.bl (wi xs ys)) H
def spSubject (A : Adr) : Sp := fun vs H Q _ => ∃ (x y : Addr) (xs ys : List Int) (w : Int), vs = [.ref x, .ref y, .int w] ∧ AmtAt A H x xs ∧ AmtAt A H y ys ∧ Few xs ∧ xs.length ≠ ys.length ∧ ∀ l t H', Same H H' → H' l = some (.lst [.ref t]) → H' t = some (.tup (ys.map V.int)) → Q (.ref l) H'
def spCounted (A : Adr) : Sp := fun vs H Q _ => ∃ (l : Addr) (xs : List Int) (m : Int), vs = [.ref l, .int m] ∧ H l = some (.lst (xs.map V.int)) ∧ xs.length = 5 ∧ (m = 0 ∨ m = 4 ∨ m = 5) ∧ ∀ H', Same H H' → Q (.bl true) H'
def spPair (A : Adr) : Sp := fun vs H Q _ => ∃ (x a y b z c : Addr) (xs ys zs : List Int), vs = [.ref x, .ref a, .ref y, .ref b, .ref z, .ref c] ∧ AmtAt A H x xs ∧ AmtAt A H y ys ∧ AmtAt A H z zs ∧ H a = some (.lst (xs.map V.int)) ∧ H b = some (.lst (ys.map V.int)) ∧ H c = some (.lst (zs.map V.int)) ∧ Few xs ∧ xs.length = ys.length ∧ xs.length = zs.length ∧ ∀ H', Same H H' → Q (.bl true) H'
def spLaw (K : PySem.W.Frag) : Sp := fun vs H Q _ => ∃ (a : Addr) (ns : List Int), vs = [.ref a] ∧ SqL K H a (ns.map V.int) ∧ ns.length ≤ 63 ∧ (∀ z ∈ ns, Builtin.Int.intBits z ≤ 1048576) ∧ ∀ H', Q (.bl true) H'
abbrev lawLvl : Nat := 12

theorem few_cases {xs : List Int} (h : Few xs) : (∃ a, xs = [a]) ∨ (∃ a b, xs = [a, b]) ∨ ∃ a b c, xs = [a, b, c] := by
  match xs, h with
  | [a], _ => exact .inl ⟨a, rfl⟩
  | [a, b], _ => exact .inr (.inl ⟨a, b, rfl⟩)
  | [a, b, c], _ => exact .inr (.inr ⟨a, b, c, rfl⟩)
  | [], h => exact absurd h.1 (by decide)
  | _ :: _ :: _ :: _ :: _, h => exact absurd h.2 (by simp)
theorem ne_len {n m : Int} (h : n ≠ m) (e : V.int n = V.int m) : False := h (by injection e)
theorem any_zero : ∀ xs : List Int, (xs.any fun i => !decide (V.int i = V.int 0)) = !decide (xs = List.replicate xs.length 0)
  | [] => rfl
  | x :: xs => by
    rw [List.any_cons, any_zero xs, List.length_cons, List.replicate_succ]
    by_cases h : x = 0
    · subst h; simp
    · have e : decide (V.int x = V.int 0) = false := decide_eq_false (fun z => h (by injection z))
      rw [e]; simp [h]
theorem wi_true {xs ys : List Int} (h : ∀ (j : Nat) (a b : Int), xs[j]? = some a → ys[j]? = some b → a ≤ b) : wi xs ys = true := by
  unfold wi
  rw [List.all_eq_true]
  intro b hb
  obtain ⟨j, hj⟩ := List.mem_iff_getElem?.mp hb
  rw [List.getElem?_zipWith] at hj
  cases e1 : xs[j]? with
  | none => rw [e1] at hj; cases hj
  | some a =>
    cases e2 : ys[j]? with
    | none => rw [e1, e2] at hj; cases hj
    | some c =>
      rw [e1, e2] at hj
      have := Option.some.inj hj
      rw [← this]
      exact decide_eq_true (h j a c e1 e2)
theorem wi_false {xs ys : List Int} {j : Nat} {a b : Int} (e1 : xs[j]? = some a) (e2 : ys[j]? = some b) (h : ¬ a ≤ b) : wi xs ys = false := by
  unfold wi
  rw [List.all_eq_false]
  refine ⟨decide (a ≤ b), List.mem_iff_getElem?.mpr ⟨j, by rw [List.getElem?_zipWith, e1, e2]⟩, by simp [h]⟩
theorem rep0 (n : Nat) : (List.replicate (n : Int).toNat [V.int 0]).flatten = (List.replicate n (0 : Int)).map V.int := by
  rw [Int.toNat_natCast]
  induction n with
  | zero => rfl
  | succ n ih => rw [List.replicate_succ, List.flatten_cons, ih, List.replicate_succ, List.map_cons]; rfl

theorem amt_off {A : Adr} {H : Hp} {Q : VK} {E : XK} {ys : List V} (hz : ys.length ≤ 1000) (g : ¬ Few ys) (k2 : ∀ t d H', Same H H' → H' t = some (.tup ys) → H' d = some (.xd [(("subject" : Str), .ref t)]) → E (.ref A.c_BadAmounts) (some d) H') (x dx : Addr) (hx : H x = none) (hd : H dx = none) (hne : dx ≠ x) :
    spStar 1 (spAI A) (V.ref x :: ys) (upd (upd H dx (.own x)) x (.ins A.c_Amounts dx [])) Q E := by
  refine ⟨[.ref x], ys, rfl, rfl, by rw [sizeLine_eq]; omega, fun p hp => ⟨x, p, dx, ys, rfl, ?_, upd_same, fun g' => absurd g' g, fun g d H' s1 e1 => k2 p d H' ?_ (s1 _ _ upd_same) e1⟩⟩
  all_goals have npx : x ≠ p := (ne_of_none (H := upd (upd H dx (.own x)) x (.ins A.c_Amounts dx [])) upd_same hp)
  all_goals have s0 : Same H (upd (upd (upd H dx (.own x)) x (.ins A.c_Amounts dx [])) p (.tup ys)) := ((same_new hd).trans (same_new (by rw [upd_ne hne.symm]; exact hx))).trans (same_new hp)
  · rw [upd_ne npx]; exact upd_same
  · exact s0.trans s1
theorem kit_any2 {K : PySem.W.Frag} {t a b : Value} (h1 : PySem.W.kitOne K t a = some false) (h2 : PySem.W.kitOne K t b = some false) : PySem.W.kitAny K t [a, b] = some false := by
  unfold PySem.W.kitAny
  rw [h1]
  unfold PySem.W.kitAny
  rw [h2]
  rfl
theorem qt' {Q : VK} {H : Hp} {p : Prop} [Decidable p] (c : p) (h : Q (.bl true) H) : Q (.bl (decide p)) H := by
  rw [decide_eq_true c]; exact h
theorem dec_mn (c x y : Int) : decide (c ≤ mn x y) = (decide (c ≤ x) && decide (c ≤ y)) := by
  rw [← Bool.decide_and]
  refine decide_eq_decide.mpr ?_
  unfold mn
  split <;> omega
theorem dec_mx (c x y : Int) : decide (mx x y ≤ c) = (decide (x ≤ c) && decide (y ≤ c)) := by
  rw [← Bool.decide_and]
  refine decide_eq_decide.mpr ?_
  unfold mx
  split <;> omega
theorem wi_cons (a b : Int) (xs ys : List Int) : wi (a :: xs) (b :: ys) = (decide (a ≤ b) && wi xs ys) := rfl
theorem wi_mn : ∀ (zs xs ys : List Int), xs.length = ys.length → xs.length = zs.length → wi zs (List.zipWith mn xs ys) = (wi zs xs && wi zs ys)
  | [], [], [], _, _ => rfl
  | c :: zs, x :: xs, y :: ys, h1, h2 => by
    rw [List.zipWith_cons_cons, wi_cons, wi_cons, wi_cons, wi_mn zs xs ys (by simpa using h1) (by simpa using h2), dec_mn]
    cases decide (c ≤ x) <;> cases decide (c ≤ y) <;> cases wi zs xs <;> cases wi zs ys <;> rfl
theorem wi_mx : ∀ (zs xs ys : List Int), xs.length = ys.length → xs.length = zs.length → wi (List.zipWith mx xs ys) zs = (wi xs zs && wi ys zs)
  | [], [], [], _, _ => rfl
  | c :: zs, x :: xs, y :: ys, h1, h2 => by
    rw [List.zipWith_cons_cons, wi_cons, wi_cons, wi_cons, wi_mx zs xs ys (by simpa using h1) (by simpa using h2), dec_mx]
    cases decide (x ≤ c) <;> cases decide (y ≤ c) <;> cases wi xs zs <;> cases wi ys zs <;> rfl
theorem few_zip {f : Int → Int → Int} {xs ys : List Int} (h : Few xs) (e : xs.length = ys.length) : Few (List.zipWith f xs ys) := by
  unfold Few at *
  rw [List.length_zipWith]
  omega

theorem but_put {p D : Addr} {H0 H' : Hp} {o : HO} (s : SameBut p H0 H') (hD : H0 D = none) : SameBut p H0 (upd H' D o) := fun b u n e => by
  rw [upd_ne (fun z => by rw [z, hD] at e; cases e)]
  exact s b u n e
theorem pool_put {H : Hp} {p D : Addr} {o : HO} (h : PoolAt H p) (n : D ≠ p) : PoolAt (upd H D o) p := by
  obtain ⟨q1, q2, q3, q4, q5, e, l5, z5⟩ := h
  exact .of (by rw [upd_ne n.symm]; exact e) l5 z5
theorem few_of {xs : List Int} {c : Int} (h : xs.length = (1 + c).toNat) (h0 : 0 ≤ c) (h1 : c < 3) : Few xs := by unfold Few; omega
theorem few_len {xs ys : List Int} (h : Few xs) (e : ys.length = xs.length) : Few ys := by unfold Few at *; omega
theorem len_map {xs : List Int} {n : Nat} (h : n = (xs.map V.int).length) : n = xs.length := by rw [List.length_map] at h; exact h
theorem tup1 {K : PySem.W.Frag} {H : Hp} {l t : Addr} {ys : List Int} (h : H l = some (.lst [.ref t])) (ht : H t = some (.tup (ys.map V.int))) : Dp K H (.ref l) (.list [.tuple (ys.map PyData.int)]) := .lst (SqL.of h) (.cons (.tup (SqT.of ht) (dpInts ys)) .nil)
theorem eqv1 (ys : List Int) : PyData.eqv (.list [.tuple (ys.map PyData.int)]) (.list [.tuple (ys.map PyData.int)]) = true := by
  simp only [PyData.eqv, PyData.eqvAll]
  rw [eqvInts ys ys]
  simp
theorem sh1 (ys : List Int) : SeqAt.shaped (.list [.tuple (ys.map PyData.int)]) = true := by
  unfold SeqAt.shaped
  simp only [PyData.canLay0, PyData.canLayAll0, PyData.depth, PyData.depthAll, layInts, depInts]
  rfl

theorem cut5 (ys : List V) (h : 5 ≤ ys.length) : cutV ys none (some 5) = ys.take 5 := by
  unfold cutV
  have e1 : HT.sIx ys.length 0 none = 0 := rfl
  have e2 : HT.sIx ys.length ys.length (some 5) = 5 := by
    unfold HT.sIx
    simp
    omega
  rw [e1, e2, List.drop_zero]

section
variable {P : Program} {w : World} {K : PySem.W.Frag} {mg : Str → Option Value} {base : Heap} {A : Adr}
theorem ok_GangError_init (T : Txt K mg A) : FnOk P w K mg base CX0 1 A.f_GangError_init A.d_GangError_init ["self", "subject"] (spGI K) := by
  refine T.F_GangError_init.ok sc_GangError_init (fun vs H Q E h => ?_) (fun cdv Ar outer s H vs Q E hr h => ?_)
  · obtain ⟨a, C, v, rfl, _⟩ := h
    rfl
  · obtain ⟨a, C, v, rfl, hT, hn, ha, k⟩ := h
    refine ⟨_, (pss_one (ps_ost (pv 0) (pv 1))), ?_⟩
    exact ⟨_, rfl, _, rfl, a, C, rfl, hT, hn, .inl ⟨ha, k⟩⟩
theorem ok_refuse_lengths (T : Txt K mg A) : FnOk P w K mg base (L2.CX P w) 3 A.f_refuse_lengths A.d_refuse_lengths ["left", "right"] (spRL A) := by
  refine T.F_refuse_lengths.okX sc_refuse_lengths (fun vs H Q E h => ?_) (fun cdv Ar outer s H vs Q E hr h => ?_)
  · obtain ⟨a, b, xs, ys, rfl, _⟩ := h
    rfl
  · obtain ⟨a, b, xs, ys, rfl, hX, hY, kG, kB⟩ := h
    refine ⟨_, (pss_one (ps_if (pt_cmpR op_ne (pe_callB (call_len_seqK K) (by rfl) T.n_len (by decide +kernel) (pa_cons (pe_fldK K (pv 0) rfl) pa_nil)) (pe_callB (call_len_seqK K) (by rfl) T.n_len (by decide +kernel) (pa_cons (pe_fldK K (pv 1) rfl) pa_nil)) (nomark _)) (pss_one (ps_raiseG rfl T.x_BadAmounts (ok_GangError_init T) (hr.mono (by decide)) T.b_GangError_init rfl T.g_BadAmounts (takes_of rfl rfl rfl rfl) (pe_fldK K (pv 1) rfl))) pss_nil)), ?_⟩
    obtain ⟨dx, t, hx, ht⟩ := id hX
    obtain ⟨dy, t2, hy, ht2⟩ := id hY
    refine ⟨_, rfl, a, A.c_Amounts, dx, _, _, rfl, hx, T.cl_Amounts, T.no_Amounts_numbers, afl_numbers _, t, _, rfl, .inr (SqT.of ht), _, rfl, b, A.c_Amounts, dy, _, _, rfl, hy, T.cl_Amounts, T.no_Amounts_numbers, afl_numbers _, t2, _, rfl, .inr (SqT.of ht2), rfl, _, rfl, ?_⟩
    have e : (V.int ((xs.map V.int).length : Int) = V.int ((ys.map V.int).length : Int)) ↔ xs.length = ys.length := by rw [V.int.injEq, List.length_map, List.length_map]; omega
    refine iteDN (fun c => kG (e.mp c)) (fun c => ?_)
    refine ⟨_, rfl, b, A.c_Amounts, dy, _, _, rfl, hy, T.cl_Amounts, T.no_Amounts_numbers, afl_numbers _, raiseG_in T.x_BadAmounts fun d hd => ?_⟩
    exact kB (fun z => c (e.mpr z)) t2 d _ (same_new hd) (same_new hd _ _ ht2) upd_same
theorem ok_Amounts_init (T : Txt K mg A) : FnR P w K mg base (L2.CX P w) 3 A.f_Amounts_init (spStar 1 (spAI A)) := by
  refine T.F_Amounts_init.okStar (p1 := "self") (pv := "numbers") sc_Amounts_init (fun kV doc pm an cdv ct us rest hu => match us, rest, hu with | [a], [], _ => rfl | [a], r :: rs, _ => rfl) (fun cdv Ar outer s H vs Q E hr h => ?_)
  obtain ⟨p, t, dx, ys, rfl, hp, ht, kG, kB⟩ := h
  refine ⟨_, (pss_cons (ps_if (pt_not (pt_chain op_le op_le pe_int (pe_callB (call_len_seqK K) (by rfl) T.n_len (by decide +kernel) (pa_cons (pv 1) pa_nil)) pe_int)) (pss_one (ps_raiseG rfl T.x_BadAmounts (ok_GangError_init T) (hr.mono (by decide)) T.b_GangError_init rfl T.g_BadAmounts (takes_of rfl rfl rfl rfl) (pv 1))) pss_nil)
      (pss_one (ps_fld (pv 0) (pv 1) rfl))), ?_⟩
  refine ⟨_, rfl, t, _, rfl, .inr (SqT.of ht), _, _, rfl, rfl, _, rfl, ?_⟩
  refine iteD (fun c1 => ?_) (fun c1 => ?_)
  · refine ⟨_, _, rfl, rfl, _, rfl, ?_⟩
    refine iteDN (fun c2 => ?_) (fun c2 => ?_)
    · exact ⟨_, rfl, _, rfl, p, A.c_Amounts, dx, _, rfl, hp, T.cl_Amounts, T.no_Amounts_numbers, (by show 0 < 1000; decide), kG ⟨by omega, by omega⟩⟩
    · exact ⟨_, rfl, raiseG_in T.x_BadAmounts fun d hd => kB (fun g => c2 (by have := g.2; omega)) d _ (same_new hd) upd_same⟩
  · refine ⟨_, rfl, iteT ?_⟩
    exact ⟨_, rfl, raiseG_in T.x_BadAmounts fun d hd => kB (fun g => c1 (by have := g.1; omega)) d _ (same_new hd) upd_same⟩
theorem ok_Amounts_bool (T : Txt K mg A) : FnOk P w K mg base CX0 1 A.f_Amounts_bool A.d_Amounts_bool ["self"] (spBool A) := by
  refine T.F_Amounts_bool.ok sc_Amounts_bool (fun vs H Q E h => ?_) (fun cdv Ar outer s H vs Q E hr h => ?_)
  · obtain ⟨a, xs, rfl, _⟩ := h
    rfl
  · obtain ⟨a, xs, rfl, hX, hg, k⟩ := h
    refine ⟨_, (pss_one (ps_ret (pe_callB (cr_any rfl) (by rfl) T.n_any (by decide +kernel) (pa_cons (pe_lc (own := [("number", 1)]) (g := gName 1) (tt := tYes) rfl sc_Amounts_bool.nd (pi_tupK K (pe_fldK K (pv 0) rfl)) (blkOk_by (N := ["self", "number"]) (sc := defScope s_Amounts_bool) (by decide +kernel)) (fun _ _ _ _ _ => (pg_name (i := 1) sc_Amounts_bool.nd rfl (Or.inl rfl))) (fun _ _ _ _ _ => pts_nil) (fun _ _ _ _ _ => (pe_cmpR op_ne (pv 1) pe_int (nomark _)))) pa_nil)))), ?_⟩
    obtain ⟨dx, t, hx, ht⟩ := id hX
    refine ⟨_, rfl, a, A.c_Amounts, dx, _, _, rfl, hx, T.cl_Amounts, T.no_Amounts_numbers, afl_numbers _, t, rfl, ⟨_, SqT.of ht⟩, ?_⟩
    intro D hD
    refine lc_tup (fun i H' => Same H H' ∧ H' D = some (.lst (((xs.map fun i => !decide (V.int i = V.int 0)).take i).map V.bl))) ⟨same_new hD, upd_same⟩ (fun i H' hi h => SqT.of (h.1 _ _ ht)) ?_ ?_
    · rintro i x H' hi ⟨s', hD'⟩
      obtain ⟨i1, g1, rfl⟩ := getMap hi
      refine ⟨rfl, ?_⟩
      refine ⟨_, rfl, rfl, _, hD', small1000 (by rw [List.length_map, List.length_take, List.length_map]; have := hg.2; omega), same_put s' hD, ?_⟩
      rw [upd_same]
      have hv : (xs.map fun i => !decide (V.int i = V.int 0))[i]? = some (!decide (V.int i1 = V.int 0)) := by rw [List.getElem?_map, g1]; rfl
      rw [List.take_succ, hv, List.map_append]
      rfl
    · rintro H2 ⟨s2, hD2⟩
      rw [List.take_of_length_le (by rw [List.length_map, List.length_map]; exact Nat.le_refl _)] at hD2
      refine ⟨D, _, rfl, SqL.of hD2, ?_⟩
      rw [List.any_map]
      exact k H2 s2
theorem ok_Amounts_add (T : Txt K mg A) : FnOk P w K mg base (L2.CX P w) 6 A.f_Amounts_add A.d_Amounts_add ["self", "other"] (spOff A) := by
  refine T.F_Amounts_add.okX sc_Amounts_add (fun vs H Q E h => ?_) (fun cdv Ar outer s H vs Q E hr h => ?_)
  · obtain ⟨a, b, xs, ys, rfl, _⟩ := h
    rfl
  · obtain ⟨a, b, xs, ys, rfl, hX, hY, hne, kB⟩ := h
    refine ⟨_, (pss_cons (ps_expr (pe_call (ok_refuse_lengths T) (hr.mono (by decide)) rfl T.g_refuse_lengths T.F_refuse_lengths.kp T.b_refuse_lengths .nil (passes_call (takes_of rfl rfl rfl rfl) (fun _ _ _ _ h => h)) (pa_cons (pv 0) (pa_cons (pv 1) pa_nil))))
        (pss_cons (ps_setLc (i := 2) (own := [("one", 3), ("two", 4)]) (g := gTup K 2 (gCons (gName 3) (gCons (gName 4) gNil))) (tt := tYes) rfl sc_Amounts_add.nd rfl rfl (sw_true rfl rfl rfl (by decide +kernel)) (pi_zipK K rfl T.n_zip (pa_cons (pe_fldK K (pv 0) rfl) (pa_cons (pe_fldK K (pv 1) rfl) pa_nil))) (blkOk_by (N := ["self", "other", "numbers", "one", "two"]) (sc := defScope s_Amounts_add) (by decide +kernel)) (fun _ _ _ _ _ => (pg_tup rfl (pgs_cons (pg_name (i := 3) sc_Amounts_add.nd rfl (Or.inl rfl)) (pgs_cons (pg_name (i := 4) sc_Amounts_add.nd rfl (Or.inl rfl)) pgs_nil)))) (fun _ _ _ _ _ => pts_nil) (fun _ _ _ _ _ => (pe_op op_add (pv 3) (pv 4))))
        (pss_one (ps_ret (pe_makeStar T.mk_Amounts (ok_Amounts_init T) (hr.mono (by decide)) rfl T.g_Amounts (passes_call (takes_of rfl rfl rfl rfl) (fun _ _ _ _ h => h)) (pv 2)))))), ?_⟩
    obtain ⟨dx, t, hx, ht⟩ := id hX
    obtain ⟨dy, t2, hy, ht2⟩ := id hY
    refine ⟨_, rfl, _, rfl, a, b, xs, ys, rfl, hX, hY, fun he => absurd he hne, fun _ => kB⟩
theorem ok_Amounts_sub (T : Txt K mg A) : FnOk P w K mg base (L2.CX P w) 6 A.f_Amounts_sub A.d_Amounts_sub ["self", "other"] (spOff A) := by
  refine T.F_Amounts_sub.okX sc_Amounts_sub (fun vs H Q E h => ?_) (fun cdv Ar outer s H vs Q E hr h => ?_)
  · obtain ⟨a, b, xs, ys, rfl, _⟩ := h
    rfl
  · obtain ⟨a, b, xs, ys, rfl, hX, hY, hne, kB⟩ := h
    refine ⟨_, (pss_cons (ps_expr (pe_call (ok_refuse_lengths T) (hr.mono (by decide)) rfl T.g_refuse_lengths T.F_refuse_lengths.kp T.b_refuse_lengths .nil (passes_call (takes_of rfl rfl rfl rfl) (fun _ _ _ _ h => h)) (pa_cons (pv 0) (pa_cons (pv 1) pa_nil))))
        (pss_cons (ps_setLc (i := 2) (own := [("one", 3), ("two", 4)]) (g := gTup K 2 (gCons (gName 3) (gCons (gName 4) gNil))) (tt := tYes) rfl sc_Amounts_sub.nd rfl rfl (sw_true rfl rfl rfl (by decide +kernel)) (pi_zipK K rfl T.n_zip (pa_cons (pe_fldK K (pv 0) rfl) (pa_cons (pe_fldK K (pv 1) rfl) pa_nil))) (blkOk_by (N := ["self", "other", "numbers", "one", "two"]) (sc := defScope s_Amounts_sub) (by decide +kernel)) (fun _ _ _ _ _ => (pg_tup rfl (pgs_cons (pg_name (i := 3) sc_Amounts_sub.nd rfl (Or.inl rfl)) (pgs_cons (pg_name (i := 4) sc_Amounts_sub.nd rfl (Or.inl rfl)) pgs_nil)))) (fun _ _ _ _ _ => pts_nil) (fun _ _ _ _ _ => (pe_op op_sub (pv 3) (pv 4))))
        (pss_one (ps_ret (pe_makeStar T.mk_Amounts (ok_Amounts_init T) (hr.mono (by decide)) rfl T.g_Amounts (passes_call (takes_of rfl rfl rfl rfl) (fun _ _ _ _ h => h)) (pv 2)))))), ?_⟩
    obtain ⟨dx, t, hx, ht⟩ := id hX
    obtain ⟨dy, t2, hy, ht2⟩ := id hY
    refine ⟨_, rfl, _, rfl, a, b, xs, ys, rfl, hX, hY, fun he => absurd he hne, fun _ => kB⟩
theorem ok_Amounts_and (T : Txt K mg A) : FnOk P w K mg base (L2.CX P w) 6 A.f_Amounts_and A.d_Amounts_and ["self", "other"] (spBin A mn) := by
  refine T.F_Amounts_and.okX sc_Amounts_and (fun vs H Q E h => ?_) (fun cdv Ar outer s H vs Q E hr h => ?_)
  · obtain ⟨a, b, xs, ys, rfl, _⟩ := h
    rfl
  · obtain ⟨a, b, xs, ys, rfl, hX, hY, hg, kG, kB⟩ := h
    refine ⟨_, (pss_cons (ps_expr (pe_call (ok_refuse_lengths T) (hr.mono (by decide)) rfl T.g_refuse_lengths T.F_refuse_lengths.kp T.b_refuse_lengths .nil (passes_call (takes_of rfl rfl rfl rfl) (fun _ _ _ _ h => h)) (pa_cons (pv 0) (pa_cons (pv 1) pa_nil))))
        (pss_cons (ps_setLc (i := 2) (own := [("one", 3), ("two", 4)]) (g := gTup K 2 (gCons (gName 3) (gCons (gName 4) gNil))) (tt := tYes) rfl sc_Amounts_and.nd rfl rfl (sw_true rfl rfl rfl (by decide +kernel)) (pi_zipK K rfl T.n_zip (pa_cons (pe_fldK K (pv 0) rfl) (pa_cons (pe_fldK K (pv 1) rfl) pa_nil))) (blkOk_by (N := ["self", "other", "numbers", "one", "two"]) (sc := defScope s_Amounts_and) (by decide +kernel)) (fun _ _ _ _ _ => (pg_tup rfl (pgs_cons (pg_name (i := 3) sc_Amounts_and.nd rfl (Or.inl rfl)) (pgs_cons (pg_name (i := 4) sc_Amounts_and.nd rfl (Or.inl rfl)) pgs_nil)))) (fun _ _ _ _ _ => pts_nil) (fun _ _ _ _ _ => (pe_callB (call_min2 rfl) (by rfl) T.n_min (by decide +kernel) (pa_cons (pv 3) (pa_cons (pv 4) pa_nil)))))
        (pss_one (ps_ret (pe_makeStar T.mk_Amounts (ok_Amounts_init T) (hr.mono (by decide)) rfl T.g_Amounts (passes_call (takes_of rfl rfl rfl rfl) (fun _ _ _ _ h => h)) (pv 2)))))), ?_⟩
    obtain ⟨dx, t, hx, ht⟩ := id hX
    obtain ⟨dy, t2, hy, ht2⟩ := id hY
    refine ⟨_, rfl, _, rfl, a, b, xs, ys, rfl, hX, hY, fun he => ?_, fun hne => kB hne⟩
    refine ⟨_, rfl, a, A.c_Amounts, dx, _, _, rfl, hx, T.cl_Amounts, T.no_Amounts_numbers, afl_numbers _, _, rfl, b, A.c_Amounts, dy, _, _, rfl, hy, T.cl_Amounts, T.no_Amounts_numbers, afl_numbers _, t, t2, _, _, rfl, .inr ⟨SqT.of ht, SqT.of ht2, ?_⟩⟩
    intro D hD
    refine lc_it (walk_zipT (n := xs.length) (by rw [List.length_map, List.length_map]; omega)) (fun i H' => Same H H' ∧ H' D = some (.lst (((List.zipWith mn xs ys).take i).map V.int))) ⟨same_new hD, upd_same⟩ (fun i H' hi h => ⟨SqT.of (h.1 _ _ ht), SqT.of (h.1 _ _ ht2)⟩) ?_ ?_
    · rintro i x H' H'' hi ⟨s', hD'⟩ ⟨T1, v1, v2, rfl, hT1, rfl, e1, e2⟩
      obtain ⟨i1, g1, rfl⟩ := getMap e1
      obtain ⟨i2, g2, rfl⟩ := getMap e2
      have hDT : D ≠ T1 := ne_of_none hD' hT1
      refine ⟨T1, _, rfl, SqT.of upd_same, rfl, _, _, rfl, _, _, rfl, rfl, ?_⟩
      refine ⟨rfl, ?_⟩
      refine ⟨_, rfl, _, rfl, _, _, rfl, _, by rw [upd_ne hDT]; exact hD', small1000 (by rw [List.length_map, List.length_take]; have := hg.2; omega), same_put (s'.trans (same_new hT1)) hD, ?_⟩
      rw [upd_same]
      have hv : ((List.zipWith mn xs ys))[i]? = some (mn i1 i2) := by simp [List.getElem?_zipWith, g1, g2]
      rw [List.take_succ, hv, List.map_append]
      rfl
    · rintro H2 ⟨s2, hD2⟩
      rw [List.take_of_length_le (by rw [List.length_zipWith]; omega)] at hD2
      refine ⟨_, rfl, D, _, rfl, .inr (SqL.of hD2), ?_⟩
      exact amt_made ⟨by rw [List.length_zipWith]; have := hg.1; omega, by rw [List.length_zipWith]; have := hg.2; omega⟩ ((kG he).from s2)
theorem ok_Amounts_or (T : Txt K mg A) : FnOk P w K mg base (L2.CX P w) 6 A.f_Amounts_or A.d_Amounts_or ["self", "other"] (spBin A mx) := by
  refine T.F_Amounts_or.okX sc_Amounts_or (fun vs H Q E h => ?_) (fun cdv Ar outer s H vs Q E hr h => ?_)
  · obtain ⟨a, b, xs, ys, rfl, _⟩ := h
    rfl
  · obtain ⟨a, b, xs, ys, rfl, hX, hY, hg, kG, kB⟩ := h
    refine ⟨_, (pss_cons (ps_expr (pe_call (ok_refuse_lengths T) (hr.mono (by decide)) rfl T.g_refuse_lengths T.F_refuse_lengths.kp T.b_refuse_lengths .nil (passes_call (takes_of rfl rfl rfl rfl) (fun _ _ _ _ h => h)) (pa_cons (pv 0) (pa_cons (pv 1) pa_nil))))
        (pss_cons (ps_setLc (i := 2) (own := [("one", 3), ("two", 4)]) (g := gTup K 2 (gCons (gName 3) (gCons (gName 4) gNil))) (tt := tYes) rfl sc_Amounts_or.nd rfl rfl (sw_true rfl rfl rfl (by decide +kernel)) (pi_zipK K rfl T.n_zip (pa_cons (pe_fldK K (pv 0) rfl) (pa_cons (pe_fldK K (pv 1) rfl) pa_nil))) (blkOk_by (N := ["self", "other", "numbers", "one", "two"]) (sc := defScope s_Amounts_or) (by decide +kernel)) (fun _ _ _ _ _ => (pg_tup rfl (pgs_cons (pg_name (i := 3) sc_Amounts_or.nd rfl (Or.inl rfl)) (pgs_cons (pg_name (i := 4) sc_Amounts_or.nd rfl (Or.inl rfl)) pgs_nil)))) (fun _ _ _ _ _ => pts_nil) (fun _ _ _ _ _ => (pe_callB (call_max2 rfl) (by rfl) T.n_max (by decide +kernel) (pa_cons (pv 3) (pa_cons (pv 4) pa_nil)))))
        (pss_one (ps_ret (pe_makeStar T.mk_Amounts (ok_Amounts_init T) (hr.mono (by decide)) rfl T.g_Amounts (passes_call (takes_of rfl rfl rfl rfl) (fun _ _ _ _ h => h)) (pv 2)))))), ?_⟩
    obtain ⟨dx, t, hx, ht⟩ := id hX
    obtain ⟨dy, t2, hy, ht2⟩ := id hY
    refine ⟨_, rfl, _, rfl, a, b, xs, ys, rfl, hX, hY, fun he => ?_, fun hne => kB hne⟩
    refine ⟨_, rfl, a, A.c_Amounts, dx, _, _, rfl, hx, T.cl_Amounts, T.no_Amounts_numbers, afl_numbers _, _, rfl, b, A.c_Amounts, dy, _, _, rfl, hy, T.cl_Amounts, T.no_Amounts_numbers, afl_numbers _, t, t2, _, _, rfl, .inr ⟨SqT.of ht, SqT.of ht2, ?_⟩⟩
    intro D hD
    refine lc_it (walk_zipT (n := xs.length) (by rw [List.length_map, List.length_map]; omega)) (fun i H' => Same H H' ∧ H' D = some (.lst (((List.zipWith mx xs ys).take i).map V.int))) ⟨same_new hD, upd_same⟩ (fun i H' hi h => ⟨SqT.of (h.1 _ _ ht), SqT.of (h.1 _ _ ht2)⟩) ?_ ?_
    · rintro i x H' H'' hi ⟨s', hD'⟩ ⟨T1, v1, v2, rfl, hT1, rfl, e1, e2⟩
      obtain ⟨i1, g1, rfl⟩ := getMap e1
      obtain ⟨i2, g2, rfl⟩ := getMap e2
      have hDT : D ≠ T1 := ne_of_none hD' hT1
      refine ⟨T1, _, rfl, SqT.of upd_same, rfl, _, _, rfl, _, _, rfl, rfl, ?_⟩
      refine ⟨rfl, ?_⟩
      refine ⟨_, rfl, _, rfl, _, _, rfl, _, by rw [upd_ne hDT]; exact hD', small1000 (by rw [List.length_map, List.length_take]; have := hg.2; omega), same_put (s'.trans (same_new hT1)) hD, ?_⟩
      rw [upd_same]
      have hv : ((List.zipWith mx xs ys))[i]? = some (mx i1 i2) := by simp [List.getElem?_zipWith, g1, g2]
      rw [List.take_succ, hv, List.map_append]
      rfl
    · rintro H2 ⟨s2, hD2⟩
      rw [List.take_of_length_le (by rw [List.length_zipWith]; omega)] at hD2
      refine ⟨_, rfl, D, _, rfl, .inr (SqL.of hD2), ?_⟩
      exact amt_made ⟨by rw [List.length_zipWith]; have := hg.1; omega, by rw [List.length_zipWith]; have := hg.2; omega⟩ ((kG he).from s2)
theorem ok_Amounts_mul (T : Txt K mg A) : FnOk P w K mg base CX0 6 A.f_Amounts_mul A.d_Amounts_mul ["self", "other"] spNever := T.F_Amounts_mul.ok sc_Amounts_mul (fun vs H Q E h => h.elim) (fun cdv Ar outer s H vs Q E hr h => h.elim)
theorem ok_Amounts_rmul (T : Txt K mg A) : FnOk P w K mg base CX0 6 A.f_Amounts_rmul A.d_Amounts_rmul ["self", "other"] spNever := T.F_Amounts_rmul.ok sc_Amounts_rmul (fun vs H Q E h => h.elim) (fun cdv Ar outer s H vs Q E hr h => h.elim)
theorem ok_Amounts_floordiv (T : Txt K mg A) : FnOk P w K mg base (L2.CX P w) 6 A.f_Amounts_floordiv A.d_Amounts_floordiv ["self", "other"] (spOff A) := by
  refine T.F_Amounts_floordiv.okX sc_Amounts_floordiv (fun vs H Q E h => ?_) (fun cdv Ar outer s H vs Q E hr h => ?_)
  · obtain ⟨a, b, xs, ys, rfl, _⟩ := h
    rfl
  · obtain ⟨a, b, xs, ys, rfl, hX, hY, hne, kB⟩ := h
    refine ⟨_, (pss_cons (ps_expr (pe_call (ok_refuse_lengths T) (hr.mono (by decide)) rfl T.g_refuse_lengths T.F_refuse_lengths.kp T.b_refuse_lengths .nil (passes_call (takes_of rfl rfl rfl rfl) (fun _ _ _ _ h => h)) (pa_cons (pv 0) (pa_cons (pv 1) pa_nil))))
        (pss_cons (ps_if (pt_not (pt_own (tru_own (T.me_Amounts_bool) (ok_Amounts_bool T) (hr.mono (by decide)) T.b_Amounts_bool pass0) (pv 1))) (pss_one (ps_raiseG rfl T.x_BadAmounts (ok_GangError_init T) (hr.mono (by decide)) T.b_GangError_init rfl T.g_BadAmounts (takes_of rfl rfl rfl rfl) (pe_fldK K (pv 1) rfl))) pss_nil)
        (pss_one (ps_ret (pe_callB (cr_min rfl) (by rfl) T.n_min (by decide +kernel) (pa_cons (pe_lc (own := [("one", 2), ("two", 3)]) (g := gTup K 2 (gCons (gName 2) (gCons (gName 3) gNil))) rfl sc_Amounts_floordiv.nd (pi_zipK K rfl T.n_zip (pa_cons (pe_fldK K (pv 0) rfl) (pa_cons (pe_fldK K (pv 1) rfl) pa_nil))) (blkOk_by (N := ["self", "other", "one", "two"]) (sc := defScope s_Amounts_floordiv) (by decide +kernel)) (fun _ _ _ _ _ => (pg_tup rfl (pgs_cons (pg_name (i := 2) sc_Amounts_floordiv.nd rfl (Or.inl rfl)) (pgs_cons (pg_name (i := 3) sc_Amounts_floordiv.nd rfl (Or.inl rfl)) pgs_nil)))) (fun _ _ _ _ _ => pts_one (pt_cmpR op_ne (pv 3) pe_int (nomark _))) (fun _ _ _ _ _ => (pe_op op_fdiv (pv 2) (pv 3)))) pa_nil)))))), ?_⟩
    obtain ⟨dx, t, hx, ht⟩ := id hX
    obtain ⟨dy, t2, hy, ht2⟩ := id hY
    refine ⟨_, rfl, _, rfl, a, b, xs, ys, rfl, hX, hY, fun he => absurd he hne, fun _ => kB⟩
theorem ok_Amounts_mod (T : Txt K mg A) : FnOk P w K mg base (L2.CX P w) 8 A.f_Amounts_mod A.d_Amounts_mod ["self", "other"] (spOff A) := by
  refine T.F_Amounts_mod.okX sc_Amounts_mod (fun vs H Q E h => ?_) (fun cdv Ar outer s H vs Q E hr h => ?_)
  · obtain ⟨a, b, xs, ys, rfl, _⟩ := h
    rfl
  · obtain ⟨a, b, xs, ys, rfl, hX, hY, hne, kB⟩ := h
    refine ⟨_, (pss_one (ps_ret (pe_op (op_own T.me_Amounts_sub T.sf_Amounts (ok_Amounts_sub T) (hr.mono (by decide)) T.b_Amounts_sub (passes_call (takes_of rfl rfl rfl rfl) (fun _ _ _ _ h => h))) (pv 0) (pe_op (op_iown intMul T.me_Amounts_mul T.me_Amounts_rmul T.sf_Amounts T.si_Amounts (ok_Amounts_rmul T) (hr.mono (by decide)) T.b_Amounts_rmul pass0) (pe_op (op_own T.me_Amounts_floordiv T.sf_Amounts (ok_Amounts_floordiv T) (hr.mono (by decide)) T.b_Amounts_floordiv (passes_call (takes_of rfl rfl rfl rfl) (fun _ _ _ _ h => h))) (pv 0) (pv 1)) (pv 1))))), ?_⟩
    obtain ⟨dx, t, hx, ht⟩ := id hX
    obtain ⟨dy, t2, hy, ht2⟩ := id hY
    refine ⟨_, rfl, _, rfl, _, rfl, a, dx, _, b, dy, _, rfl, hx, rfl, hy, a, b, xs, ys, rfl, hX, hY, hne, kB⟩
theorem ok_Amounts_contains (T : Txt K mg A) : FnOk P w K mg base (L2.CX P w) 6 A.f_Amounts_contains A.d_Amounts_contains ["self", "x"] (spIn A) := by
  refine T.F_Amounts_contains.okX sc_Amounts_contains (fun vs H Q E h => ?_) (fun cdv Ar outer s H vs Q E hr h => ?_)
  · obtain ⟨a, b, xs, ys, rfl, _⟩ := h
    rfl
  · obtain ⟨a, b, xs, ys, rfl, hX, hY, hg, kG, kB⟩ := h
    refine ⟨_, (pss_cons (ps_expr (pe_call (ok_refuse_lengths T) (hr.mono (by decide)) rfl T.g_refuse_lengths T.F_refuse_lengths.kp T.b_refuse_lengths .nil (passes_call (takes_of rfl rfl rfl rfl) (fun _ _ _ _ h => h)) (pa_cons (pv 0) (pa_cons (pv 1) pa_nil))))
        (pss_one (ps_ret (pe_callB (cr_all rfl) (by rfl) T.n_all (by decide +kernel) (pa_cons (pe_lc (own := [("one", 2), ("two", 3)]) (g := gTup K 2 (gCons (gName 2) (gCons (gName 3) gNil))) (tt := tYes) rfl sc_Amounts_contains.nd (pi_zipK K rfl T.n_zip (pa_cons (pe_fldK K (pv 1) rfl) (pa_cons (pe_fldK K (pv 0) rfl) pa_nil))) (blkOk_by (N := ["self", "x", "one", "two"]) (sc := defScope s_Amounts_contains) (by decide +kernel)) (fun _ _ _ _ _ => (pg_tup rfl (pgs_cons (pg_name (i := 2) sc_Amounts_contains.nd rfl (Or.inl rfl)) (pgs_cons (pg_name (i := 3) sc_Amounts_contains.nd rfl (Or.inl rfl)) pgs_nil)))) (fun _ _ _ _ _ => pts_nil) (fun _ _ _ _ _ => (pe_cmpR op_le (pv 2) (pv 3) (nomark _)))) pa_nil))))), ?_⟩
    obtain ⟨dx, t, hx, ht⟩ := id hX
    obtain ⟨dy, t2, hy, ht2⟩ := id hY
    refine ⟨_, rfl, _, rfl, a, b, xs, ys, rfl, hX, hY, fun he => ?_, fun hne => kB hne⟩
    refine ⟨_, rfl, b, A.c_Amounts, dy, _, _, rfl, hy, T.cl_Amounts, T.no_Amounts_numbers, afl_numbers _, _, rfl, a, A.c_Amounts, dx, _, _, rfl, hx, T.cl_Amounts, T.no_Amounts_numbers, afl_numbers _, t2, t, _, _, rfl, .inr ⟨SqT.of ht2, SqT.of ht, ?_⟩⟩
    intro D hD
    refine lc_it (walk_zipT (n := xs.length) (by rw [List.length_map, List.length_map]; omega)) (fun i H' => Same H H' ∧ H' D = some (.lst (((List.zipWith (fun i j => decide (i ≤ j)) ys xs).take i).map V.bl))) ⟨same_new hD, upd_same⟩ (fun i H' hi h => ⟨SqT.of (h.1 _ _ ht2), SqT.of (h.1 _ _ ht)⟩) ?_ ?_
    · rintro i x H' H'' hi ⟨s', hD'⟩ ⟨T1, v1, v2, rfl, hT1, rfl, e1, e2⟩
      obtain ⟨i1, g1, rfl⟩ := getMap e1
      obtain ⟨i2, g2, rfl⟩ := getMap e2
      have hDT : D ≠ T1 := ne_of_none hD' hT1
      refine ⟨T1, _, rfl, SqT.of upd_same, rfl, _, _, rfl, _, _, rfl, rfl, ?_⟩
      refine ⟨rfl, ?_⟩
      refine ⟨_, rfl, _, rfl, _, _, rfl, rfl, _, by rw [upd_ne hDT]; exact hD', small1000 (by rw [List.length_map, List.length_take]; have := hg.2; omega), same_put (s'.trans (same_new hT1)) hD, ?_⟩
      rw [upd_same]
      have hv : ((List.zipWith (fun i j => decide (i ≤ j)) ys xs))[i]? = some (decide (i1 ≤ i2)) := by simp [List.getElem?_zipWith, g1, g2]
      rw [List.take_succ, hv, List.map_append]
      rfl
    · rintro H2 ⟨s2, hD2⟩
      rw [List.take_of_length_le (by rw [List.length_zipWith]; omega)] at hD2
      exact ⟨D, _, rfl, SqL.of hD2, kG he H2 s2⟩
theorem ok_Amounts_eq (T : Txt K mg A) : FnOk P w K mg base CX0 1 A.f_Amounts_eq A.d_Amounts_eq ["self", "other"] (spEq A) := by
  refine T.F_Amounts_eq.ok sc_Amounts_eq (fun vs H Q E h => ?_) (fun cdv Ar outer s H vs Q E hr h => ?_)
  · obtain ⟨a, b, xs, ys, rfl, _⟩ := h
    rfl
  · obtain ⟨a, b, xs, ys, rfl, hX, hY, k⟩ := h
    refine ⟨_, (pss_one (ps_ret (pe_and (pe_callB (call_isiK' K) (by rfl) T.n_isinstance (by decide +kernel) (pa_cons (pv 1) (pa_cons (pe_glob (v := .ref A.c_Amounts) rfl T.g_Amounts rfl) pa_nil))) (pe_one (pe_cmpR (op_eqDK K hr.units) (pe_fldK K (pv 0) rfl) (pe_fldK K (pv 1) rfl) (nomark _)))))), ?_⟩
    obtain ⟨dx, t, hx, ht⟩ := id hX
    obtain ⟨dy, t2, hy, ht2⟩ := id hY
    refine ⟨_, rfl, _, _, _, _, true, rfl, .own _, .base (.ins hy T.cl_Amounts T.k1_Amounts T.kg T.kt T.k4_Amounts), kit_same, true, rfl, iteT ?_⟩
    refine ⟨_, rfl, a, A.c_Amounts, dx, _, _, rfl, hx, T.cl_Amounts, T.no_Amounts_numbers, afl_numbers _, _, rfl, b, A.c_Amounts, dy, _, _, rfl, hy, T.cl_Amounts, T.no_Amounts_numbers, afl_numbers _, _, _, .tup (SqT.of ht) (dpInts xs), .tup (SqT.of ht2) (dpInts ys), shT xs, shT ys, ?_⟩
    rw [eqvT]
    exact k
theorem ok_Amounts_getitem (T : Txt K mg A) : FnOk P w K mg base CX0 1 A.f_Amounts_getitem A.d_Amounts_getitem ["self", "at"] (spGet A) := by
  refine T.F_Amounts_getitem.ok sc_Amounts_getitem (fun vs H Q E h => ?_) (fun cdv Ar outer s H vs Q E hr h => ?_)
  · obtain ⟨a, xs, i, z, rfl, _⟩ := h
    rfl
  · obtain ⟨a, xs, i, z, rfl, hX, hz, k⟩ := h
    refine ⟨_, (pss_one (ps_ret (pe_ix (ix_tupK K) (pe_fldK K (pv 0) rfl) (pv 1) (fun _ _ => rfl)))), ?_⟩
    obtain ⟨dx, t, hx, ht⟩ := id hX
    refine ⟨_, rfl, a, A.c_Amounts, dx, _, _, rfl, hx, T.cl_Amounts, T.no_Amounts_numbers, afl_numbers _, _, rfl, t, _, _, _, rfl, rfl, SqT.of ht, ?_, k⟩
    rw [Int.zero_add]
    exact atI_nat (by rw [List.getElem?_map, hz]; rfl)
theorem ok_Amounts_len (T : Txt K mg A) : FnOk P w K mg base CX0 1 A.f_Amounts_len A.d_Amounts_len ["self"] (spLen A) := by
  refine T.F_Amounts_len.ok sc_Amounts_len (fun vs H Q E h => ?_) (fun cdv Ar outer s H vs Q E hr h => ?_)
  · obtain ⟨a, dx, t, ys, rfl, _⟩ := h
    rfl
  · obtain ⟨a, dx, t, ys, rfl, ha, ht, k⟩ := h
    refine ⟨_, (pss_one (ps_ret (pe_callB (call_len_seqK K) (by rfl) T.n_len (by decide +kernel) (pa_cons (pe_fldK K (pv 0) rfl) pa_nil)))), ?_⟩
    exact ⟨_, rfl, a, A.c_Amounts, dx, _, _, rfl, ha, T.cl_Amounts, T.no_Amounts_numbers, afl_numbers _, t, _, rfl, .inr (SqT.of ht), k⟩
theorem ok_Amounts_iter (T : Txt K mg A) : FnOk P w K mg base CX0 1 A.f_Amounts_iter A.d_Amounts_iter ["self"] (spIter A) := by
  refine T.F_Amounts_iter.ok sc_Amounts_iter (fun vs H Q E h => ?_) (fun cdv Ar outer s H vs Q E hr h => ?_)
  · obtain ⟨a, dx, t, ys, rfl, _⟩ := h
    rfl
  · obtain ⟨a, dx, t, ys, rfl, ha, ht, k⟩ := h
    refine ⟨_, (pss_one (ps_ret (pe_callB (call_iterTK K) (by rfl) T.n_iter (by decide +kernel) (pa_cons (pe_fldK K (pv 0) rfl) pa_nil)))), ?_⟩
    exact ⟨_, rfl, a, A.c_Amounts, dx, _, _, rfl, ha, T.cl_Amounts, T.no_Amounts_numbers, afl_numbers _, t, _, rfl, SqT.of ht, k⟩
theorem ok_pool (T : Txt K mg A) : FnOk P w K mg base CX0 1 A.f_pool A.d_pool ["_law_script"] (spPool K) := by
  refine T.F_pool.ok sc_pool (fun vs H Q E h => ?_) (fun cdv Ar outer s H vs Q E hr h => ?_)
  · obtain ⟨a, ns, rfl, _⟩ := h
    rfl
  · obtain ⟨a, ns, rfl, hS, hl, hb, k⟩ := h
    refine ⟨_, (pss_cons (ps_set (i := 1) sc_pool.nd rfl (Or.inl rfl) (pe_lst (pa_cons pe_int (pa_cons pe_int (pa_cons pe_int (pa_cons pe_int pa_nil))))))
        (pss_cons (ps_for PassesOwn.never rfl (pi_listK K (pv 0)) (pg_name (i := 2) sc_pool.nd rfl (Or.inl rfl))
        (pss_one (ps_if (pt_cmpR op_ge (pv 2) (pe_op op_pow pe_int pe_int) (nomark _)) (pss_one (ps_expr (pe_bm PySem.F.plainAttrs_list PySem.F.slot_list_append PySem.F.type_list_append mt_append (pv 1) (pa_cons (pv 2) pa_nil)))) (pss_cons (ps_asg (pe_op op_mod (pe_callTy call_int1 (by rfl) T.n_int (by decide +kernel) (pa_cons (pe_op op_add (pe_op op_mulX (pe_ix (ix_listK K) (pv 1) pe_int (fun _ _ => rfl)) pe_int) (pv 2)) pa_nil)) pe_int) (pg_sub (pv 1) pe_int set_list))
        (pss_cons (ps_asg (pe_op op_mod (pe_callTy call_int1 (by rfl) T.n_int (by decide +kernel) (pa_cons (pe_op op_add (pe_op op_mulX (pe_ix (ix_listK K) (pv 1) pe_int (fun _ _ => rfl)) pe_int) (pe_op op_mulX (pv 2) (pv 2))) pa_nil)) pe_int) (pg_sub (pv 1) pe_int set_list))
        (pss_one (ps_asg (pe_op op_mod (pe_callTy call_int1 (by rfl) T.n_int (by decide +kernel) (pa_cons (pe_op op_add (pe_op op_mulX (pe_ix (ix_listK K) (pv 1) pe_int (fun _ _ => rfl)) pe_int) (pe_op op_mulX (pv 2) pe_int)) pa_nil)) pe_int) (pg_sub (pv 1) pe_int set_list))))))))
        (pss_one (ps_ret (pv 1))))), ?_⟩
    refine ⟨(by show 4 ≤ sizeLine; decide), fun p hp => ?_⟩
    have sp : Same H (upd H p (.lst (poolL 1 2 3 0 []))) := same_new hp
    refine ⟨_, rfl, a, rfl, ⟨_, sp.seq hS⟩, for_list (K := K) (a := a) (xs := ns.map V.int) (fun i σ H' => ∃ v x0 x1 x2 bs, σ = [some (.ref a), some (.ref p), v] ∧ SameBut p H H' ∧ H' p = some (.lst (poolL x0 x1 x2 0 bs)) ∧ bs.length ≤ i ∧ ∀ z ∈ bs, 1 ≤ z)
      ⟨none, 1, 2, 3, [], rfl, sp.but, upd_same, Nat.le_refl _, fun z h => absurd h List.not_mem_nil⟩ (fun i σ H' _ ⟨_, _, _, _, _, _, sb, _⟩ => (same_of_but hp sb).seq hS) ?_ ?_⟩
    · rintro i y σ H' hi ⟨v, x0, x1, x2, bs, rfl, sb, hp', hbl, hz⟩
      obtain ⟨z, hzi, rfl⟩ := getMap hi
      have hil : i < ns.length := (List.getElem?_eq_some_iff.mp hzi).1
      have hbits := hb z (List.mem_of_getElem? hzi)
      refine ⟨_, rfl, _, _, rfl, rfl, ⟨by decide, by decide, by decide⟩, _, _, rfl, rfl, _, rfl, ?_⟩
      refine iteD (fun c => ?_) (fun c => ?_)
      · refine ⟨_, rfl, .inl ⟨rfl, _, SqL.of hp'⟩, _, rfl, p, _, _, rfl, rfl, hp', small1000 (by rw [pool_len]; omega), ?_⟩
        refine ⟨some (.int z), x0, x1, x2, bs ++ [z], rfl, sb.trans sameBut_upd, ?_, by rw [List.length_append]; show bs.length + 1 ≤ i + 1; omega, fun q hq => ?_⟩
        · rw [upd_same]; simp [poolL]
        · rcases List.mem_append.mp hq with h | h
          · exact hz q h
          · rw [List.mem_singleton.mp h]
            have e18 : (10 : Int) ^ (18 : Int).toNat = 1000000000000000000 := by decide
            have c' : (1000000000000000000 : Int) ≤ z := e18 ▸ c
            omega
      · refine ⟨_, rfl, p, _, 0, _, rfl, rfl, SqL.of hp', pool_at0, _, _, rfl, rfl, mulR ⟨by decide, by decide⟩, _, rfl, _, _, rfl, rfl, .inl ⟨_, rfl, _, _, rfl, rfl, (by show (0 : Int) < 101; decide), _, rfl, p, _, _, 0, rfl, rfl, hp', pool_ix 0 (by decide), ?_⟩⟩
        refine ⟨_, rfl, p, _, 1, _, rfl, rfl, SqL.of (show _ = some (.lst (poolL _ x1 x2 0 bs)) from upd_same), pool_at1, _, _, rfl, rfl, mulR ⟨by decide, by decide⟩, _, rfl, _, rfl, _, _, rfl, rfl, bitsMul hbits hbits, _, _, rfl, rfl, .inl ⟨_, rfl, _, _, rfl, rfl, (by show (0 : Int) < 103; decide), _, rfl, p, _, _, 1, rfl, rfl, (show _ = some (.lst (poolL _ x1 x2 0 bs)) from upd_same), pool_ix 1 (by decide), ?_⟩⟩
        refine ⟨_, rfl, p, _, 2, _, rfl, rfl, SqL.of (show _ = some (.lst (poolL _ _ x2 0 bs)) from upd_same), pool_at2, _, _, rfl, rfl, mulR ⟨by decide, by decide⟩, _, rfl, _, _, rfl, rfl, mulR ⟨by decide, by decide⟩, _, _, rfl, rfl, .inl ⟨_, rfl, _, _, rfl, rfl, (by show (0 : Int) < 1009; decide), _, rfl, p, _, _, 2, rfl, rfl, (show _ = some (.lst (poolL _ _ x2 0 bs)) from upd_same), pool_ix 2 (by decide), ?_⟩⟩
        exact ⟨some (.int z), _, _, _, bs, rfl, sb.trans (sameBut_upd.trans (sameBut_upd.trans sameBut_upd)), upd_same, by omega, hz⟩
    · rintro σ H' ⟨v, x0, x1, x2, bs, rfl, sb, hp', hbl, hz⟩
      rw [List.length_map] at hbl
      exact ⟨_, rfl, k p H' hp (.of hp' (by omega) hz) sb⟩
theorem ok_draw (T : Txt K mg A) : FnOk P w K mg base CX0 1 A.f_draw A.d_draw ["_law_pool_here", "_law_many"] (spDraw) := by
  refine T.F_draw.ok sc_draw (fun vs H Q E h => ?_) (fun cdv Ar outer s H vs Q E hr h => ?_)
  · obtain ⟨p, m, rfl, _⟩ := h
    rfl
  · obtain ⟨p, m, rfl, hP, h0, h1, k⟩ := h
    refine ⟨_, (pss_cons (ps_asg (pe_op op_add (pe_ix (ix_listK K) (pv 0) pe_int (fun _ _ => rfl)) pe_int) (pg_sub (pv 0) pe_int set_list))
        (pss_cons (ps_if (pt_cmpR op_gt (pe_callB (call_len_seqK K) (by rfl) T.n_len (by decide +kernel) (pa_cons (pv 0) pa_nil)) pe_int (nomark _)) (pss_cons (ps_set (i := 4) sc_draw.nd rfl (Or.inl rfl) (pe_op op_mod (pe_callTy call_int1 (by rfl) T.n_int (by decide +kernel) (pa_cons (pe_ix (ix_listK K) (pv 0) pe_int (fun _ _ => rfl)) pa_nil)) (pv 1)))
        (pss_cons (ps_asg (pe_op op_fdiv (pe_ix (ix_listK K) (pv 0) pe_int (fun _ _ => rfl)) (pv 1)) (pg_sub (pv 0) pe_int set_list))
        (pss_cons (ps_if (pt_cmpR op_eq (pe_ix (ix_listK K) (pv 0) pe_int (fun _ _ => rfl)) pe_int (nomark _)) (pss_one (ps_expr (pe_bm PySem.F.plainAttrs_list PySem.F.slot_list_pop PySem.F.type_list_pop mt_popAt (pv 0) (pa_cons pe_int pa_nil)))) pss_nil)
        (pss_one (ps_ret (pv 4)))))) pss_nil)
        (pss_cons (ps_set (i := 2) sc_draw.nd rfl (Or.inl rfl) (pe_op op_mod (pe_callTy call_int1 (by rfl) T.n_int (by decide +kernel) (pa_cons (pe_op op_add (pe_ix (ix_listK K) (pv 0) pe_int (fun _ _ => rfl)) (pe_op op_mulX pe_int (pe_ix (ix_listK K) (pv 0) pe_int (fun _ _ => rfl)))) pa_nil)) pe_int))
        (pss_cons (ps_set (i := 3) sc_draw.nd rfl (Or.inl rfl) (pe_op op_mod (pe_callTy call_int1 (by rfl) T.n_int (by decide +kernel) (pa_cons (pe_op op_add (pe_ix (ix_listK K) (pv 0) pe_int (fun _ _ => rfl)) (pe_op op_mulX (pv 2) (pv 2))) pa_nil)) pe_int))
        (pss_one (ps_ret (pe_op op_mod (pe_op op_mod (pe_callTy call_int1 (by rfl) T.n_int (by decide +kernel) (pa_cons (pe_op op_add (pe_op op_add (pe_ix (ix_listK K) (pv 0) pe_int (fun _ _ => rfl)) (pe_op op_mulX pe_int (pe_ix (ix_listK K) (pv 0) pe_int (fun _ _ => rfl)))) (pe_op op_mulX (pv 3) (pv 3))) pa_nil)) pe_int) (pv 1)))))))), ?_⟩
    obtain ⟨x0, x1, x2, n, bs, hp, hl, hz⟩ := hP
    refine ⟨_, rfl, p, _, 3, _, rfl, rfl, SqL.of hp, pool_at3, _, _, rfl, rfl, _, rfl, p, _, _, 3, rfl, rfl, hp, pool_ix 3 (by decide), ?_⟩
    have s1 : SameBut p H (upd H p (.lst (poolL x0 x1 x2 (n + 1) bs))) := sameBut_upd
    have hp1 : (upd H p (.lst (poolL x0 x1 x2 (n + 1) bs))) p = some (.lst (poolL x0 x1 x2 (n + 1) bs)) := upd_same
    refine ⟨_, rfl, p, _, rfl, .inl (SqL.of hp1), _, _, rfl, rfl, _, rfl, ?_⟩
    refine iteD (fun c => ?_) (fun c => ?_)
    · rw [pool_len] at c
      cases bs with
      | nil => exact absurd c (by decide)
      | cons b bs =>
        have hb1 := hz b List.mem_cons_self
        have hm0 : 0 ≤ b % m := Int.emod_nonneg b (by omega)
        have hm1 : b % m < m := Int.emod_lt_of_pos b (by omega)
        have hq : 0 ≤ b / m := Int.ediv_nonneg (by omega) (by omega)
        have hz' : ∀ z ∈ bs, 1 ≤ z := fun z h => hz z (List.mem_cons_of_mem _ h)
        have hl' : bs.length + 1 ≤ 63 := hl
        refine ⟨_, rfl, p, _, 4, _, rfl, rfl, SqL.of hp1, pool_at4, .inl ⟨_, rfl, _, rfl, _, _, rfl, rfl, (by show (0 : Int) < m; omega), ?_⟩⟩
        refine ⟨_, rfl, p, _, 4, _, rfl, rfl, SqL.of hp1, pool_at4, _, rfl, _, _, rfl, rfl, ⟨by omega, h1⟩, _, rfl, p, _, _, 4, rfl, rfl, hp1, pool_ix4, ?_⟩
        have hp2 : (upd (upd H p (.lst (poolL x0 x1 x2 (n + 1) (b :: bs)))) p (.lst (poolL x0 x1 x2 (n + 1) (b / m :: bs)))) p = some (.lst (poolL x0 x1 x2 (n + 1) (b / m :: bs))) := upd_same
        refine ⟨_, rfl, p, _, 4, _, rfl, rfl, SqL.of hp2, pool_at4, rfl, _, rfl, ?_⟩
        refine iteD (fun c2 => ?_) (fun c2 => ?_)
        · refine ⟨_, rfl, .inl ⟨rfl, _, SqL.of hp2⟩, p, _, 4, 4, _, rfl, rfl, hp2, by decide, by decide, pool_seq4, rfl, ?_⟩
          exact ⟨_, rfl, k _ _ hm0 hm1 (.of (bs := bs) upd_same (by omega) hz') (s1.trans (sameBut_upd.trans sameBut_upd))⟩
        · refine ⟨_, rfl, k _ _ hm0 hm1 (.of hp2 hl fun z h => ?_) (s1.trans sameBut_upd)⟩
          rcases List.mem_cons.mp h with e | h
          · rw [e]
            have : b / m ≠ 0 := fun e => c2 (by rw [e])
            omega
          · exact hz' z h
    · refine ⟨_, rfl, p, _, 0, _, rfl, rfl, SqL.of hp1, pool_at0, _, rfl, p, _, 3, _, rfl, rfl, SqL.of hp1, pool_at3, _, _, rfl, rfl, mulL ⟨by decide, by decide⟩, _, _, rfl, rfl, .inl ⟨_, rfl, _, _, rfl, rfl, (by show (0 : Int) < 101; decide), ?_⟩⟩
      have f0 : 0 ≤ (x0 + 7 * (n + 1)) % 101 := Int.emod_nonneg _ (by decide)
      have f1 : (x0 + 7 * (n + 1)) % 101 < 101 := Int.emod_lt_of_pos _ (by decide)
      generalize (x0 + 7 * (n + 1)) % 101 = fi at f0 f1
      refine ⟨_, rfl, p, _, 1, _, rfl, rfl, SqL.of hp1, pool_at1, _, rfl, _, rfl, _, _, rfl, rfl, mulL ⟨by omega, by omega⟩, _, _, rfl, rfl, .inl ⟨_, rfl, _, _, rfl, rfl, (by show (0 : Int) < 103; decide), ?_⟩⟩
      have g0 : 0 ≤ (x1 + fi * fi) % 103 := Int.emod_nonneg _ (by decide)
      have g1 : (x1 + fi * fi) % 103 < 103 := Int.emod_lt_of_pos _ (by decide)
      generalize (x1 + fi * fi) % 103 = se at g0 g1
      refine ⟨_, rfl, p, _, 2, _, rfl, rfl, SqL.of hp1, pool_at2, _, rfl, p, _, 3, _, rfl, rfl, SqL.of hp1, pool_at3, _, _, rfl, rfl, mulL ⟨by decide, by decide⟩, _, _, rfl, rfl, _, rfl, _, rfl, _, _, rfl, rfl, mulL ⟨by omega, by omega⟩, _, _, rfl, rfl, .inl ⟨_, rfl, _, _, rfl, rfl, (by show (0 : Int) < 1009; decide), _, rfl, _, _, rfl, rfl, (by show (0 : Int) < m; omega), ?_⟩⟩
      exact k _ _ (Int.emod_nonneg _ (by omega)) (Int.emod_lt_of_pos _ (by omega)) (.of hp1 hl hz) s1
theorem ok_number (T : Txt K mg A) : FnOk P w K mg base CX0 2 A.f_number A.d_number ["_law_pool_here", "_law_groups"] (spNumber) := by
  refine T.F_number.ok sc_number (fun vs H Q E h => ?_) (fun cdv Ar outer s H vs Q E hr h => ?_)
  · obtain ⟨p, g, rfl, _⟩ := h
    rfl
  · obtain ⟨p, g, rfl, hP, g1, g2, k⟩ := h
    refine ⟨_, (pss_cons (ps_set (i := 2) sc_number.nd rfl (Or.inl rfl) (pe_call (ok_draw T) (hr.mono (by decide)) rfl T.g_draw T.F_draw.kp T.b_draw .nil pass0 (pa_cons (pv 0) (pa_cons pe_int pa_nil))))
        (pss_cons (ps_if (pt_cmpR op_eq (pv 2) pe_int (nomark _)) (pss_one (ps_ret (pe_call (ok_draw T) (hr.mono (by decide)) rfl T.g_draw T.F_draw.kp T.b_draw .nil pass0 (pa_cons (pv 0) (pa_cons pe_int pa_nil))))) pss_nil)
        (pss_cons (ps_set (i := 3) sc_number.nd rfl (Or.inl rfl) (pv 1))
        (pss_cons (ps_if (pt_cmpR op_gt (pv 2) pe_int (nomark _)) (pss_one (ps_set (i := 3) sc_number.nd rfl (Or.inl rfl) (pe_op op_add pe_int (pe_call (ok_draw T) (hr.mono (by decide)) rfl T.g_draw T.F_draw.kp T.b_draw .nil pass0 (pa_cons (pv 0) (pa_cons (pv 1) pa_nil)))))) pss_nil)
        (pss_cons (ps_set (i := 4) sc_number.nd rfl (Or.inl rfl) pe_int)
        (pss_cons (ps_for PassesOwn.never rfl (pi_range1 rfl T.n_range (pa_cons (pv 3) pa_nil)) (pg_name (i := 5) sc_number.nd rfl (Or.inl rfl))
        (pss_cons (ps_set (i := 6) sc_number.nd rfl (Or.inl rfl) pe_int)
        (pss_cons (ps_if (pt_cmpR op_gt (pv 2) pe_int (nomark _)) (pss_one (ps_set (i := 6) sc_number.nd rfl (Or.inl rfl) (pe_call (ok_draw T) (hr.mono (by decide)) rfl T.g_draw T.F_draw.kp T.b_draw .nil pass0 (pa_cons (pv 0) (pa_cons pe_int pa_nil))))) pss_nil)
        (pss_one (ps_set (i := 4) sc_number.nd rfl (Or.inl rfl) (pe_op op_add (pe_op op_mulX (pv 4) pe_int) (pv 6)))))))
        (pss_one (ps_ret (pv 4))))))))), ?_⟩
    refine ⟨_, rfl, p, 4, rfl, hP, by decide, by decide, fun kd H1 k0 k1 P1 s1 => ?_⟩
    refine ⟨_, rfl, rfl, _, rfl, ?_⟩
    refine iteD (fun c => ?_) (fun c => ?_)
    · refine ⟨_, rfl, p, 10, rfl, P1, by decide, by decide, fun r H2 r0 r1 P2 s2 => k r H2 r0 ?_ P2 (s1.trans s2)⟩
      have := pow_le g1
      rw [Int.pow_succ, Int.pow_zero] at this
      omega
    · refine ⟨_, rfl, ?_⟩
      refine ⟨_, rfl, _, _, rfl, rfl, _, rfl, ?_⟩
      refine iteD (fun c2 => ?_) (fun c2 => ?_)
      · refine ⟨_, rfl, _, rfl, p, g, rfl, P1, by omega, by omega, fun r H2 r0 r1 P2 s2 => ⟨_, _, rfl, rfl, ?_⟩⟩
        refine ⟨_, rfl, 1 + r, rfl, by omega, by omega, for_range (lo := 0) (n := (1 + r).toNat) (fun i σ H' => ∃ (n : Int) (v5 v6 : Option V), σ = [some (.ref p), some (.int g), some (.int kd), some (.int (1 + r)), some (.int n), v5, v6] ∧ 0 ≤ n ∧ n < 1000 ^ i ∧ PoolAt H' p ∧ SameBut p H H') ⟨0, none, none, rfl, by decide, by decide, P2, s1.trans s2⟩ ?_ ?_⟩
        · rintro i σ H' hi ⟨n, v5, v6, rfl, n0, n1, P', s'⟩
          refine ⟨_, rfl, _, _, rfl, rfl, _, rfl, ?_⟩
          refine iteD (fun _ => ?_) (fun z => absurd c2 z)
          refine ⟨_, rfl, p, 1000, rfl, P', by decide, by decide, fun q H3 q0 q1 P3 s3 => ?_⟩
          refine ⟨_, rfl, _, _, rfl, rfl, mulR ⟨by decide, by decide⟩, _, rfl, _, _, rfl, rfl, ?_⟩
          refine ⟨_, _, _, rfl, by omega, ?_, P3, s'.trans s3⟩
          rw [Int.pow_succ]; omega
        · rintro σ H' ⟨n, v5, v6, rfl, n0, n1, P', s'⟩
          refine ⟨_, rfl, k n H' n0 ?_ P' s'⟩
          have := pow_le (m := (1 + r).toNat) (n := g) (by omega)
          omega
      · refine ⟨_, rfl, g, rfl, by omega, by omega, for_range (lo := 0) (n := (g : Int).toNat) (fun i σ H' => ∃ (n : Int) (v5 v6 : Option V), σ = [some (.ref p), some (.int g), some (.int kd), some (.int g), some (.int n), v5, v6] ∧ 0 ≤ n ∧ n < 1000 ^ i ∧ H' = H1) ⟨0, none, none, rfl, by decide, by decide, rfl⟩ ?_ ?_⟩
        · rintro i σ H' hi ⟨n, v5, v6, rfl, n0, n1, rfl⟩
          refine ⟨_, rfl, _, _, rfl, rfl, _, rfl, ?_⟩
          refine iteD (fun z => absurd z c2) (fun _ => ?_)
          refine ⟨_, rfl, _, _, rfl, rfl, mulR ⟨by decide, by decide⟩, _, rfl, _, _, rfl, rfl, ?_⟩
          refine ⟨_, _, _, rfl, by omega, ?_, rfl⟩
          rw [Int.pow_succ]; omega
        · rintro σ H' ⟨n, v5, v6, rfl, n0, n1, rfl⟩
          exact ⟨_, rfl, k n _ n0 (by simpa using n1) P1 s1⟩
theorem ok_signed (T : Txt K mg A) : FnOk P w K mg base CX0 3 A.f_signed A.d_signed ["_law_pool_here", "_law_groups"] (spSigned) := by
  refine T.F_signed.ok sc_signed (fun vs H Q E h => ?_) (fun cdv Ar outer s H vs Q E hr h => ?_)
  · obtain ⟨p, g, rfl, _⟩ := h
    rfl
  · obtain ⟨p, g, rfl, hP, g1, g2, k⟩ := h
    refine ⟨_, (pss_cons (ps_set (i := 2) sc_signed.nd rfl (Or.inl rfl) (pe_call (ok_number T) (hr.mono (by decide)) rfl T.g_number T.F_number.kp T.b_number .nil pass0 (pa_cons (pv 0) (pa_cons (pv 1) pa_nil))))
        (pss_one (ps_ret (pe_op op_mulX (pv 2) (pe_op op_sub pe_int (pe_op op_mulX pe_int (pe_call (ok_draw T) (hr.mono (by decide)) rfl T.g_draw T.F_draw.kp T.b_draw .nil pass0 (pa_cons (pv 0) (pa_cons pe_int pa_nil))))))))), ?_⟩
    refine ⟨_, rfl, _, rfl, p, g, rfl, hP, g1, g2, fun r H1 r0 r1 P1 s1 => ?_⟩
    refine ⟨_, rfl, _, rfl, p, 2, rfl, P1, by decide, by decide, fun q H2 q0 q1 P2 s2 => ⟨_, _, rfl, rfl, mulL ⟨by decide, by decide⟩, _, _, rfl, rfl, _, _, rfl, rfl, mulR ⟨by omega, by omega⟩, ?_⟩⟩
    have hb := bits_of r0 r1
    refine k _ H2 ?_ P2 (s1.trans s2)
    rcases (show q = 0 ∨ q = 1 by omega) with rfl | rfl
    · exact hb.le (by simp)
    · exact hb.le (by simp)
theorem ok_near (T : Txt K mg A) : FnOk P w K mg base CX0 4 A.f_near A.d_near ["_law_pool_here", "_law_number_here"] (spNear) := by
  refine T.F_near.ok sc_near (fun vs H Q E h => ?_) (fun cdv Ar outer s H vs Q E hr h => ?_)
  · obtain ⟨p, n, rfl, _⟩ := h
    rfl
  · obtain ⟨p, n, rfl, hP, k⟩ := h
    refine ⟨_, (pss_cons (ps_set (i := 2) sc_near.nd rfl (Or.inl rfl) (pe_call (ok_draw T) (hr.mono (by decide)) rfl T.g_draw T.F_draw.kp T.b_draw .nil pass0 (pa_cons (pv 0) (pa_cons pe_int pa_nil))))
        (pss_cons (ps_if (pt_cmpR op_eq (pv 2) pe_int (nomark _)) (pss_one (ps_ret (pv 1))) pss_nil)
        (pss_cons (ps_if (PW.pt (pw_and (pt_cmpR op_eq (pv 2) pe_int (nomark _)) (pw_and1 (pt_cmpR op_gt (pv 1) pe_int (nomark _))))) (pss_one (ps_ret (pe_op op_sub (pv 1) pe_int))) pss_nil)
        (pss_cons (ps_if (pt_cmpR op_eq (pv 2) pe_int (nomark _)) (pss_one (ps_ret (pe_op op_add (pv 1) pe_int))) pss_nil)
        (pss_one (ps_ret (pe_call (ok_signed T) (hr.mono (by decide)) rfl T.g_signed T.F_signed.kp T.b_signed .nil pass0 (pa_cons (pv 0) (pa_cons pe_int pa_nil))))))))), ?_⟩
    refine ⟨_, rfl, p, 3, rfl, hP, by decide, by decide, fun w H1 w0 w1 P1 s1 => ?_⟩
    refine ⟨_, rfl, rfl, _, rfl, ?_⟩
    refine iteD (fun c => ⟨_, rfl, k n H1 P1 s1⟩) (fun c => ?_)
    refine ⟨_, rfl, rfl, _, rfl, ?_⟩
    refine iteD (fun c1 => ?_) (fun c1 => ?_)
    · refine ⟨_, rfl, _, _, rfl, rfl, _, rfl, ?_⟩
      refine iteD (fun c2 => ⟨_, rfl, _, _, rfl, rfl, k _ H1 P1 s1⟩) (fun c2 => ?_)
      refine ⟨_, rfl, rfl, _, rfl, ?_⟩
      refine iteD (fun c3 => ⟨_, rfl, _, _, rfl, rfl, k _ H1 P1 s1⟩) (fun c3 => absurd c1 c3)
    · refine iteF ?_
      refine ⟨_, rfl, rfl, _, rfl, ?_⟩
      refine iteD (fun c3 => absurd c3 c1) (fun c3 => ⟨_, rfl, p, 10, rfl, P1, by decide, by decide, fun r H2 hr P2 s2 => k r H2 P2 (s1.trans s2)⟩)
theorem ok_row (T : Txt K mg A) : FnOk P w K mg base CX0 5 A.f_row A.d_row ["_law_numbers"] (spRow A) := by
  refine T.F_row.ok sc_row (fun vs H Q E h => ?_) (fun cdv Ar outer s H vs Q E hr h => ?_)
  · obtain ⟨l, xs, rfl, _⟩ := h
    rfl
  · obtain ⟨l, xs, rfl, hl, hg, k⟩ := h
    refine ⟨_, (pss_cons (ps_if (pt_cmpR op_eq (pe_callB (call_len_seqK K) (by rfl) T.n_len (by decide +kernel) (pa_cons (pv 0) pa_nil)) pe_int (nomark _)) (pss_one (ps_ret (StX.pe_makeR T.mk_Amounts (ok_Amounts_init T) (hr.mono (by decide)) rfl T.g_Amounts passL (pa_cons (pe_ix (ix_listK K) (pv 0) pe_int (fun _ _ => rfl)) pa_nil)))) pss_nil)
        (pss_cons (ps_if (pt_cmpR op_eq (pe_callB (call_len_seqK K) (by rfl) T.n_len (by decide +kernel) (pa_cons (pv 0) pa_nil)) pe_int (nomark _)) (pss_one (ps_ret (StX.pe_makeR T.mk_Amounts (ok_Amounts_init T) (hr.mono (by decide)) rfl T.g_Amounts passL (pa_cons (pe_ix (ix_listK K) (pv 0) pe_int (fun _ _ => rfl)) (pa_cons (pe_ix (ix_listK K) (pv 0) pe_int (fun _ _ => rfl)) pa_nil))))) pss_nil)
        (pss_one (ps_ret (StX.pe_makeR T.mk_Amounts (ok_Amounts_init T) (hr.mono (by decide)) rfl T.g_Amounts passL (pa_cons (pe_ix (ix_listK K) (pv 0) pe_int (fun _ _ => rfl)) (pa_cons (pe_ix (ix_listK K) (pv 0) pe_int (fun _ _ => rfl)) (pa_cons (pe_ix (ix_listK K) (pv 0) pe_int (fun _ _ => rfl)) pa_nil)))))))), ?_⟩
    rcases few_cases hg with ⟨a, rfl⟩ | ⟨a, b, rfl⟩ | ⟨a, b, c, rfl⟩
    · refine ⟨_, rfl, l, _, rfl, .inl (SqL.of hl), rfl, _, rfl, ?_⟩
      refine iteD (fun _ => ?_) (fun z => absurd rfl z)
      refine ⟨_, rfl, l, _, 0, _, rfl, rfl, SqL.of hl, atI_nat (j := 0) rfl, ?_⟩
      exact amt_made hg k
    · refine ⟨_, rfl, l, _, rfl, .inl (SqL.of hl), rfl, _, rfl, ?_⟩
      refine iteD (fun z => (ne_len (by show (2 : Int) ≠ 1; decide) z).elim) (fun _ => ?_)
      refine ⟨_, rfl, l, _, rfl, .inl (SqL.of hl), rfl, _, rfl, ?_⟩
      refine iteD (fun _ => ?_) (fun z => absurd rfl z)
      refine ⟨_, rfl, l, _, 0, _, rfl, rfl, SqL.of hl, atI_nat (j := 0) rfl, _, rfl, l, _, 1, _, rfl, rfl, SqL.of hl, atI_nat (j := 1) rfl, ?_⟩
      exact amt_made hg k
    · refine ⟨_, rfl, l, _, rfl, .inl (SqL.of hl), rfl, _, rfl, ?_⟩
      refine iteD (fun z => (ne_len (by show (3 : Int) ≠ 1; decide) z).elim) (fun _ => ?_)
      refine ⟨_, rfl, l, _, rfl, .inl (SqL.of hl), rfl, _, rfl, ?_⟩
      refine iteD (fun z => (ne_len (by show (3 : Int) ≠ 2; decide) z).elim) (fun _ => ?_)
      refine ⟨_, rfl, l, _, 0, _, rfl, rfl, SqL.of hl, atI_nat (j := 0) rfl, _, rfl, l, _, 1, _, rfl, rfl, SqL.of hl, atI_nat (j := 1) rfl, _, rfl, l, _, 2, _, rfl, rfl, SqL.of hl, atI_nat (j := 2) rfl, ?_⟩
      exact amt_made hg k
theorem ok_whole (T : Txt K mg A) : FnOk P w K mg base CX0 1 A.f_whole A.d_whole ["_law_value"] (spWhole) := by
  refine T.F_whole.ok sc_whole (fun vs H Q E h => ?_) (fun cdv Ar outer s H vs Q E hr h => ?_)
  · obtain ⟨i, rfl, _⟩ := h
    rfl
  · obtain ⟨i, rfl, k⟩ := h
    refine ⟨_, (pss_one (ps_ret (pe_and (pe_callB (call_isiK' K) (by rfl) T.n_isinstance (by decide +kernel) (pa_cons (pv 0) (pa_cons (pe_bltn (v := .ty "int") (by rfl) T.n_int (by decide +kernel) rfl) pa_nil))) (pe_one (pe_not (pe_callB (call_isiK' K) (by rfl) T.n_isinstance (by decide +kernel) (pa_cons (pv 0) (pa_cons (pe_bltn (v := .ty "bool") (by rfl) T.n_bool (by decide +kernel) rfl) pa_nil)))))))), ?_⟩
    exact ⟨_, rfl, _, _, _, _, true, rfl, .ty _, .base (.int _), kit_ty (by decide +kernel), true, rfl, iteT ⟨_, rfl, _, _, _, _, false, rfl, .ty _, .base (.int _), kit_ty (by decide +kernel), false, rfl, k⟩⟩
theorem ok_is (T : Txt K mg A) : FnOk P w K mg base CX0 6 A.f_is A.d_is ["_law_row_here", "_law_numbers"] (spIs A) := by
  refine T.F_is.ok sc_is (fun vs H Q E h => ?_) (fun cdv Ar outer s H vs Q E hr h => ?_)
  · obtain ⟨x, l, xs, rfl, _⟩ := h
    rfl
  · obtain ⟨x, l, xs, rfl, hX, hl, hg, k⟩ := h
    refine ⟨_, (pss_cons (ps_if (PW.pt (pw_or (pt_not (pt_val (pe_callB (call_isiK' K) (by rfl) T.n_isinstance (by decide +kernel) (pa_cons (pv 0) (pa_cons (pe_glob (v := .ref A.c_Amounts) rfl T.g_Amounts rfl) pa_nil))) (by intro _; rfl))) (pw_or (pt_not (pt_val (pe_callB (call_isiK' K) (by rfl) T.n_isinstance (by decide +kernel) (pa_cons (pe_fldK K (pv 0) rfl) (pa_cons (pe_bltn (v := .ty "tuple") (by rfl) T.n_tuple (by decide +kernel) rfl) pa_nil))) (by intro _; rfl))) (pw_or1 (pt_cmpR (op_neDK K hr.units) (pe_callTy call_list_of (by rfl) T.n_list (by decide +kernel) (pa_cons (pe_fldK K (pv 0) rfl) pa_nil)) (pv 1) (nomark _)))))) (pss_one (ps_ret pe_bl)) pss_nil)
        (pss_cons (ps_if (PW.pt (pw_or (pt_cmpR op_ne (pe_callB (call_lenOwn T.me_Amounts_len (ok_Amounts_len T) (hr.mono (by decide)) T.b_Amounts_len pass0) (by rfl) T.n_len (by decide +kernel) (pa_cons (pv 0) pa_nil)) (pe_callB (call_len_seqK K) (by rfl) T.n_len (by decide +kernel) (pa_cons (pv 1) pa_nil)) (nomark _)) (pw_or (pt_cmpR (op_neDK K hr.units) (pe_callTy (call_listItK K T.me_Amounts_iter T.me_Amounts_len (ok_Amounts_iter T) (ok_Amounts_len T) T.b_Amounts_iter T.b_Amounts_len (hr.mono (by decide)) (hr.mono (by decide))) (by rfl) T.n_list (by decide +kernel) (pa_cons (pv 0) pa_nil)) (pv 1) (nomark _)) (pw_or1 (pt_cmpR op_ne (pe_callTy (call_boolOwn T.me_Amounts_bool (ok_Amounts_bool T) (hr.mono (by decide)) T.b_Amounts_bool pass0) (by rfl) T.n_bool (by decide +kernel) (pa_cons (pv 0) pa_nil)) (pe_cmpR (op_neDK K hr.units) (pv 1) (pe_op op_rep (pe_lst (pa_cons pe_int pa_nil)) (pe_callB (call_len_seqK K) (by rfl) T.n_len (by decide +kernel) (pa_cons (pv 1) pa_nil))) (nomark _)) (nomark _)))))) (pss_one (ps_ret pe_bl)) pss_nil)
        (pss_cons (ps_for PassesOwn.never rfl (pi_range1 rfl T.n_range (pa_cons (pe_callB (call_len_seqK K) (by rfl) T.n_len (by decide +kernel) (pa_cons (pv 1) pa_nil)) pa_nil)) (pg_name (i := 2) sc_is.nd rfl (Or.inl rfl))
        (pss_one (ps_if (PW.pt (pw_or (pt_not (pt_val (pe_call (ok_whole T) (hr.mono (by decide)) rfl T.g_whole T.F_whole.kp T.b_whole .nil pass0 (pa_cons (pe_ix (ix_tupK K) (pe_fldK K (pv 0) rfl) (pv 2) (fun _ _ => rfl)) pa_nil)) (by intro _; rfl))) (pw_or (pt_not (pt_val (pe_call (ok_whole T) (hr.mono (by decide)) rfl T.g_whole T.F_whole.kp T.b_whole .nil pass0 (pa_cons (pe_ixOwn T.me_Amounts_getitem T.fn_Amounts_getitem (ok_Amounts_getitem T) (hr.mono (by decide)) T.b_Amounts_getitem pass0 (pv 0) (pv 2)) pa_nil)) (by intro _; rfl))) (pw_or1 (pt_cmpR op_ne (pe_ixOwn T.me_Amounts_getitem T.fn_Amounts_getitem (ok_Amounts_getitem T) (hr.mono (by decide)) T.b_Amounts_getitem pass0 (pv 0) (pv 2)) (pe_ix (ix_listK K) (pv 1) (pv 2) (fun _ _ => rfl)) (nomark _)))))) (pss_one (ps_ret pe_bl)) pss_nil)))
        (pss_one (ps_ret pe_bl))))), ?_⟩
    obtain ⟨dx, t, hx, ht⟩ := id hX
    have hn3 := hg.2
    refine ⟨_, rfl, _, _, _, _, true, rfl, .own _, .base (.ins hx T.cl_Amounts T.k1_Amounts T.kg T.kt T.k4_Amounts), kit_same, true, rfl, iteF ⟨_, rfl, x, A.c_Amounts, dx, _, _, rfl, hx, T.cl_Amounts, T.no_Amounts_numbers, afl_numbers _, _, _, _, _, true, rfl, .ty _, .base (.tup ht), kit_ty (by decide +kernel), true, rfl, iteF ?_⟩⟩
    refine ⟨_, rfl, x, A.c_Amounts, dx, _, _, rfl, hx, T.cl_Amounts, T.no_Amounts_numbers, afl_numbers _, t, _, rfl, .inr (SqT.of ht), fun l1 hl1 => ?_⟩
    have s1 := same_new (o := .lst (xs.map V.int)) hl1
    have e1 : (upd H l1 (.lst (xs.map V.int))) l1 = some (.lst (xs.map V.int)) := upd_same
    refine ⟨_, rfl, _, _, .lst (SqL.of e1) (dpInts xs), .lst (SqL.of (s1 _ _ hl)) (dpInts xs), shL xs, shL xs, _, rfl, ?_⟩
    rw [eqvL, decide_eq_true rfl]
    refine iteF ?_
    generalize upd H l1 (.lst (xs.map V.int)) = H1 at s1 e1 ⊢
    refine ⟨_, rfl, x, dx, _, rfl, s1 _ _ hx, x, dx, t, _, rfl, s1 _ _ hx, s1 _ _ ht, _, rfl, by omega, by rw [List.length_map]; omega, _, rfl, l, _, rfl, .inl (SqL.of (s1 _ _ hl)), rfl, _, rfl, iteNS rfl ?_⟩
    refine ⟨_, rfl, ?_⟩
    dsimp only [tNil]
    refine listIt (hX.mono s1) hg ?_
    intro l2 H2 q2 hl2
    have s2 := s1.trans q2
    refine ⟨_, rfl, _, _, .lst (SqL.of hl2) (dpInts xs), .lst (SqL.of (s2 _ _ hl)) (dpInts xs), shL xs, shL xs, _, rfl, ?_⟩
    rw [eqvL, decide_eq_true rfl]
    refine iteF ?_
    refine ⟨_, rfl, _, rfl, x, dx, _, rfl, s2 _ _ hx, x, xs, rfl, hX.mono s2, hg, fun H3 q3 => ⟨_, rfl, ?_⟩⟩
    have s3 := s2.trans q3
    refine ⟨_, rfl, (by show 1 ≤ sizeLine; decide), fun z hz => ?_⟩
    have s4 := s3.trans (same_new (o := .lst [.int 0]) hz)
    refine ⟨_, rfl, l, _, rfl, .inl (SqL.of (s4 _ _ hl)), z, _, _, rfl, rfl, upd_same, by omega, by rw [List.length_map]; omega, ?_, fun p hp => ?_⟩
    · rw [sizeLine_eq, List.length_map, Int.toNat_natCast]; show 1 * xs.length ≤ _; omega
    have s5 := s4.trans (same_new (o := (.lst (List.replicate (((xs.map V.int).length : Nat) : Int).toNat [V.int 0]).flatten)) hp)
    refine ⟨_, _, .lst (SqL.of (s5 _ _ hl)) (dpInts xs), .lst (SqL.of upd_same) (by rw [List.length_map, rep0]; exact dpInts (List.replicate xs.length 0)), shL xs, shL _, rfl, _, rfl, ?_⟩
    rw [eqvL, any_zero]
    refine iteNS rfl ?_
    generalize upd (upd H3 z (.lst [.int 0])) p (.lst (List.replicate (((xs.map V.int).length : Nat) : Int).toNat [V.int 0]).flatten) = H5 at s5 ⊢
    refine ⟨_, rfl, l, _, rfl, .inl (SqL.of (s5 _ _ hl)), _, rfl, by omega, by rw [List.length_map]; omega, for_range (lo := 0) (n := ((xs.map V.int).length : Int).toNat) (fun i σ H' => ∃ v, σ = [some (.ref x), some (.ref l), v] ∧ H' = H5) ⟨none, rfl, rfl⟩ ?_ ?_⟩
    · rintro i σ H' hi ⟨v, rfl, rfl⟩
      have hi' : i < xs.length := by rw [List.length_map] at hi; omega
      have hz1 : xs[i]? = some xs[i] := List.getElem?_eq_getElem hi'
      have hat : atI (xs.map V.int) ((0 : Int) + (i : Nat)) = some (.int xs[i]) := by rw [Int.zero_add]; exact atI_nat (by rw [List.getElem?_map, hz1]; rfl)
      refine ⟨_, rfl, x, A.c_Amounts, dx, _, _, rfl, (s5 _ _ hx), T.cl_Amounts, T.no_Amounts_numbers, afl_numbers _, _, rfl, t, _, _, _, rfl, rfl, SqT.of (s5 _ _ ht), hat, xs[i], rfl, true, rfl, iteF ?_⟩
      refine ⟨_, rfl, _, rfl, x, dx, _, _, rfl, s5 _ _ hx, rfl, x, xs, i, xs[i], rfl, hX.mono s5, hz1, xs[i], rfl, true, rfl, iteF ?_⟩
      refine ⟨_, rfl, _, rfl, x, dx, _, _, rfl, s5 _ _ hx, rfl, x, xs, i, xs[i], rfl, hX.mono s5, hz1, _, rfl, _, rfl, l, _, _, _, rfl, rfl, SqL.of (s5 _ _ hl), hat, rfl, _, rfl, iteNS rfl ?_⟩
      exact ⟨_, rfl, rfl⟩
    · rintro σ H' ⟨v, rfl, rfl⟩
      exact k H' s5
theorem ok_within (T : Txt K mg A) : FnOk P w K mg base CX0 1 A.f_within A.d_within ["_law_inner", "_law_outer"] (spWithin) := by
  refine T.F_within.ok sc_within (fun vs H Q E h => ?_) (fun cdv Ar outer s H vs Q E hr h => ?_)
  · obtain ⟨l, m, xs, ys, rfl, _⟩ := h
    rfl
  · obtain ⟨l, m, xs, ys, rfl, hl, hm, hg, he, k⟩ := h
    refine ⟨_, (pss_cons (ps_for PassesOwn.never rfl (pi_range1 rfl T.n_range (pa_cons (pe_callB (call_len_seqK K) (by rfl) T.n_len (by decide +kernel) (pa_cons (pv 0) pa_nil)) pa_nil)) (pg_name (i := 2) sc_within.nd rfl (Or.inl rfl))
        (pss_one (ps_if (pt_cmpR op_gt (pe_ix (ix_listK K) (pv 0) (pv 2) (fun _ _ => rfl)) (pe_ix (ix_listK K) (pv 1) (pv 2) (fun _ _ => rfl)) (nomark _)) (pss_one (ps_ret pe_bl)) pss_nil)))
        (pss_one (ps_ret pe_bl))), ?_⟩
    have hn3 := hg.2
    refine ⟨_, rfl, l, _, rfl, .inl (SqL.of hl), _, rfl, by omega, by rw [List.length_map]; omega, for_range (lo := 0) (n := ((xs.map V.int).length : Int).toNat) (fun i σ H' => ∃ v, σ = [some (.ref l), some (.ref m), v] ∧ H' = H ∧ ∀ (j : Nat) (a b : Int), j < i → xs[j]? = some a → ys[j]? = some b → a ≤ b) ⟨none, rfl, rfl, fun j a b h => absurd h (Nat.not_lt_zero _)⟩ ?_ ?_⟩
    · rintro i σ H' hi ⟨v, rfl, rfl, hle⟩
      have hi' : i < xs.length := by rw [List.length_map] at hi; omega
      have hz1 : xs[i]? = some xs[i] := List.getElem?_eq_getElem hi'
      have hz2 : ys[i]? = some (ys[i]'(by omega)) := List.getElem?_eq_getElem (by omega)
      generalize xs[i] = a at hz1
      generalize ys[i]'(by omega) = b at hz2
      have hat : atI (xs.map V.int) ((0 : Int) + (i : Nat)) = some (.int a) := by rw [Int.zero_add]; exact atI_nat (by rw [List.getElem?_map, hz1]; rfl)
      have hat2 : atI (ys.map V.int) ((0 : Int) + (i : Nat)) = some (.int b) := by rw [Int.zero_add]; exact atI_nat (by rw [List.getElem?_map, hz2]; rfl)
      refine ⟨_, rfl, _, rfl, l, _, _, _, rfl, rfl, SqL.of hl, hat, _, rfl, _, rfl, m, _, _, _, rfl, rfl, SqL.of hm, hat2, _, _, rfl, rfl, _, rfl, ?_⟩
      refine iteD (fun c => ?_) (fun c => ?_)
      · rw [wi_false hz1 hz2 (by omega)] at k
        exact k
      · refine ⟨_, rfl, rfl, fun j a' b' hj h1 h2 => ?_⟩
        by_cases hji : j < i
        · exact hle j a' b' hji h1 h2
        · have e : j = i := by omega
          subst e
          rw [hz1] at h1; rw [hz2] at h2
          have := Option.some.inj h1; have := Option.some.inj h2
          omega
    · rintro σ H' ⟨v, rfl, rfl, hle⟩
      rw [List.length_map, Int.toNat_natCast] at hle
      rw [wi_true (fun j a b h1 h2 => hle j a b (List.getElem?_eq_some_iff.mp h1).1 h1 h2)] at k
      exact k
theorem ok_subject (T : Txt K mg A) : FnOk P w K mg base CX0 10 A.f_subject A.d_subject ["_law_one", "_law_other", "_law_way"] (spSubject A) := by
  refine T.F_subject.ok sc_subject (fun vs H Q E h => ?_) (fun cdv Ar outer s H vs Q E hr h => ?_)
  · obtain ⟨x, y, xs, ys, w, rfl, _⟩ := h
    rfl
  · obtain ⟨x, y, xs, ys, w, rfl, hX, hY, hg, hne, k⟩ := h
    refine ⟨_, (pss_cons (ps_try_as (i := 3) rfl rfl sc_subject.nd rfl rfl ⟨rfl, by decide, Or.inl T.g_GangError⟩ takes0 (fun W pn xe tk _ => (pss_one (ps_if (pt_cmpR op_eq (pv 2) pe_int (nomark _)) (pss_one (ps_set (i := 4) sc_subject.nd rfl (Or.inl rfl) (pe_opS T.me_Amounts_add T.sf_Amounts T.i_Amounts_add (ok_Amounts_add T) (hr.mono (by decide)) T.b_Amounts_add (fun σ => passAt tk σ) (pv 0) (pv 1)))) (pss_one (ps_if (pt_cmpR op_eq (pv 2) pe_int (nomark _)) (pss_one (ps_set (i := 4) sc_subject.nd rfl (Or.inl rfl) (pe_opS T.me_Amounts_sub T.sf_Amounts T.i_Amounts_sub (ok_Amounts_sub T) (hr.mono (by decide)) T.b_Amounts_sub (fun σ => passAt tk σ) (pv 0) (pv 1)))) (pss_one (ps_if (pt_cmpR op_eq (pv 2) pe_int (nomark _)) (pss_one (ps_set (i := 4) sc_subject.nd rfl (Or.inl rfl) (pe_opS T.me_Amounts_and T.sf_Amounts T.i_Amounts_and (ok_Amounts_and T) (hr.mono (by decide)) T.b_Amounts_and (fun σ => passAt tk σ) (pv 0) (pv 1)))) (pss_one (ps_if (pt_cmpR op_eq (pv 2) pe_int (nomark _)) (pss_one (ps_set (i := 4) sc_subject.nd rfl (Or.inl rfl) (pe_opS T.me_Amounts_or T.sf_Amounts T.i_Amounts_or (ok_Amounts_or T) (hr.mono (by decide)) T.b_Amounts_or (fun σ => passAt tk σ) (pv 0) (pv 1)))) (pss_one (ps_if (pt_cmpR op_eq (pv 2) pe_int (nomark _)) (pss_one (ps_set (i := 4) sc_subject.nd rfl (Or.inl rfl) (pe_inT T.me_Amounts_contains (ok_Amounts_contains T) (hr.mono (by decide)) T.b_Amounts_contains (fun σ => passAt tk σ) (pv 1) (pv 0) (by rfl)))) (pss_one (ps_if (pt_cmpR op_eq (pv 2) pe_int (nomark _)) (pss_one (ps_set (i := 4) sc_subject.nd rfl (Or.inl rfl) (pe_opS T.me_Amounts_floordiv T.sf_Amounts T.i_Amounts_floordiv (ok_Amounts_floordiv T) (hr.mono (by decide)) T.b_Amounts_floordiv (fun σ => passAt tk σ) (pv 0) (pv 1)))) (pss_one (ps_set (i := 4) sc_subject.nd rfl (Or.inl rfl) (pe_opS T.me_Amounts_mod T.sf_Amounts T.i_Amounts_mod (ok_Amounts_mod T) (hr.mono (by decide)) T.b_Amounts_mod (fun σ => passAt tk σ) (pv 0) (pv 1))))))))))))))))) (fun a oe cls d pn hz hf => (pss_cons (ps_if (PW.pt (pw_and (pt_val (pe_callB (call_isX hz hf) (by rfl) T.n_isinstance (by decide +kernel) (pa_cons (pv 3) (pa_cons (pe_glob (v := .ref A.c_BadAmounts) rfl T.g_BadAmounts rfl) pa_nil))) (by intro _; rfl)) (pw_and (pt_val (pe_callB (call_isX hz hf) (by rfl) T.n_isinstance (by decide +kernel) (pa_cons (pv 3) (pa_cons (pe_bltn (v := .ty "ValueError") (by rfl) T.n_ValueError (by decide +kernel) rfl) pa_nil))) (by intro _; rfl)) (pw_and1 (pt_not (pt_val (pe_callB (call_isXT hz hf) (by rfl) T.n_isinstance (by decide +kernel) (pa_cons (pv 3) (pa_cons (pe_tup (pa_cons (pe_glob (v := .ref A.c_BadShare) rfl T.g_BadShare rfl) (pa_cons (pe_glob (v := .ref A.c_BadSpan) rfl T.g_BadSpan rfl) pa_nil))) pa_nil))) (by intro _; rfl))))))) (pss_one (ps_ret (pe_lst (pa_cons (pe_xf T.xf_BadAmounts T.x_BadAmounts.noS hz hf (pv 3)) pa_nil)))) pss_nil)
        (pss_one (ps_ret (pe_lst pa_nil))))))
        (pss_one (ps_ret (pe_slice sl_list (pe_lst (pa_cons (pv 4) pa_nil)) po_none (po_some pe_int))))), ?_⟩
    obtain ⟨dx, tx, hx, htx⟩ := id hX
    obtain ⟨dy, ty, hy, hty⟩ := id hY
    refine ⟨_, rfl, rfl, _, rfl, ?_⟩
    refine iteD (fun c0 => ?_) (fun c0 => ?_)
    · refine ⟨_, rfl, _, rfl, x, dx, _, rfl, hx, .inl ⟨y, dy, _, rfl, hy⟩, x, y, xs, ys, rfl, hX, hY, hne, ?_⟩
      intro t d H' sm et e2
      refine ⟨true, T.xm_BadAmounts, fun _ ex hex => ?_, fun q => nomatch q⟩
      refine ⟨_, rfl, _, _, true, _, d, _, rfl, (fun u r => r), rfl, T.xc_BadAmounts, rfl, e2, T.kt_BadAmounts_BadAmounts, true, rfl, iteT ⟨_, rfl, _, _, true, _, d, _, rfl, (fun u r => r), rfl, T.xc_BadAmounts, rfl, e2, T.kt_BadAmounts_ValueError, true, rfl, iteT ?_⟩⟩
      refine ⟨_, rfl, (by show 2 ≤ sizeLine; decide), fun tp htp => ⟨tp, _, [.ref A.c_BadShare, .ref A.c_BadSpan], false, _, d, _, rfl, upd_same, .cons (.own _) (.cons (.own _) .nil), rfl, T.xc_BadAmounts, rfl, same_new htp _ _ e2, kit_any2 T.kt_BadAmounts_BadShare T.kt_BadAmounts_BadSpan, false, rfl, iteT ?_⟩⟩
      have s2 := same_new (o := .tup [.ref A.c_BadShare, .ref A.c_BadSpan]) htp
      exact ⟨_, rfl, rfl, rfl, d, _, .ref t, rfl, s2 _ _ e2, by simp [List.lookup], (by show 1 ≤ sizeLine; decide), fun l hl => k l t _ (sm.trans (s2.trans (same_new hl))) upd_same (same_new hl _ _ (s2 _ _ et))⟩
    refine ⟨_, rfl, rfl, _, rfl, ?_⟩
    refine iteD (fun c1 => ?_) (fun c1 => ?_)
    · refine ⟨_, rfl, _, rfl, x, dx, _, rfl, hx, .inl ⟨y, dy, _, rfl, hy⟩, x, y, xs, ys, rfl, hX, hY, hne, ?_⟩
      intro t d H' sm et e2
      refine ⟨true, T.xm_BadAmounts, fun _ ex hex => ?_, fun q => nomatch q⟩
      refine ⟨_, rfl, _, _, true, _, d, _, rfl, (fun u r => r), rfl, T.xc_BadAmounts, rfl, e2, T.kt_BadAmounts_BadAmounts, true, rfl, iteT ⟨_, rfl, _, _, true, _, d, _, rfl, (fun u r => r), rfl, T.xc_BadAmounts, rfl, e2, T.kt_BadAmounts_ValueError, true, rfl, iteT ?_⟩⟩
      refine ⟨_, rfl, (by show 2 ≤ sizeLine; decide), fun tp htp => ⟨tp, _, [.ref A.c_BadShare, .ref A.c_BadSpan], false, _, d, _, rfl, upd_same, .cons (.own _) (.cons (.own _) .nil), rfl, T.xc_BadAmounts, rfl, same_new htp _ _ e2, kit_any2 T.kt_BadAmounts_BadShare T.kt_BadAmounts_BadSpan, false, rfl, iteT ?_⟩⟩
      have s2 := same_new (o := .tup [.ref A.c_BadShare, .ref A.c_BadSpan]) htp
      exact ⟨_, rfl, rfl, rfl, d, _, .ref t, rfl, s2 _ _ e2, by simp [List.lookup], (by show 1 ≤ sizeLine; decide), fun l hl => k l t _ (sm.trans (s2.trans (same_new hl))) upd_same (same_new hl _ _ (s2 _ _ et))⟩
    refine ⟨_, rfl, rfl, _, rfl, ?_⟩
    refine iteD (fun c2 => ?_) (fun c2 => ?_)
    · refine ⟨_, rfl, _, rfl, x, dx, _, rfl, hx, .inl ⟨y, dy, _, rfl, hy⟩, x, y, xs, ys, rfl, hX, hY, hg, fun e => absurd e hne, fun _ => ?_⟩
      intro t d H' sm et e2
      refine ⟨true, T.xm_BadAmounts, fun _ ex hex => ?_, fun q => nomatch q⟩
      refine ⟨_, rfl, _, _, true, _, d, _, rfl, (fun u r => r), rfl, T.xc_BadAmounts, rfl, e2, T.kt_BadAmounts_BadAmounts, true, rfl, iteT ⟨_, rfl, _, _, true, _, d, _, rfl, (fun u r => r), rfl, T.xc_BadAmounts, rfl, e2, T.kt_BadAmounts_ValueError, true, rfl, iteT ?_⟩⟩
      refine ⟨_, rfl, (by show 2 ≤ sizeLine; decide), fun tp htp => ⟨tp, _, [.ref A.c_BadShare, .ref A.c_BadSpan], false, _, d, _, rfl, upd_same, .cons (.own _) (.cons (.own _) .nil), rfl, T.xc_BadAmounts, rfl, same_new htp _ _ e2, kit_any2 T.kt_BadAmounts_BadShare T.kt_BadAmounts_BadSpan, false, rfl, iteT ?_⟩⟩
      have s2 := same_new (o := .tup [.ref A.c_BadShare, .ref A.c_BadSpan]) htp
      exact ⟨_, rfl, rfl, rfl, d, _, .ref t, rfl, s2 _ _ e2, by simp [List.lookup], (by show 1 ≤ sizeLine; decide), fun l hl => k l t _ (sm.trans (s2.trans (same_new hl))) upd_same (same_new hl _ _ (s2 _ _ et))⟩
    refine ⟨_, rfl, rfl, _, rfl, ?_⟩
    refine iteD (fun c3 => ?_) (fun c3 => ?_)
    · refine ⟨_, rfl, _, rfl, x, dx, _, rfl, hx, .inl ⟨y, dy, _, rfl, hy⟩, x, y, xs, ys, rfl, hX, hY, hg, fun e => absurd e hne, fun _ => ?_⟩
      intro t d H' sm et e2
      refine ⟨true, T.xm_BadAmounts, fun _ ex hex => ?_, fun q => nomatch q⟩
      refine ⟨_, rfl, _, _, true, _, d, _, rfl, (fun u r => r), rfl, T.xc_BadAmounts, rfl, e2, T.kt_BadAmounts_BadAmounts, true, rfl, iteT ⟨_, rfl, _, _, true, _, d, _, rfl, (fun u r => r), rfl, T.xc_BadAmounts, rfl, e2, T.kt_BadAmounts_ValueError, true, rfl, iteT ?_⟩⟩
      refine ⟨_, rfl, (by show 2 ≤ sizeLine; decide), fun tp htp => ⟨tp, _, [.ref A.c_BadShare, .ref A.c_BadSpan], false, _, d, _, rfl, upd_same, .cons (.own _) (.cons (.own _) .nil), rfl, T.xc_BadAmounts, rfl, same_new htp _ _ e2, kit_any2 T.kt_BadAmounts_BadShare T.kt_BadAmounts_BadSpan, false, rfl, iteT ?_⟩⟩
      have s2 := same_new (o := .tup [.ref A.c_BadShare, .ref A.c_BadSpan]) htp
      exact ⟨_, rfl, rfl, rfl, d, _, .ref t, rfl, s2 _ _ e2, by simp [List.lookup], (by show 1 ≤ sizeLine; decide), fun l hl => k l t _ (sm.trans (s2.trans (same_new hl))) upd_same (same_new hl _ _ (s2 _ _ et))⟩
    refine ⟨_, rfl, rfl, _, rfl, ?_⟩
    refine iteD (fun c4 => ?_) (fun c4 => ?_)
    · refine ⟨_, rfl, _, rfl, x, dx, _, rfl, hx, x, y, xs, ys, rfl, hX, hY, hg, fun e => absurd e hne, fun _ => ?_⟩
      intro t d H' sm et e2
      refine ⟨true, T.xm_BadAmounts, fun _ ex hex => ?_, fun q => nomatch q⟩
      refine ⟨_, rfl, _, _, true, _, d, _, rfl, (fun u r => r), rfl, T.xc_BadAmounts, rfl, e2, T.kt_BadAmounts_BadAmounts, true, rfl, iteT ⟨_, rfl, _, _, true, _, d, _, rfl, (fun u r => r), rfl, T.xc_BadAmounts, rfl, e2, T.kt_BadAmounts_ValueError, true, rfl, iteT ?_⟩⟩
      refine ⟨_, rfl, (by show 2 ≤ sizeLine; decide), fun tp htp => ⟨tp, _, [.ref A.c_BadShare, .ref A.c_BadSpan], false, _, d, _, rfl, upd_same, .cons (.own _) (.cons (.own _) .nil), rfl, T.xc_BadAmounts, rfl, same_new htp _ _ e2, kit_any2 T.kt_BadAmounts_BadShare T.kt_BadAmounts_BadSpan, false, rfl, iteT ?_⟩⟩
      have s2 := same_new (o := .tup [.ref A.c_BadShare, .ref A.c_BadSpan]) htp
      exact ⟨_, rfl, rfl, rfl, d, _, .ref t, rfl, s2 _ _ e2, by simp [List.lookup], (by show 1 ≤ sizeLine; decide), fun l hl => k l t _ (sm.trans (s2.trans (same_new hl))) upd_same (same_new hl _ _ (s2 _ _ et))⟩
    refine ⟨_, rfl, rfl, _, rfl, ?_⟩
    refine iteD (fun c5 => ?_) (fun c5 => ?_)
    · refine ⟨_, rfl, _, rfl, x, dx, _, rfl, hx, .inl ⟨y, dy, _, rfl, hy⟩, x, y, xs, ys, rfl, hX, hY, hne, ?_⟩
      intro t d H' sm et e2
      refine ⟨true, T.xm_BadAmounts, fun _ ex hex => ?_, fun q => nomatch q⟩
      refine ⟨_, rfl, _, _, true, _, d, _, rfl, (fun u r => r), rfl, T.xc_BadAmounts, rfl, e2, T.kt_BadAmounts_BadAmounts, true, rfl, iteT ⟨_, rfl, _, _, true, _, d, _, rfl, (fun u r => r), rfl, T.xc_BadAmounts, rfl, e2, T.kt_BadAmounts_ValueError, true, rfl, iteT ?_⟩⟩
      refine ⟨_, rfl, (by show 2 ≤ sizeLine; decide), fun tp htp => ⟨tp, _, [.ref A.c_BadShare, .ref A.c_BadSpan], false, _, d, _, rfl, upd_same, .cons (.own _) (.cons (.own _) .nil), rfl, T.xc_BadAmounts, rfl, same_new htp _ _ e2, kit_any2 T.kt_BadAmounts_BadShare T.kt_BadAmounts_BadSpan, false, rfl, iteT ?_⟩⟩
      have s2 := same_new (o := .tup [.ref A.c_BadShare, .ref A.c_BadSpan]) htp
      exact ⟨_, rfl, rfl, rfl, d, _, .ref t, rfl, s2 _ _ e2, by simp [List.lookup], (by show 1 ≤ sizeLine; decide), fun l hl => k l t _ (sm.trans (s2.trans (same_new hl))) upd_same (same_new hl _ _ (s2 _ _ et))⟩
    refine ⟨_, rfl, _, rfl, x, dx, _, rfl, hx, .inl ⟨y, dy, _, rfl, hy⟩, x, y, xs, ys, rfl, hX, hY, hne, ?_⟩
    intro t d H' sm et e2
    refine ⟨true, T.xm_BadAmounts, fun _ ex hex => ?_, fun q => nomatch q⟩
    refine ⟨_, rfl, _, _, true, _, d, _, rfl, (fun u r => r), rfl, T.xc_BadAmounts, rfl, e2, T.kt_BadAmounts_BadAmounts, true, rfl, iteT ⟨_, rfl, _, _, true, _, d, _, rfl, (fun u r => r), rfl, T.xc_BadAmounts, rfl, e2, T.kt_BadAmounts_ValueError, true, rfl, iteT ?_⟩⟩
    refine ⟨_, rfl, (by show 2 ≤ sizeLine; decide), fun tp htp => ⟨tp, _, [.ref A.c_BadShare, .ref A.c_BadSpan], false, _, d, _, rfl, upd_same, .cons (.own _) (.cons (.own _) .nil), rfl, T.xc_BadAmounts, rfl, same_new htp _ _ e2, kit_any2 T.kt_BadAmounts_BadShare T.kt_BadAmounts_BadSpan, false, rfl, iteT ?_⟩⟩
    have s2 := same_new (o := .tup [.ref A.c_BadShare, .ref A.c_BadSpan]) htp
    exact ⟨_, rfl, rfl, rfl, d, _, .ref t, rfl, s2 _ _ e2, by simp [List.lookup], (by show 1 ≤ sizeLine; decide), fun l hl => k l t _ (sm.trans (s2.trans (same_new hl))) upd_same (same_new hl _ _ (s2 _ _ et))⟩
theorem ok_counted (T : Txt K mg A) : FnOk P w K mg base CX0 6 A.f_counted A.d_counted ["_law_numbers", "_law_many"] (spCounted A) := by
  refine T.F_counted.ok sc_counted (fun vs H Q E h => ?_) (fun cdv Ar outer s H vs Q E hr h => ?_)
  · obtain ⟨l, xs, m, rfl, _⟩ := h
    rfl
  · obtain ⟨l, xs, m, rfl, hl, h5, hm, k⟩ := h
    refine ⟨_, (pss_cons (ps_try_as (i := 2) rfl rfl sc_counted.nd rfl rfl ⟨rfl, by decide, Or.inl T.g_GangError⟩ takes0 (fun W pn xe tk _ => (pss_one (ps_if (pt_cmpR op_eq (pv 1) pe_int (nomark _)) (pss_one (ps_expr (pe_makeRT0 T.mk_Amounts (ok_Amounts_init T) (hr.mono (by decide)) rfl T.g_Amounts (fun σ => passAt tk σ) ))) (pss_one (ps_if (pt_cmpR op_eq (pv 1) pe_int (nomark _)) (pss_one (ps_expr (pe_makeRT T.mk_Amounts (ok_Amounts_init T) (hr.mono (by decide)) rfl T.g_Amounts (fun σ => passAt tk σ) (pa_cons (pe_ix (ix_listK K) (pv 0) pe_int (fun _ _ => rfl)) (pa_cons (pe_ix (ix_listK K) (pv 0) pe_int (fun _ _ => rfl)) (pa_cons (pe_ix (ix_listK K) (pv 0) pe_int (fun _ _ => rfl)) (pa_cons (pe_ix (ix_listK K) (pv 0) pe_int (fun _ _ => rfl)) pa_nil))))))) (pss_one (ps_expr (pe_makeRT T.mk_Amounts (ok_Amounts_init T) (hr.mono (by decide)) rfl T.g_Amounts (fun σ => passAt tk σ) (pa_cons (pe_ix (ix_listK K) (pv 0) pe_int (fun _ _ => rfl)) (pa_cons (pe_ix (ix_listK K) (pv 0) pe_int (fun _ _ => rfl)) (pa_cons (pe_ix (ix_listK K) (pv 0) pe_int (fun _ _ => rfl)) (pa_cons (pe_ix (ix_listK K) (pv 0) pe_int (fun _ _ => rfl)) (pa_cons (pe_ix (ix_listK K) (pv 0) pe_int (fun _ _ => rfl)) pa_nil))))))))))))) (fun a oe cls d pn hz hf => (pss_one (ps_ret (pe_and (pe_callB (call_isX hz hf) (by rfl) T.n_isinstance (by decide +kernel) (pa_cons (pv 2) (pa_cons (pe_glob (v := .ref A.c_BadAmounts) rfl T.g_BadAmounts rfl) pa_nil))) (pe_one (pe_cmpR (op_eqDK K hr.units) (pe_xf T.xf_BadAmounts T.x_BadAmounts.noS hz hf (pv 2)) (pe_callTy (call_tuple_ofK K) (by rfl) T.n_tuple (by decide +kernel) (pa_cons (pe_slice (sl_listK K) (pv 0) po_none (po_some (pv 1))) pa_nil)) (nomark _))))))))
        (pss_one (ps_ret pe_bl))), ?_⟩
    obtain ⟨n0, n1, n2, n3, n4, rfl⟩ : ∃ n0 n1 n2 n3 n4, xs = [n0, n1, n2, n3, n4] := by
      match xs, h5 with
      | [a, b, c, d, e], _ => exact ⟨a, b, c, d, e, rfl⟩
    refine ⟨_, rfl, rfl, _, rfl, ?_⟩
    rcases hm with rfl | rfl | rfl
    · refine iteD (fun _ => ?_) (fun z => absurd rfl z)
      intro x0 dx0 g1 g2 g3
      refine amt_off (H := H) (ys := ([] : List Int).map V.int) (by show 0 ≤ 1000; decide) (fun g => absurd g.1 (by show ¬ 1 ≤ 0; decide)) ?_ x0 dx0 g1 g2 g3
      intro t d H' sm et e2
      refine ⟨true, T.xm_BadAmounts, fun _ ex hex => ?_, fun q => nomatch q⟩
      refine ⟨_, rfl, _, _, true, _, d, _, rfl, (fun u r => r), rfl, T.xc_BadAmounts, rfl, e2, T.kt_BadAmounts_BadAmounts, true, rfl, iteT ?_⟩
      refine ⟨_, rfl, rfl, rfl, d, _, .ref t, rfl, e2, by simp [List.lookup], _, rfl, _, rfl, _, rfl, l, _, rfl, SqL.of (sm _ _ hl), fun p hp => ⟨p, _, rfl, .inl ⟨SqL.of upd_same, fun q hq => ?_⟩⟩⟩
      have s2 := (same_new (o := .lst (([] : List Int).map V.int)) hp).trans (same_new (o := .tup (([] : List Int).map V.int)) hq)
      refine ⟨_, _, .tup (SqT.of (s2 _ _ et)) (dpInts ([] : List Int)), .tup (SqT.of upd_same) (dpInts ([] : List Int)), shT ([] : List Int), shT ([] : List Int), ?_⟩
      rw [eqvT, decide_eq_true rfl]
      exact k _ (sm.trans s2)
    · refine iteD (fun z => (ne_len (by decide) z).elim) (fun _ => ?_)
      refine ⟨_, rfl, rfl, _, rfl, ?_⟩
      refine iteD (fun _ => ?_) (fun z => absurd rfl z)
      refine ⟨_, rfl, l, _, 0, _, rfl, rfl, SqL.of hl, atI_nat (j := 0) rfl, _, rfl, l, _, 1, _, rfl, rfl, SqL.of hl, atI_nat (j := 1) rfl, _, rfl, l, _, 2, _, rfl, rfl, SqL.of hl, atI_nat (j := 2) rfl, _, rfl, l, _, 3, _, rfl, rfl, SqL.of hl, atI_nat (j := 3) rfl, ?_⟩
      intro x0 dx0 g1 g2 g3
      refine amt_off (H := H) (ys := [n0, n1, n2, n3].map V.int) (by show 4 ≤ 1000; decide) (fun g => absurd g.2 (by show ¬ 4 ≤ 3; decide)) ?_ x0 dx0 g1 g2 g3
      intro t d H' sm et e2
      refine ⟨true, T.xm_BadAmounts, fun _ ex hex => ?_, fun q => nomatch q⟩
      refine ⟨_, rfl, _, _, true, _, d, _, rfl, (fun u r => r), rfl, T.xc_BadAmounts, rfl, e2, T.kt_BadAmounts_BadAmounts, true, rfl, iteT ?_⟩
      refine ⟨_, rfl, rfl, rfl, d, _, .ref t, rfl, e2, by simp [List.lookup], _, rfl, _, rfl, _, rfl, l, _, rfl, SqL.of (sm _ _ hl), fun p hp => ⟨p, _, rfl, .inl ⟨SqL.of upd_same, fun q hq => ?_⟩⟩⟩
      have s2 := (same_new (o := .lst ([n0, n1, n2, n3].map V.int)) hp).trans (same_new (o := .tup ([n0, n1, n2, n3].map V.int)) hq)
      refine ⟨_, _, .tup (SqT.of (s2 _ _ et)) (dpInts [n0, n1, n2, n3]), .tup (SqT.of upd_same) (dpInts [n0, n1, n2, n3]), shT [n0, n1, n2, n3], shT [n0, n1, n2, n3], ?_⟩
      rw [eqvT, decide_eq_true rfl]
      exact k _ (sm.trans s2)
    · refine iteD (fun z => (ne_len (by decide) z).elim) (fun _ => ?_)
      refine ⟨_, rfl, rfl, _, rfl, ?_⟩
      refine iteD (fun z => (ne_len (by decide) z).elim) (fun _ => ?_)
      refine ⟨_, rfl, l, _, 0, _, rfl, rfl, SqL.of hl, atI_nat (j := 0) rfl, _, rfl, l, _, 1, _, rfl, rfl, SqL.of hl, atI_nat (j := 1) rfl, _, rfl, l, _, 2, _, rfl, rfl, SqL.of hl, atI_nat (j := 2) rfl, _, rfl, l, _, 3, _, rfl, rfl, SqL.of hl, atI_nat (j := 3) rfl, _, rfl, l, _, 4, _, rfl, rfl, SqL.of hl, atI_nat (j := 4) rfl, ?_⟩
      intro x0 dx0 g1 g2 g3
      refine amt_off (H := H) (ys := [n0, n1, n2, n3, n4].map V.int) (by show 5 ≤ 1000; decide) (fun g => absurd g.2 (by show ¬ 5 ≤ 3; decide)) ?_ x0 dx0 g1 g2 g3
      intro t d H' sm et e2
      refine ⟨true, T.xm_BadAmounts, fun _ ex hex => ?_, fun q => nomatch q⟩
      refine ⟨_, rfl, _, _, true, _, d, _, rfl, (fun u r => r), rfl, T.xc_BadAmounts, rfl, e2, T.kt_BadAmounts_BadAmounts, true, rfl, iteT ?_⟩
      refine ⟨_, rfl, rfl, rfl, d, _, .ref t, rfl, e2, by simp [List.lookup], _, rfl, _, rfl, _, rfl, l, _, rfl, SqL.of (sm _ _ hl), fun p hp => ⟨p, _, rfl, .inl ⟨SqL.of upd_same, fun q hq => ?_⟩⟩⟩
      have s2 := (same_new (o := .lst ([n0, n1, n2, n3, n4].map V.int)) hp).trans (same_new (o := .tup ([n0, n1, n2, n3, n4].map V.int)) hq)
      refine ⟨_, _, .tup (SqT.of (s2 _ _ et)) (dpInts [n0, n1, n2, n3, n4]), .tup (SqT.of upd_same) (dpInts [n0, n1, n2, n3, n4]), shT [n0, n1, n2, n3, n4], shT [n0, n1, n2, n3, n4], ?_⟩
      rw [eqvT, decide_eq_true rfl]
      exact k _ (sm.trans s2)
theorem ok_pair (T : Txt K mg A) : FnOk P w K mg base CX0 8 A.f_pair A.d_pair ["_law_one", "_law_a", "_law_other", "_law_b", "_law_third", "_law_c"] (spPair A) := by
  refine T.F_pair.ok sc_pair (fun vs H Q E h => ?_) (fun cdv Ar outer s H vs Q E hr h => ?_)
  · obtain ⟨x, a, y, b, z, c, xs, ys, zs, rfl, _⟩ := h
    rfl
  · obtain ⟨x, a, y, b, z, c, xs, ys, zs, rfl, hX, hY, hZ, ha, hb, hc, hg, e1, e2, k⟩ := h
    refine ⟨_, (pss_cons (ps_setLc (i := 6) (own := [("_law_k", 8)]) (g := gName 8) (tt := tYes) rfl sc_pair.nd rfl rfl (sw_true rfl rfl rfl (by decide +kernel)) (pi_range1 rfl T.n_range (pa_cons (pe_callB (call_len_seqK K) (by rfl) T.n_len (by decide +kernel) (pa_cons (pv 1) pa_nil)) pa_nil)) (blkOk_by (N := ["_law_one", "_law_a", "_law_other", "_law_b", "_law_third", "_law_c", "_law_least", "_law_most", "_law_k"]) (sc := defScope s_pair) (by decide +kernel)) (fun _ _ _ _ _ => (pg_name (i := 8) sc_pair.nd rfl (Or.inl rfl))) (fun _ _ _ _ _ => pts_nil) (fun _ _ _ _ _ => (pe_callB (call_min2 rfl) (by rfl) T.n_min (by decide +kernel) (pa_cons (pe_ix (ix_listK K) (pv 1) (pv 8) (fun _ _ => rfl)) (pa_cons (pe_ix (ix_listK K) (pv 3) (pv 8) (fun _ _ => rfl)) pa_nil)))))
        (pss_cons (ps_setLc (i := 7) (own := [("_law_k", 8)]) (g := gName 8) (tt := tYes) rfl sc_pair.nd rfl rfl (sw_true rfl rfl rfl (by decide +kernel)) (pi_range1 rfl T.n_range (pa_cons (pe_callB (call_len_seqK K) (by rfl) T.n_len (by decide +kernel) (pa_cons (pv 1) pa_nil)) pa_nil)) (blkOk_by (N := ["_law_one", "_law_a", "_law_other", "_law_b", "_law_third", "_law_c", "_law_least", "_law_most", "_law_k"]) (sc := defScope s_pair) (by decide +kernel)) (fun _ _ _ _ _ => (pg_name (i := 8) sc_pair.nd rfl (Or.inl rfl))) (fun _ _ _ _ _ => pts_nil) (fun _ _ _ _ _ => (pe_callB (call_max2 rfl) (by rfl) T.n_max (by decide +kernel) (pa_cons (pe_ix (ix_listK K) (pv 1) (pv 8) (fun _ _ => rfl)) (pa_cons (pe_ix (ix_listK K) (pv 3) (pv 8) (fun _ _ => rfl)) pa_nil)))))
        (pss_cons (ps_if (PW.pt (pw_or (pt_not (pt_val (pe_call (ok_is T) (hr.mono (by decide)) rfl T.g_is T.F_is.kp T.b_is .nil pass0 (pa_cons (pe_op (op_own T.me_Amounts_and T.sf_Amounts (ok_Amounts_and T) (hr.mono (by decide)) T.b_Amounts_and passL) (pv 0) (pv 2)) (pa_cons (pv 6) pa_nil))) (by intro _; rfl))) (pw_or1 (pt_not (pt_val (pe_call (ok_is T) (hr.mono (by decide)) rfl T.g_is T.F_is.kp T.b_is .nil pass0 (pa_cons (pe_op (op_own T.me_Amounts_or T.sf_Amounts (ok_Amounts_or T) (hr.mono (by decide)) T.b_Amounts_or passL) (pv 0) (pv 2)) (pa_cons (pv 7) pa_nil))) (by intro _; rfl)))))) (pss_one (ps_ret pe_bl)) pss_nil)
        (pss_cons (ps_if (PW.pt (pw_or (pt_cmpR op_ne (pe_cmpR (op_inOwn T.me_Amounts_contains (ok_Amounts_contains T) (hr.mono (by decide)) T.b_Amounts_contains passL) (pv 2) (pv 0) (by rfl)) (pe_call (ok_within T) (hr.mono (by decide)) rfl T.g_within T.F_within.kp T.b_within .nil pass0 (pa_cons (pv 3) (pa_cons (pv 1) pa_nil))) (nomark _)) (pw_or1 (pt_cmpR op_ne (pe_callTy call_bool1 (by rfl) T.n_bool (by decide +kernel) (pa_cons (pe_cmpR (op_eqOwn T.me_Amounts_eq (ok_Amounts_eq T) (hr.mono (by decide)) T.b_Amounts_eq pass0) (pv 0) (pv 2) (nomark _)) pa_nil)) (pe_cmpR (op_eqDK K hr.units) (pv 1) (pv 3) (nomark _)) (nomark _))))) (pss_one (ps_ret pe_bl)) pss_nil)
        (pss_cons (ps_if (pt_cmpR op_ne (pe_cmpR (op_inOwn T.me_Amounts_contains (ok_Amounts_contains T) (hr.mono (by decide)) T.b_Amounts_contains passL) (pv 4) (pe_op (op_own T.me_Amounts_and T.sf_Amounts (ok_Amounts_and T) (hr.mono (by decide)) T.b_Amounts_and passL) (pv 0) (pv 2)) (by rfl)) (pe_and (pe_call (ok_within T) (hr.mono (by decide)) rfl T.g_within T.F_within.kp T.b_within .nil pass0 (pa_cons (pv 5) (pa_cons (pv 1) pa_nil))) (pe_one (pe_call (ok_within T) (hr.mono (by decide)) rfl T.g_within T.F_within.kp T.b_within .nil pass0 (pa_cons (pv 5) (pa_cons (pv 3) pa_nil))))) (nomark _)) (pss_one (ps_ret pe_bl)) pss_nil)
        (pss_one (ps_ret (pe_cmpR op_eq (pe_cmpR (op_inOwn T.me_Amounts_contains (ok_Amounts_contains T) (hr.mono (by decide)) T.b_Amounts_contains passL) (pe_op (op_own T.me_Amounts_or T.sf_Amounts (ok_Amounts_or T) (hr.mono (by decide)) T.b_Amounts_or passL) (pv 0) (pv 2)) (pv 4) (by rfl)) (pe_and (pe_call (ok_within T) (hr.mono (by decide)) rfl T.g_within T.F_within.kp T.b_within .nil pass0 (pa_cons (pv 1) (pa_cons (pv 5) pa_nil))) (pe_one (pe_call (ok_within T) (hr.mono (by decide)) rfl T.g_within T.F_within.kp T.b_within .nil pass0 (pa_cons (pv 3) (pa_cons (pv 5) pa_nil))))) (nomark _))))))))), ?_⟩
    have hn3 := hg.2
    have hgy : Few ys := by unfold Few at *; omega
    have hgz : Few zs := by unfold Few at *; omega
    have s0 : Same H H := Same.refl _
    refine ⟨_, rfl, a, _, rfl, .inl (SqL.of (s0 _ _ ha)), _, rfl, by omega, by rw [List.length_map]; omega, ?_⟩
    intro L hDL
    refine lc_range (lo := 0) (n := ((xs.map V.int).length : Int).toNat) (fun i H' => Same H H' ∧ H' L = some (.lst (((List.zipWith mn xs ys).take i).map V.int))) ⟨same_new hDL, upd_same⟩ ?_ ?_
    · rintro i H' hi ⟨s', hD'⟩
      have hi' : i < xs.length := by rw [List.length_map] at hi; omega
      obtain ⟨i1, g1⟩ : ∃ i1, xs[i]? = some i1 := ⟨_, List.getElem?_eq_getElem hi'⟩
      obtain ⟨i2, g2⟩ : ∃ i2, ys[i]? = some i2 := ⟨_, List.getElem?_eq_getElem (by omega)⟩
      have hat : atI (xs.map V.int) ((0 : Int) + (i : Nat)) = some (.int i1) := by rw [Int.zero_add]; exact atI_nat (by rw [List.getElem?_map, g1]; rfl)
      have hat2 : atI (ys.map V.int) ((0 : Int) + (i : Nat)) = some (.int i2) := by rw [Int.zero_add]; exact atI_nat (by rw [List.getElem?_map, g2]; rfl)
      refine ⟨rfl, ?_⟩
      refine ⟨_, rfl, _, rfl, a, _, _, _, rfl, rfl, SqL.of (s' _ _ (s0 _ _ ha)), hat, _, rfl, _, rfl, b, _, _, _, rfl, rfl, SqL.of (s' _ _ (s0 _ _ hb)), hat2, _, _, rfl, _, hD', small1000 (by rw [List.length_map, List.length_take]; omega), same_put s' hDL, ?_⟩
      rw [upd_same]
      have hv : (List.zipWith mn xs ys)[i]? = some (mn i1 i2) := by simp [List.getElem?_zipWith, g1, g2]
      rw [List.take_succ, hv, List.map_append]
      rfl
    rintro HL ⟨qL, hL⟩
    rw [List.length_map, Int.toNat_natCast, List.take_of_length_le (by rw [List.length_zipWith]; omega)] at hL
    have s1 := s0.trans qL
    refine ⟨_, rfl, a, _, rfl, .inl (SqL.of (s1 _ _ ha)), _, rfl, by omega, by rw [List.length_map]; omega, ?_⟩
    intro M hDM
    refine lc_range (lo := 0) (n := ((xs.map V.int).length : Int).toNat) (fun i H' => Same HL H' ∧ H' M = some (.lst (((List.zipWith mx xs ys).take i).map V.int))) ⟨same_new hDM, upd_same⟩ ?_ ?_
    · rintro i H' hi ⟨s', hD'⟩
      have hi' : i < xs.length := by rw [List.length_map] at hi; omega
      obtain ⟨i1, g1⟩ : ∃ i1, xs[i]? = some i1 := ⟨_, List.getElem?_eq_getElem hi'⟩
      obtain ⟨i2, g2⟩ : ∃ i2, ys[i]? = some i2 := ⟨_, List.getElem?_eq_getElem (by omega)⟩
      have hat : atI (xs.map V.int) ((0 : Int) + (i : Nat)) = some (.int i1) := by rw [Int.zero_add]; exact atI_nat (by rw [List.getElem?_map, g1]; rfl)
      have hat2 : atI (ys.map V.int) ((0 : Int) + (i : Nat)) = some (.int i2) := by rw [Int.zero_add]; exact atI_nat (by rw [List.getElem?_map, g2]; rfl)
      refine ⟨rfl, ?_⟩
      refine ⟨_, rfl, _, rfl, a, _, _, _, rfl, rfl, SqL.of (s' _ _ (s1 _ _ ha)), hat, _, rfl, _, rfl, b, _, _, _, rfl, rfl, SqL.of (s' _ _ (s1 _ _ hb)), hat2, _, _, rfl, _, hD', small1000 (by rw [List.length_map, List.length_take]; omega), same_put s' hDM, ?_⟩
      rw [upd_same]
      have hv : (List.zipWith mx xs ys)[i]? = some (mx i1 i2) := by simp [List.getElem?_zipWith, g1, g2]
      rw [List.take_succ, hv, List.map_append]
      rfl
    rintro HM ⟨qM, hM⟩
    rw [List.length_map, Int.toNat_natCast, List.take_of_length_le (by rw [List.length_zipWith]; omega)] at hM
    have s2 := s1.trans qM
    have hL2 := qM _ _ hL
    have hX_ := hX.mono s2
    have hY_ := hY.mono s2
    have hZ_ := hZ.mono s2
    obtain ⟨dx, tx, hx, htx⟩ := id hX_
    obtain ⟨dy, ty, hy, hty⟩ := id hY_
    obtain ⟨dz, tz, hz, htz⟩ := id hZ_
    refine ⟨_, rfl, _, rfl, x, _, _, y, _, _, rfl, hx, rfl, hy, x, y, xs, ys, rfl, hX_, hY_, hg, ?_, fun h => absurd e1 h⟩
    intro _ w1 H3 q3 hw1
    have s3 := s2.trans q3
    refine ⟨_, rfl, w1, L, _, rfl, hw1, q3 _ _ hL2, few_zip hg e1, ?_⟩
    intro H4 q4
    have s4 := s3.trans q4
    refine ⟨true, rfl, iteF ?_⟩
    clear hX_ hY_ hZ_ hx hy hz htx hty htz
    have hX_ := hX.mono s4
    have hY_ := hY.mono s4
    have hZ_ := hZ.mono s4
    obtain ⟨dx, tx, hx, htx⟩ := id hX_
    obtain ⟨dy, ty, hy, hty⟩ := id hY_
    obtain ⟨dz, tz, hz, htz⟩ := id hZ_
    refine ⟨_, rfl, _, rfl, x, _, _, y, _, _, rfl, hx, rfl, hy, x, y, xs, ys, rfl, hX_, hY_, hg, ?_, fun h => absurd e1 h⟩
    intro _ w2 H5 q5 hw2
    have s5 := s4.trans q5
    refine ⟨_, rfl, w2, M, _, rfl, hw2, q5 _ _ (q4 _ _ (q3 _ _ hM)), few_zip hg e1, ?_⟩
    intro H6 q6
    have s6 := s5.trans q6
    refine ⟨true, rfl, iteF ?_⟩
    clear hX_ hY_ hZ_ hx hy hz htx hty htz
    have hX_ := hX.mono s6
    have hY_ := hY.mono s6
    have hZ_ := hZ.mono s6
    obtain ⟨dx, tx, hx, htx⟩ := id hX_
    obtain ⟨dy, ty, hy, hty⟩ := id hY_
    obtain ⟨dz, tz, hz, htz⟩ := id hZ_
    refine ⟨_, rfl, _, rfl, x, _, _, rfl, hx, x, y, xs, ys, rfl, hX_, hY_, hg, ?_, fun h => absurd e1 h⟩
    intro _ H7 q7
    have s7 := s6.trans q7
    refine ⟨_, rfl, _, rfl, _, rfl, b, a, ys, xs, rfl, s7 _ _ hb, s7 _ _ ha, hgy, e1.symm, rfl, _, rfl, iteNS rfl ?_⟩
    refine ⟨_, rfl, _, rfl, x, _, _, _, rfl, q7 _ _ hx, .base (.ins (q7 _ _ hy) T.cl_Amounts T.k1_Amounts T.kg T.kt T.k4_Amounts), notFirst_self, x, y, xs, ys, rfl, hX_.mono q7, hY_.mono q7, .inr ⟨_, rfl, ?_⟩⟩
    refine ⟨_, rfl, _, rfl, _, _, .lst (SqL.of (s7 _ _ ha)) (dpInts xs), .lst (SqL.of (s7 _ _ hb)) (dpInts ys), shL xs, shL ys, rfl, _, rfl, ?_⟩
    refine iteNS (congrArg V.bl (eqvL xs ys).symm) ?_
    clear hX_ hY_ hZ_ hx hy hz htx hty htz
    have hX_ := hX.mono s7
    have hY_ := hY.mono s7
    have hZ_ := hZ.mono s7
    obtain ⟨dx, tx, hx, htx⟩ := id hX_
    obtain ⟨dy, ty, hy, hty⟩ := id hY_
    obtain ⟨dz, tz, hz, htz⟩ := id hZ_
    refine ⟨_, rfl, _, rfl, _, rfl, x, _, _, y, _, _, rfl, hx, rfl, hy, x, y, xs, ys, rfl, hX_, hY_, hg, ?_, fun h => absurd e1 h⟩
    intro _ w3 H8 q8 hw3
    obtain ⟨d3, t3, h3, _⟩ := id hw3
    have s8 := s7.trans q8
    refine ⟨w3, _, _, rfl, h3, w3, z, _, zs, rfl, hw3, hZ_.mono q8, few_zip hg e1, ?_, fun h => absurd (show (List.zipWith mn xs ys).length = zs.length by rw [List.length_zipWith]; omega) h⟩
    intro _ H9 q9
    have s9 := s8.trans q9
    refine ⟨_, rfl, ?_⟩
    rw [wi_mn zs xs ys e1 e2]
    refine ⟨_, rfl, _, rfl, c, a, zs, xs, rfl, s9 _ _ hc, s9 _ _ ha, hgz, e2.symm, _, rfl, ?_⟩
    cases h1 : wi zs xs with
    | true =>
      refine iteT ?_
      refine ⟨_, rfl, _, rfl, c, b, zs, ys, rfl, s9 _ _ hc, s9 _ _ hb, hgz, by omega, rfl, _, rfl, iteNS (by rw [Bool.true_and]) ?_⟩
      clear hX_ hY_ hZ_ hx hy hz htx hty htz
      have hX_ := hX.mono s9
      have hY_ := hY.mono s9
      have hZ_ := hZ.mono s9
      obtain ⟨dx, tx, hx, htx⟩ := id hX_
      obtain ⟨dy, ty, hy, hty⟩ := id hY_
      obtain ⟨dz, tz, hz, htz⟩ := id hZ_
      refine ⟨_, rfl, _, rfl, x, _, _, y, _, _, rfl, hx, rfl, hy, x, y, xs, ys, rfl, hX_, hY_, hg, ?_, fun h => absurd e1 h⟩
      intro _ w4 H10 q10 hw4
      have s10 := s9.trans q10
      obtain ⟨d4, t4, h4, _⟩ := id (hZ_.mono q10)
      refine ⟨_, rfl, z, _, _, rfl, h4, z, w4, zs, _, rfl, hZ_.mono q10, hw4, hgz, ?_, fun h => absurd (show zs.length = (List.zipWith mx xs ys).length by rw [List.length_zipWith]; omega) h⟩
      intro _ H11 q11
      have s11 := s10.trans q11
      refine ⟨_, rfl, ?_⟩
      rw [wi_mx zs xs ys e1 e2]
      refine ⟨_, rfl, _, rfl, a, c, xs, zs, rfl, s11 _ _ ha, s11 _ _ hc, hg, e2, _, rfl, ?_⟩
      cases h2 : wi xs zs with
      | true =>
        refine iteT ?_
        refine ⟨_, rfl, _, rfl, b, c, ys, zs, rfl, s11 _ _ hb, s11 _ _ hc, hgy, by omega, rfl, ?_⟩
        exact qt' (congrArg V.bl (Bool.true_and _)) (k H11 s11)
      | false =>
        refine iteF ⟨rfl, ?_⟩
        exact qt' (congrArg V.bl (Bool.false_and _)) (k H11 s11)
    | false =>
      refine iteF ⟨rfl, _, rfl, iteNS (by rw [Bool.false_and]) ?_⟩
      clear hX_ hY_ hZ_ hx hy hz htx hty htz
      have hX_ := hX.mono s9
      have hY_ := hY.mono s9
      have hZ_ := hZ.mono s9
      obtain ⟨dx, tx, hx, htx⟩ := id hX_
      obtain ⟨dy, ty, hy, hty⟩ := id hY_
      obtain ⟨dz, tz, hz, htz⟩ := id hZ_
      refine ⟨_, rfl, _, rfl, x, _, _, y, _, _, rfl, hx, rfl, hy, x, y, xs, ys, rfl, hX_, hY_, hg, ?_, fun h => absurd e1 h⟩
      intro _ w4 H10 q10 hw4
      have s10 := s9.trans q10
      obtain ⟨d4, t4, h4, _⟩ := id (hZ_.mono q10)
      refine ⟨_, rfl, z, _, _, rfl, h4, z, w4, zs, _, rfl, hZ_.mono q10, hw4, hgz, ?_, fun h => absurd (show zs.length = (List.zipWith mx xs ys).length by rw [List.length_zipWith]; omega) h⟩
      intro _ H11 q11
      have s11 := s10.trans q11
      refine ⟨_, rfl, ?_⟩
      rw [wi_mx zs xs ys e1 e2]
      refine ⟨_, rfl, _, rfl, a, c, xs, zs, rfl, s11 _ _ ha, s11 _ _ hc, hg, e2, _, rfl, ?_⟩
      cases h2 : wi xs zs with
      | true =>
        refine iteT ?_
        refine ⟨_, rfl, _, rfl, b, c, ys, zs, rfl, s11 _ _ hb, s11 _ _ hc, hgy, by omega, rfl, ?_⟩
        exact qt' (congrArg V.bl (Bool.true_and _)) (k H11 s11)
      | false =>
        refine iteF ⟨rfl, ?_⟩
        exact qt' (congrArg V.bl (Bool.false_and _)) (k H11 s11)
theorem ok_law (T : Txt K mg A) : FnOk P w K mg base CX0 12 A.f_law A.d_law ["_law_script"] (spLaw K) := by
  refine T.F_law.ok sc_law (fun vs H Q E h => ?_) (fun cdv Ar outer s H vs Q E hr h => ?_)
  · obtain ⟨sc, ns, rfl, _⟩ := h
    rfl
  · obtain ⟨sc, ns, rfl, hS, hl, hb, k⟩ := h
    refine ⟨_, (pss_cons (ps_set (i := 1) sc_law.nd rfl (Or.inr rfl) (pe_call (ok_pool T) (hr.mono (by decide)) rfl T.g_pool T.F_pool.kp T.b_pool .nil pass0 (pa_cons (pv 0) pa_nil)))
        (pss_cons (ps_set (i := 2) sc_law.nd rfl (Or.inl rfl) (pe_op op_add pe_int (pe_call (ok_draw T) (hr.mono (by decide)) rfl T.g_draw T.F_draw.kp T.b_draw .nil pass0 (pa_cons (pv 1) (pa_cons pe_int pa_nil)))))
        (pss_cons (ps_setLc (i := 3) (own := [("_law_k", 19)]) (g := gName 19) (tt := tYes) rfl sc_law.nd rfl rfl (sw_true rfl rfl rfl (by decide +kernel)) (pi_range1 rfl T.n_range (pa_cons (pv 2) pa_nil)) (blkOk_by (N := ["_law_script", "_law_pool_here", "_law_count", "_law_a", "_law_b", "_law_c", "_law_size", "_law_d", "_law_one", "_law_other", "_law_third", "_law_unlike", "_law_plain", "_law_sizes", "_law_fifth", "_law_sixth", "_law_turn", "_law_way", "_law_many", "_law_k", "_law_number_here"]) (sc := defScope s_law) (by decide +kernel)) (fun _ _ _ _ _ => (pg_name (i := 19) sc_law.nd rfl (Or.inl rfl))) (fun _ _ _ _ _ => pts_nil) (fun _ _ _ _ _ => (pe_call (ok_signed T) (hr.mono (by decide)) rfl T.g_signed T.F_signed.kp T.b_signed .nil pass0 (pa_cons (pv 1) (pa_cons pe_int pa_nil)))))
        (pss_cons (ps_setLc (i := 4) (own := [("_law_number_here", 20)]) (g := gName 20) (tt := tYes) rfl sc_law.nd rfl rfl (sw_true rfl rfl rfl (by decide +kernel)) (pi_listK K (pv 3)) (blkOk_by (N := ["_law_script", "_law_pool_here", "_law_count", "_law_a", "_law_b", "_law_c", "_law_size", "_law_d", "_law_one", "_law_other", "_law_third", "_law_unlike", "_law_plain", "_law_sizes", "_law_fifth", "_law_sixth", "_law_turn", "_law_way", "_law_many", "_law_k", "_law_number_here"]) (sc := defScope s_law) (by decide +kernel)) (fun _ _ _ _ _ => (pg_name (i := 20) sc_law.nd rfl (Or.inl rfl))) (fun _ _ _ _ _ => pts_nil) (fun _ _ _ _ _ => (pe_call (ok_near T) (hr.mono (by decide)) rfl T.g_near T.F_near.kp T.b_near .nil pass0 (pa_cons (pv 1) (pa_cons (pv 20) pa_nil)))))
        (pss_cons (ps_setLc (i := 5) (own := [("_law_number_here", 20)]) (g := gName 20) (tt := tYes) rfl sc_law.nd rfl rfl (sw_true rfl rfl rfl (by decide +kernel)) (pi_listK K (pv 3)) (blkOk_by (N := ["_law_script", "_law_pool_here", "_law_count", "_law_a", "_law_b", "_law_c", "_law_size", "_law_d", "_law_one", "_law_other", "_law_third", "_law_unlike", "_law_plain", "_law_sizes", "_law_fifth", "_law_sixth", "_law_turn", "_law_way", "_law_many", "_law_k", "_law_number_here"]) (sc := defScope s_law) (by decide +kernel)) (fun _ _ _ _ _ => (pg_name (i := 20) sc_law.nd rfl (Or.inl rfl))) (fun _ _ _ _ _ => pts_nil) (fun _ _ _ _ _ => (pe_call (ok_near T) (hr.mono (by decide)) rfl T.g_near T.F_near.kp T.b_near .nil pass0 (pa_cons (pv 1) (pa_cons (pv 20) pa_nil)))))
        (pss_cons (ps_set (i := 6) sc_law.nd rfl (Or.inl rfl) (pe_op op_add pe_int (pe_op op_mod (pe_callTy call_int1 (by rfl) T.n_int (by decide +kernel) (pa_cons (pe_op op_add (pv 2) (pe_call (ok_draw T) (hr.mono (by decide)) rfl T.g_draw T.F_draw.kp T.b_draw .nil pass0 (pa_cons (pv 1) (pa_cons pe_int pa_nil)))) pa_nil)) pe_int)))
        (pss_cons (ps_setLc (i := 7) (own := [("_law_k", 19)]) (g := gName 19) (tt := tYes) rfl sc_law.nd rfl rfl (sw_true rfl rfl rfl (by decide +kernel)) (pi_range1 rfl T.n_range (pa_cons (pv 6) pa_nil)) (blkOk_by (N := ["_law_script", "_law_pool_here", "_law_count", "_law_a", "_law_b", "_law_c", "_law_size", "_law_d", "_law_one", "_law_other", "_law_third", "_law_unlike", "_law_plain", "_law_sizes", "_law_fifth", "_law_sixth", "_law_turn", "_law_way", "_law_many", "_law_k", "_law_number_here"]) (sc := defScope s_law) (by decide +kernel)) (fun _ _ _ _ _ => (pg_name (i := 19) sc_law.nd rfl (Or.inl rfl))) (fun _ _ _ _ _ => pts_nil) (fun _ _ _ _ _ => (pe_call (ok_signed T) (hr.mono (by decide)) rfl T.g_signed T.F_signed.kp T.b_signed .nil pass0 (pa_cons (pv 1) (pa_cons pe_int pa_nil)))))
        (pss_cons (ps_set (i := 8) sc_law.nd rfl (Or.inl rfl) (pe_call (ok_row T) (hr.mono (by decide)) rfl T.g_row T.F_row.kp T.b_row .nil pass0 (pa_cons (pv 3) pa_nil)))
        (pss_cons (ps_set (i := 9) sc_law.nd rfl (Or.inl rfl) (pe_call (ok_row T) (hr.mono (by decide)) rfl T.g_row T.F_row.kp T.b_row .nil pass0 (pa_cons (pv 4) pa_nil)))
        (pss_cons (ps_set (i := 10) sc_law.nd rfl (Or.inl rfl) (pe_call (ok_row T) (hr.mono (by decide)) rfl T.g_row T.F_row.kp T.b_row .nil pass0 (pa_cons (pv 5) pa_nil)))
        (pss_cons (ps_set (i := 11) sc_law.nd rfl (Or.inl rfl) (pe_call (ok_row T) (hr.mono (by decide)) rfl T.g_row T.F_row.kp T.b_row .nil pass0 (pa_cons (pv 7) pa_nil)))
        (pss_cons (ps_setLc (i := 12) (own := [("_law_number_here", 20)]) (g := gName 20) (tt := tYes) rfl sc_law.nd rfl rfl (sw_true rfl rfl rfl (by decide +kernel)) (pi_listK K (pv 3)) (blkOk_by (N := ["_law_script", "_law_pool_here", "_law_count", "_law_a", "_law_b", "_law_c", "_law_size", "_law_d", "_law_one", "_law_other", "_law_third", "_law_unlike", "_law_plain", "_law_sizes", "_law_fifth", "_law_sixth", "_law_turn", "_law_way", "_law_many", "_law_k", "_law_number_here"]) (sc := defScope s_law) (by decide +kernel)) (fun _ _ _ _ _ => (pg_name (i := 20) sc_law.nd rfl (Or.inl rfl))) (fun _ _ _ _ _ => pts_nil) (fun _ _ _ _ _ => (pe_callB call_abs (by rfl) T.n_abs (by decide +kernel) (pa_cons (pv 20) pa_nil))))
        (pss_cons (ps_setLc (i := 13) (own := [("_law_number_here", 20)]) (g := gName 20) (tt := tYes) rfl sc_law.nd rfl rfl (sw_true rfl rfl rfl (by decide +kernel)) (pi_listK K (pv 7)) (blkOk_by (N := ["_law_script", "_law_pool_here", "_law_count", "_law_a", "_law_b", "_law_c", "_law_size", "_law_d", "_law_one", "_law_other", "_law_third", "_law_unlike", "_law_plain", "_law_sizes", "_law_fifth", "_law_sixth", "_law_turn", "_law_way", "_law_many", "_law_k", "_law_number_here"]) (sc := defScope s_law) (by decide +kernel)) (fun _ _ _ _ _ => (pg_name (i := 20) sc_law.nd rfl (Or.inl rfl))) (fun _ _ _ _ _ => pts_nil) (fun _ _ _ _ _ => (pe_callB call_abs (by rfl) T.n_abs (by decide +kernel) (pa_cons (pv 20) pa_nil))))
        (pss_cons (ps_set (i := 14) sc_law.nd rfl (Or.inl rfl) (pe_call (ok_row T) (hr.mono (by decide)) rfl T.g_row T.F_row.kp T.b_row .nil pass0 (pa_cons (pv 12) pa_nil)))
        (pss_cons (ps_set (i := 15) sc_law.nd rfl (Or.inl rfl) (pe_call (ok_row T) (hr.mono (by decide)) rfl T.g_row T.F_row.kp T.b_row .nil pass0 (pa_cons (pv 13) pa_nil)))
        (pss_cons (ps_for PassesOwn.never rfl (pi_range1 rfl T.n_range (pa_cons pe_int pa_nil)) (pg_name (i := 16) sc_law.nd rfl (Or.inl rfl))
        (pss_cons (ps_if (PW.pt (pw_or (pt_not (pt_val (pe_call (ok_is T) (hr.mono (by decide)) rfl T.g_is T.F_is.kp T.b_is .nil pass0 (pa_cons (pv 8) (pa_cons (pv 3) pa_nil))) (by intro _; rfl))) (pw_or (pt_not (pt_val (pe_call (ok_is T) (hr.mono (by decide)) rfl T.g_is T.F_is.kp T.b_is .nil pass0 (pa_cons (pv 9) (pa_cons (pv 4) pa_nil))) (by intro _; rfl))) (pw_or (pt_not (pt_val (pe_call (ok_is T) (hr.mono (by decide)) rfl T.g_is T.F_is.kp T.b_is .nil pass0 (pa_cons (pv 10) (pa_cons (pv 5) pa_nil))) (by intro _; rfl))) (pw_or1 (pt_not (pt_val (pe_call (ok_is T) (hr.mono (by decide)) rfl T.g_is T.F_is.kp T.b_is .nil pass0 (pa_cons (pv 11) (pa_cons (pv 7) pa_nil))) (by intro _; rfl)))))))) (pss_one (ps_ret pe_bl)) pss_nil)
        (pss_cons (ps_if (PW.pt (pw_or (pt_not (pt_val (pe_call (ok_pair T) (hr.mono (by decide)) rfl T.g_pair T.F_pair.kp T.b_pair .nil pass0 (pa_cons (pv 8) (pa_cons (pv 3) (pa_cons (pv 9) (pa_cons (pv 4) (pa_cons (pv 10) (pa_cons (pv 5) pa_nil))))))) (by intro _; rfl))) (pw_or1 (pt_not (pt_val (pe_call (ok_pair T) (hr.mono (by decide)) rfl T.g_pair T.F_pair.kp T.b_pair .nil pass0 (pa_cons (pv 9) (pa_cons (pv 4) (pa_cons (pv 8) (pa_cons (pv 3) (pa_cons (pv 10) (pa_cons (pv 5) pa_nil))))))) (by intro _; rfl)))))) (pss_one (ps_ret pe_bl)) pss_nil)
        (pss_cons (ps_if (PW.pt (pw_or (pt_not (pt_val (pe_call (ok_pair T) (hr.mono (by decide)) rfl T.g_pair T.F_pair.kp T.b_pair .nil pass0 (pa_cons (pv 10) (pa_cons (pv 5) (pa_cons (pv 8) (pa_cons (pv 3) (pa_cons (pv 8) (pa_cons (pv 3) pa_nil))))))) (by intro _; rfl))) (pw_or (pt_not (pt_cmpR (op_eqOwn T.me_Amounts_eq (ok_Amounts_eq T) (hr.mono (by decide)) T.b_Amounts_eq pass0) (pv 8) (pe_call (ok_row T) (hr.mono (by decide)) rfl T.g_row T.F_row.kp T.b_row .nil pass0 (pa_cons (pv 3) pa_nil)) (nomark _))) (pw_or (pt_cmpR (op_eqOwn T.me_Amounts_eq (ok_Amounts_eq T) (hr.mono (by decide)) T.b_Amounts_eq pass0) (pv 8) (pv 11) (nomark _)) (pw_or1 (pt_cmpR (op_eqOwn T.me_Amounts_eq (ok_Amounts_eq T) (hr.mono (by decide)) T.b_Amounts_eq pass0) (pv 11) (pv 8) (nomark _))))))) (pss_one (ps_ret pe_bl)) pss_nil)
        (pss_cons (ps_for PassesOwn.never rfl (pi_range1 rfl T.n_range (pa_cons pe_int pa_nil)) (pg_name (i := 17) sc_law.nd rfl (Or.inl rfl))
        (pss_one (ps_if (PW.pt (pw_or (pt_cmpR (op_neDK K hr.units) (pe_call (ok_subject T) (hr.mono (by decide)) rfl T.g_subject T.F_subject.kp T.b_subject .nil pass0 (pa_cons (pv 8) (pa_cons (pv 11) (pa_cons (pv 17) pa_nil)))) (pe_lst (pa_cons (pe_callTy call_tuple_of (by rfl) T.n_tuple (by decide +kernel) (pa_cons (pv 7) pa_nil)) pa_nil)) (nomark _)) (pw_or1 (pt_cmpR (op_neDK K hr.units) (pe_call (ok_subject T) (hr.mono (by decide)) rfl T.g_subject T.F_subject.kp T.b_subject .nil pass0 (pa_cons (pv 11) (pa_cons (pv 8) (pa_cons (pv 17) pa_nil)))) (pe_lst (pa_cons (pe_callTy call_tuple_of (by rfl) T.n_tuple (by decide +kernel) (pa_cons (pv 3) pa_nil)) pa_nil)) (nomark _))))) (pss_one (ps_ret pe_bl)) pss_nil)))
        (pss_cons (ps_for PassesOwn.never rfl (pi_range2 rfl T.n_range (pa_cons pe_int (pa_cons pe_int pa_nil))) (pg_name (i := 17) sc_law.nd rfl (Or.inl rfl))
        (pss_one (ps_if (pt_cmpR (op_neDK K hr.units) (pe_call (ok_subject T) (hr.mono (by decide)) rfl T.g_subject T.F_subject.kp T.b_subject .nil pass0 (pa_cons (pv 14) (pa_cons (pv 15) (pa_cons (pv 17) pa_nil)))) (pe_lst (pa_cons (pe_callTy call_tuple_of (by rfl) T.n_tuple (by decide +kernel) (pa_cons (pv 13) pa_nil)) pa_nil)) (nomark _)) (pss_one (ps_ret pe_bl)) pss_nil)))
        (pss_one (ps_for PassesOwn.never rfl (pi_tupK K (pe_tup (pa_cons pe_int (pa_cons pe_int (pa_cons pe_int pa_nil))))) (pg_name (i := 18) sc_law.nd rfl (Or.inl rfl))
        (pss_one (ps_if (pt_not (pt_val (pe_call (ok_counted T) (hr.mono (by decide)) rfl T.g_counted T.F_counted.kp T.b_counted .nil pass0 (pa_cons (pe_slice sl_list (pe_op op_cat (pe_op op_cat (pe_op op_cat (pe_op op_cat (pe_op op_cat (pv 3) (pv 4)) (pv 5)) (pv 7)) (pv 7)) (pv 7)) po_none (po_some pe_int)) (pa_cons (pv 18) pa_nil))) (by intro _; rfl))) (pss_one (ps_ret pe_bl)) pss_nil))))))))))
        (pss_one (ps_ret (pe_and (pe_call (ok_is T) (hr.mono (by decide)) rfl T.g_is T.F_is.kp T.b_is .nil pass0 (pa_cons (pv 14) (pa_cons (pv 12) pa_nil))) (pe_one (pe_call (ok_is T) (hr.mono (by decide)) rfl T.g_is T.F_is.kp T.b_is .nil pass0 (pa_cons (pv 15) (pa_cons (pv 13) pa_nil))))))))))))))))))))))), ?_⟩
    refine ⟨_, rfl, sc, ns, rfl, hS, hl, hb, fun p H1 hp P s1 => ?_⟩
    refine ⟨_, rfl, p, 3, rfl, P, by decide, by decide, fun c H2 c0 c1 P2 s2 => ⟨_, _, rfl, rfl, ?_⟩⟩
    clear P s1 s2 hS hl hb
    have P := P2
    clear P2
    refine ⟨_, rfl, 1 + c, rfl, by omega, by omega, ?_⟩
    intro a hna
    have npa : a ≠ p := (P.ne hna).symm
    refine lc_range (lo := 0) (n := (1 + c).toNat) (fun i H' => ∃ zs : List Int, H' a = some (.lst (zs.map V.int)) ∧ zs.length = i ∧ PoolAt H' p ∧ SameBut p H2 H') ⟨[], upd_same, rfl, P.mono (same_new hna), (same_new hna).but⟩ ?_ ?_
    · rintro i H' hi ⟨zs, hD', hl', P', sb⟩
      refine ⟨rfl, ?_⟩
      refine ⟨_, rfl, p, 10, rfl, P', by decide, by decide, fun r H4 hr P4 s4 => ⟨_, s4 a _ npa hD', small1000 (by rw [List.length_map]; omega), zs ++ [r], ?_, by rw [List.length_append]; show zs.length + 1 = i + 1; omega, pool_put P4 npa, but_put (sb.trans s4) hna⟩⟩
      rw [upd_same, List.map_append]; rfl
    rintro H3 ⟨xa, ha, hla, P2, sb⟩
    
    clear P
    have P := P2
    clear P2 sb hna
    
    have ga := few_of hla c0 c1
    have ga3 := ga.2
    refine ⟨_, rfl, a, rfl, ⟨_, SqL.of ha⟩, ?_⟩
    intro b hnb
    have npb : b ≠ p := (P.ne hnb).symm
    refine lc_list (K := K) (a := a) (xs := xa.map V.int) (fun i H' => ∃ zs : List Int, H' b = some (.lst (zs.map V.int)) ∧ zs.length = i ∧ PoolAt H' p ∧ SameBut p H3 H') ⟨[], upd_same, rfl, P.mono (same_new hnb), (same_new hnb).but⟩ (fun i H' _ ⟨_, _, _, _, sb⟩ => SqL.of (sb _ _ npa ha)) ?_ ?_
    · rintro i v H' hv ⟨zs, hD', hl', P', sb⟩
      obtain ⟨z, hz, rfl⟩ := getMap hv
      have hi := (List.getElem?_eq_some_iff.mp hz).1
      refine ⟨rfl, ?_⟩
      refine ⟨_, rfl, _, rfl, p, z, rfl, P', fun r H4 P4 s4 => ⟨_, s4 b _ npb hD', small1000 (by rw [List.length_map]; omega), zs ++ [r], ?_, by rw [List.length_append]; show zs.length + 1 = i + 1; omega, pool_put P4 npb, but_put (sb.trans s4) hnb⟩⟩
      rw [upd_same, List.map_append]; rfl
    rintro H4 ⟨xb, hb, hlb, P2, sb⟩
    replace hlb := len_map hlb
    replace ha := sb _ _ npa ha
    clear P
    have P := P2
    clear P2 sb hnb
    
    refine ⟨_, rfl, a, rfl, ⟨_, SqL.of ha⟩, ?_⟩
    intro cc hncc
    have npcc : cc ≠ p := (P.ne hncc).symm
    refine lc_list (K := K) (a := a) (xs := xa.map V.int) (fun i H' => ∃ zs : List Int, H' cc = some (.lst (zs.map V.int)) ∧ zs.length = i ∧ PoolAt H' p ∧ SameBut p H4 H') ⟨[], upd_same, rfl, P.mono (same_new hncc), (same_new hncc).but⟩ (fun i H' _ ⟨_, _, _, _, sb⟩ => SqL.of (sb _ _ npa ha)) ?_ ?_
    · rintro i v H' hv ⟨zs, hD', hl', P', sb⟩
      obtain ⟨z, hz, rfl⟩ := getMap hv
      have hi := (List.getElem?_eq_some_iff.mp hz).1
      refine ⟨rfl, ?_⟩
      refine ⟨_, rfl, _, rfl, p, z, rfl, P', fun r H4 P4 s4 => ⟨_, s4 cc _ npcc hD', small1000 (by rw [List.length_map]; omega), zs ++ [r], ?_, by rw [List.length_append]; show zs.length + 1 = i + 1; omega, pool_put P4 npcc, but_put (sb.trans s4) hncc⟩⟩
      rw [upd_same, List.map_append]; rfl
    rintro H5 ⟨xc, hcc, hlcc, P2, sb⟩
    replace hlcc := len_map hlcc
    replace ha := sb _ _ npa ha
    replace hb := sb _ _ npb hb
    clear P
    have P := P2
    clear P2 sb hncc
    
    refine ⟨_, rfl, _, rfl, p, 2, rfl, P, by decide, by decide, fun e H6 e0 e1 P2 s2 => ⟨_, _, rfl, rfl, .inl ⟨_, rfl, _, _, rfl, rfl, (by show (0 : Int) < 3; decide), _, _, rfl, rfl, ?_⟩⟩⟩
    replace ha := s2 _ _ npa ha
    replace hb := s2 _ _ npb hb
    replace hcc := s2 _ _ npcc hcc
    clear P s2
    have P := P2
    clear P2
    try dsimp only
    obtain ⟨sz, hsz⟩ : ∃ sz : Int, sz = (1 + c + e) % 3 := ⟨_, rfl⟩
    rw [← hsz]
    have sz0 : 0 ≤ sz ∧ sz < 3 ∧ 1 + sz ≠ 1 + c := by omega
    refine ⟨_, rfl, 1 + sz, rfl, by omega, by omega, ?_⟩
    intro dd hndd
    have npdd : dd ≠ p := (P.ne hndd).symm
    refine lc_range (lo := 0) (n := (1 + sz).toNat) (fun i H' => ∃ zs : List Int, H' dd = some (.lst (zs.map V.int)) ∧ zs.length = i ∧ PoolAt H' p ∧ SameBut p H6 H') ⟨[], upd_same, rfl, P.mono (same_new hndd), (same_new hndd).but⟩ ?_ ?_
    · rintro i H' hi ⟨zs, hD', hl', P', sb⟩
      refine ⟨rfl, ?_⟩
      refine ⟨_, rfl, p, 10, rfl, P', by decide, by decide, fun r H4 hr P4 s4 => ⟨_, s4 dd _ npdd hD', small1000 (by rw [List.length_map]; omega), zs ++ [r], ?_, by rw [List.length_append]; show zs.length + 1 = i + 1; omega, pool_put P4 npdd, but_put (sb.trans s4) hndd⟩⟩
      rw [upd_same, List.map_append]; rfl
    rintro H7 ⟨xd, hdd, hldd, P2, sb⟩
    replace ha := sb _ _ npa ha
    replace hb := sb _ _ npb hb
    replace hcc := sb _ _ npcc hcc
    clear P
    have P := P2
    clear P2 sb hndd
    
    have gd := few_of hldd sz0.1 sz0.2.1
    have gd3 := gd.2
    have gb := few_len ga hlb
    have gc := few_len ga hlcc
    have nlen : xa.length ≠ xd.length := by omega
    clear P
    refine ⟨_, rfl, a, xa, rfl, ha, ga, ?_⟩
    intro x1 H8 sb hx1
    replace ha := sb _ _ ha
    replace hb := sb _ _ hb
    replace hcc := sb _ _ hcc
    replace hdd := sb _ _ hdd
    clear sb
    
    refine ⟨_, rfl, b, xb, rfl, hb, gb, ?_⟩
    intro x2 H9 sb hx2
    replace ha := sb _ _ ha
    replace hb := sb _ _ hb
    replace hcc := sb _ _ hcc
    replace hdd := sb _ _ hdd
    replace hx1 := hx1.mono sb
    clear sb
    
    refine ⟨_, rfl, cc, xc, rfl, hcc, gc, ?_⟩
    intro x3 H10 sb hx3
    replace ha := sb _ _ ha
    replace hb := sb _ _ hb
    replace hcc := sb _ _ hcc
    replace hdd := sb _ _ hdd
    replace hx1 := hx1.mono sb
    replace hx2 := hx2.mono sb
    clear sb
    
    refine ⟨_, rfl, dd, xd, rfl, hdd, gd, ?_⟩
    intro x4 H11 sb hx4
    replace ha := sb _ _ ha
    replace hb := sb _ _ hb
    replace hcc := sb _ _ hcc
    replace hdd := sb _ _ hdd
    replace hx1 := hx1.mono sb
    replace hx2 := hx2.mono sb
    replace hx3 := hx3.mono sb
    clear sb
    
    refine ⟨_, rfl, a, rfl, ⟨_, SqL.of ha⟩, ?_⟩
    intro pl hnpl
    refine lc_list (K := K) (a := a) (xs := xa.map V.int) (fun i H' => ∃ zs : List Int, H' pl = some (.lst (zs.map V.int)) ∧ zs.length = i ∧ Same H11 H') ⟨[], upd_same, rfl, same_new hnpl⟩ (fun i H' _ ⟨_, _, _, sb⟩ => SqL.of (sb _ _ ha)) ?_ ?_
    · rintro i v H' hv ⟨zs, hD', hl', sb⟩
      obtain ⟨z, hz, rfl⟩ := getMap hv
      have hi := (List.getElem?_eq_some_iff.mp hz).1
      refine ⟨rfl, ?_⟩
      refine ⟨_, rfl, _, rfl, _, hD', small1000 (by rw [List.length_map]; omega), zs ++ [if z < 0 then -z else z], ?_, by rw [List.length_append]; show zs.length + 1 = i + 1; omega, same_put sb hnpl⟩
      rw [upd_same, List.map_append]; rfl
    rintro H12 ⟨xp, hpl, hlpl, sb⟩
    replace hlpl := len_map hlpl
    replace ha := sb _ _ ha
    replace hb := sb _ _ hb
    replace hcc := sb _ _ hcc
    replace hdd := sb _ _ hdd
    replace hx1 := hx1.mono sb
    replace hx2 := hx2.mono sb
    replace hx3 := hx3.mono sb
    replace hx4 := hx4.mono sb
    clear sb hnpl
    
    refine ⟨_, rfl, dd, rfl, ⟨_, SqL.of hdd⟩, ?_⟩
    intro sl hnsl
    refine lc_list (K := K) (a := dd) (xs := xd.map V.int) (fun i H' => ∃ zs : List Int, H' sl = some (.lst (zs.map V.int)) ∧ zs.length = i ∧ Same H12 H') ⟨[], upd_same, rfl, same_new hnsl⟩ (fun i H' _ ⟨_, _, _, sb⟩ => SqL.of (sb _ _ hdd)) ?_ ?_
    · rintro i v H' hv ⟨zs, hD', hl', sb⟩
      obtain ⟨z, hz, rfl⟩ := getMap hv
      have hi := (List.getElem?_eq_some_iff.mp hz).1
      refine ⟨rfl, ?_⟩
      refine ⟨_, rfl, _, rfl, _, hD', small1000 (by rw [List.length_map]; omega), zs ++ [if z < 0 then -z else z], ?_, by rw [List.length_append]; show zs.length + 1 = i + 1; omega, same_put sb hnsl⟩
      rw [upd_same, List.map_append]; rfl
    rintro H13 ⟨xs, hsl, hlsl, sb⟩
    replace hlsl := len_map hlsl
    replace ha := sb _ _ ha
    replace hb := sb _ _ hb
    replace hcc := sb _ _ hcc
    replace hdd := sb _ _ hdd
    replace hx1 := hx1.mono sb
    replace hx2 := hx2.mono sb
    replace hx3 := hx3.mono sb
    replace hx4 := hx4.mono sb
    replace hpl := sb _ _ hpl
    clear sb hnsl
    
    have gp := few_len ga hlpl
    have gs := few_len gd hlsl
    refine ⟨_, rfl, pl, xp, rfl, hpl, gp, ?_⟩
    intro x5 H14 sb hx5
    replace ha := sb _ _ ha
    replace hb := sb _ _ hb
    replace hcc := sb _ _ hcc
    replace hdd := sb _ _ hdd
    replace hx1 := hx1.mono sb
    replace hx2 := hx2.mono sb
    replace hx3 := hx3.mono sb
    replace hx4 := hx4.mono sb
    replace hpl := sb _ _ hpl
    replace hsl := sb _ _ hsl
    clear sb
    
    refine ⟨_, rfl, sl, xs, rfl, hsl, gs, ?_⟩
    intro x6 HA sb hx6
    replace ha := sb _ _ ha
    replace hb := sb _ _ hb
    replace hcc := sb _ _ hcc
    replace hdd := sb _ _ hdd
    replace hx1 := hx1.mono sb
    replace hx2 := hx2.mono sb
    replace hx3 := hx3.mono sb
    replace hx4 := hx4.mono sb
    replace hpl := sb _ _ hpl
    replace hsl := sb _ _ hsl
    replace hx5 := hx5.mono sb
    clear sb
    
    refine ⟨2, rfl, by decide, by decide, for_range (lo := 0) (n := 2) (fun i σ H9 => ∃ (v1 v2 v3 v4 v5 : Option V), σ = [some (.ref sc), some (.ref p), some (.int (1 + c)), some (.ref a), some (.ref b), some (.ref cc), some (.int (1 + sz)), some (.ref dd), some (.ref x1), some (.ref x2), some (.ref x3), some (.ref x4), some (.ref pl), some (.ref sl), some (.ref x5), some (.ref x6), v1, v2, v3, v4, v5] ∧ Same HA H9) ⟨none, none, none, none, none, rfl, Same.refl _⟩ ?_ ?_⟩
    · rintro i σ H9 hi ⟨v1, v2, v3, v4, v5, rfl, s9⟩
      refine ⟨_, rfl, _, rfl, x1, a, xa, rfl, hx1.mono s9, s9 _ _ ha, ga, ?_⟩
      intro Hi1 qi1
      have si1 := s9.trans qi1
      refine ⟨true, rfl, iteF ?_⟩
      refine ⟨_, rfl, _, rfl, x2, b, xb, rfl, hx2.mono si1, si1 _ _ hb, gb, ?_⟩
      intro Hi2 qi2
      have si2 := si1.trans qi2
      refine ⟨true, rfl, iteF ?_⟩
      refine ⟨_, rfl, _, rfl, x3, cc, xc, rfl, hx3.mono si2, si2 _ _ hcc, gc, ?_⟩
      intro Hi3 qi3
      have si3 := si2.trans qi3
      refine ⟨true, rfl, iteF ?_⟩
      refine ⟨_, rfl, _, rfl, x4, dd, xd, rfl, hx4.mono si3, si3 _ _ hdd, gd, ?_⟩
      intro Hi4 qi4
      have si4 := si3.trans qi4
      refine ⟨true, rfl, iteF ?_⟩
      refine ⟨_, rfl, _, rfl, _, rfl, _, rfl, _, rfl, _, rfl, x1, a, x2, b, x3, cc, xa, xb, xc, rfl, hx1.mono si4, hx2.mono si4, hx3.mono si4, si4 _ _ ha, si4 _ _ hb, si4 _ _ hcc, ga, by omega, by omega, ?_⟩
      intro Hi5 qi5
      have si5 := si4.trans qi5
      refine ⟨true, rfl, iteF ?_⟩
      refine ⟨_, rfl, _, rfl, _, rfl, _, rfl, _, rfl, _, rfl, x2, b, x1, a, x3, cc, xb, xa, xc, rfl, hx2.mono si5, hx1.mono si5, hx3.mono si5, si5 _ _ hb, si5 _ _ ha, si5 _ _ hcc, gb, by omega, by omega, ?_⟩
      intro Hi6 qi6
      have si6 := si5.trans qi6
      refine ⟨true, rfl, iteF ?_⟩
      refine ⟨_, rfl, _, rfl, _, rfl, _, rfl, _, rfl, _, rfl, x3, cc, x1, a, x1, a, xc, xa, xa, rfl, hx3.mono si6, hx1.mono si6, hx1.mono si6, si6 _ _ hcc, si6 _ _ ha, si6 _ _ ha, gc, by omega, by omega, ?_⟩
      intro Hi7 qi7
      have si7 := si6.trans qi7
      refine ⟨true, rfl, iteF ?_⟩
      obtain ⟨d6, t6, h6, _⟩ := id (hx1.mono si7)
      refine ⟨_, rfl, _, rfl, a, xa, rfl, si7 _ _ ha, ga, ?_⟩
      intro y7 H77 q77 hy7
      obtain ⟨d5, t5, h5, _⟩ := id hy7
      have s77 := si7.trans q77
      refine ⟨x1, _, _, _, rfl, q77 _ _ h6, .base (.ins h5 T.cl_Amounts T.k1_Amounts T.kg T.kt T.k4_Amounts), notFirst_self, x1, y7, xa, xa, rfl, hx1.mono s77, hy7, _, rfl, ?_⟩
      refine iteNS rfl ?_
      clear h6 h5
      obtain ⟨d7, t7, h7, _⟩ := id (hx1.mono s77)
      obtain ⟨d8, t8, h8, _⟩ := id (hx4.mono s77)
      refine ⟨_, rfl, _, rfl, x1, _, _, _, rfl, h7, .base (.ins h8 T.cl_Amounts T.k1_Amounts T.kg T.kt T.k4_Amounts), notFirst_self, x1, x4, xa, xd, rfl, hx1.mono s77, hx4.mono s77, _, rfl, ?_⟩
      refine iteD (fun z => absurd (congrArg List.length z) nlen) (fun _ => ?_)
      clear h7 h8
      obtain ⟨d7, t7, h7, _⟩ := id (hx4.mono s77)
      obtain ⟨d8, t8, h8, _⟩ := id (hx1.mono s77)
      refine ⟨_, rfl, _, rfl, x4, _, _, _, rfl, h7, .base (.ins h8 T.cl_Amounts T.k1_Amounts T.kg T.kt T.k4_Amounts), notFirst_self, x4, x1, xd, xa, rfl, hx4.mono s77, hx1.mono s77, _, rfl, ?_⟩
      refine iteD (fun z => absurd (congrArg List.length z) (Ne.symm nlen)) (fun _ => ?_)
      clear h7 h8
      refine ⟨5, rfl, by decide, by decide, for_range (lo := 0) (n := 5) (fun i σ H9 => ∃ (v1 v2 v3 v4 v5 : Option V), σ = [some (.ref sc), some (.ref p), some (.int (1 + c)), some (.ref a), some (.ref b), some (.ref cc), some (.int (1 + sz)), some (.ref dd), some (.ref x1), some (.ref x2), some (.ref x3), some (.ref x4), some (.ref pl), some (.ref sl), some (.ref x5), some (.ref x6), v1, v2, v3, v4, v5] ∧ Same HA H9) ⟨_, _, _, _, _, rfl, s77⟩ ?_ ?_⟩
      · clear s77 q77 si7 si6 si5 si4 si3 si2 si1 s9
        rintro i2 σ H9 hi2 ⟨v1, v2, v3, v4, v5, rfl, s9⟩
        refine ⟨_, rfl, _, rfl, _, rfl, x1, x4, xa, xd, _, rfl, hx1.mono s9, hx4.mono s9, ga, nlen, ?_⟩
        intro l1 t1 Hj1 qj1 hl1 ht1
        have sj1 := s9.trans qj1
        refine ⟨_, rfl, dd, _, rfl, .inl ⟨SqL.of (sj1 _ _ hdd), fun u1 hu1 => ⟨(by show 1 ≤ sizeLine; decide), fun w1 hw1 => ?_⟩⟩⟩
        have sk1 := (same_new (o := .tup (xd.map V.int)) hu1).trans (same_new (o := .lst [.ref u1]) hw1)
        refine ⟨_, _, tup1 (sk1 _ _ hl1) (sk1 _ _ ht1), tup1 (ys := xd) upd_same (same_new hw1 _ _ upd_same), sh1 _, sh1 _, _, rfl, ?_⟩
        rw [eqv1]
        refine iteF ?_
        have sm1 := sj1.trans sk1
        refine ⟨_, rfl, _, rfl, _, rfl, x4, x1, xd, xa, _, rfl, hx4.mono sm1, hx1.mono sm1, gd, (Ne.symm nlen), ?_⟩
        intro l2 t2 Hj2 qj2 hl2 ht2
        have sj2 := sm1.trans qj2
        refine ⟨_, rfl, a, _, rfl, .inl ⟨SqL.of (sj2 _ _ ha), fun u2 hu2 => ⟨(by show 1 ≤ sizeLine; decide), fun w2 hw2 => ?_⟩⟩⟩
        have sk2 := (same_new (o := .tup (xa.map V.int)) hu2).trans (same_new (o := .lst [.ref u2]) hw2)
        refine ⟨_, _, tup1 (sk2 _ _ hl2) (sk2 _ _ ht2), tup1 (ys := xa) upd_same (same_new hw2 _ _ upd_same), sh1 _, sh1 _, _, rfl, ?_⟩
        rw [eqv1]
        refine iteF ?_
        have sm2 := sj2.trans sk2
        exact ⟨_, _, _, _, _, rfl, sm2⟩
      clear s77 q77 si7 si6 si5 si4 si3 si2 si1 s9
      rintro σ H9 ⟨v1, v2, v3, v4, v5, rfl, s9⟩
      refine ⟨_, _, rfl, ⟨by decide, by decide, by decide, by decide⟩, for_range (lo := 5) (n := 2) (fun i σ H9 => ∃ (v1 v2 v3 v4 v5 : Option V), σ = [some (.ref sc), some (.ref p), some (.int (1 + c)), some (.ref a), some (.ref b), some (.ref cc), some (.int (1 + sz)), some (.ref dd), some (.ref x1), some (.ref x2), some (.ref x3), some (.ref x4), some (.ref pl), some (.ref sl), some (.ref x5), some (.ref x6), v1, v2, v3, v4, v5] ∧ Same HA H9) ⟨_, _, _, _, _, rfl, s9⟩ ?_ ?_⟩
      · clear s9
        rintro i2 σ H9 hi2 ⟨v1, v2, v3, v4, v5, rfl, s9⟩
        refine ⟨_, rfl, _, rfl, _, rfl, x5, x6, xp, xs, _, rfl, hx5.mono s9, hx6.mono s9, gp, (by omega), ?_⟩
        intro l3 t3 Hj3 qj3 hl3 ht3
        have sj3 := s9.trans qj3
        refine ⟨_, rfl, sl, _, rfl, .inl ⟨SqL.of (sj3 _ _ hsl), fun u3 hu3 => ⟨(by show 1 ≤ sizeLine; decide), fun w3 hw3 => ?_⟩⟩⟩
        have sk3 := (same_new (o := .tup (xs.map V.int)) hu3).trans (same_new (o := .lst [.ref u3]) hw3)
        refine ⟨_, _, tup1 (sk3 _ _ hl3) (sk3 _ _ ht3), tup1 (ys := xs) upd_same (same_new hw3 _ _ upd_same), sh1 _, sh1 _, _, rfl, ?_⟩
        rw [eqv1]
        refine iteF ?_
        have sm3 := sj3.trans sk3
        exact ⟨_, _, _, _, _, rfl, sm3⟩
      clear s9
      rintro σ H9 ⟨v1, v2, v3, v4, v5, rfl, s9⟩
      refine ⟨(by show 3 ≤ sizeLine; decide), fun tq htq => ?_⟩
      have sq := s9.trans (same_new (o := .tup (([0, 4, 5] : List Int).map V.int)) htq)
      refine ⟨tq, rfl, ⟨_, SqT.of upd_same⟩, for_tup (K := K) (a := tq) (xs := ([0, 4, 5] : List Int).map V.int) (fun i σ H9 => ∃ (v1 v2 v3 v4 v5 : Option V), σ = [some (.ref sc), some (.ref p), some (.int (1 + c)), some (.ref a), some (.ref b), some (.ref cc), some (.int (1 + sz)), some (.ref dd), some (.ref x1), some (.ref x2), some (.ref x3), some (.ref x4), some (.ref pl), some (.ref sl), some (.ref x5), some (.ref x6), v1, v2, v3, v4, v5] ∧ Same HA H9 ∧ H9 tq = some (.tup (([0, 4, 5] : List Int).map V.int))) ⟨_, _, _, _, _, rfl, sq, upd_same⟩ (fun i σ H9 _ ⟨_, _, _, _, _, _, _, h⟩ => SqT.of h) ?_ ?_⟩
      · clear sq s9
        rintro i2 v σ H9 hv ⟨v1, v2, v3, v4, v5, rfl, s9, h9⟩
        obtain ⟨m, hm, rfl⟩ := getMap hv
        have hm3 : m = 0 ∨ m = 4 ∨ m = 5 := by
          have := List.mem_of_getElem? hm
          simpa using this
        have s1 := s9
        refine ⟨_, rfl, _, rfl, a, b, _, _, rfl, rfl, s1 _ _ ha, s1 _ _ hb, by simp only [List.length_append, List.length_map]; rw [sizeLine_eq]; omega, fun g1 hg1 => ?_⟩
        have s2 := s1.trans (same_new (o := .lst (xa.map V.int ++ xb.map V.int)) hg1)
        refine ⟨_, rfl, g1, cc, _, _, rfl, rfl, upd_same, s2 _ _ hcc, by simp only [List.length_append, List.length_map]; rw [sizeLine_eq]; omega, fun g2 hg2 => ?_⟩
        have s3 := s2.trans (same_new (o := .lst (xa.map V.int ++ xb.map V.int ++ xc.map V.int)) hg2)
        refine ⟨_, rfl, g2, dd, _, _, rfl, rfl, upd_same, s3 _ _ hdd, by simp only [List.length_append, List.length_map]; rw [sizeLine_eq]; omega, fun g3 hg3 => ?_⟩
        have s4 := s3.trans (same_new (o := .lst (xa.map V.int ++ xb.map V.int ++ xc.map V.int ++ xd.map V.int)) hg3)
        refine ⟨_, rfl, g3, dd, _, _, rfl, rfl, upd_same, s4 _ _ hdd, by simp only [List.length_append, List.length_map]; rw [sizeLine_eq]; omega, fun g4 hg4 => ?_⟩
        have s5 := s4.trans (same_new (o := .lst (xa.map V.int ++ xb.map V.int ++ xc.map V.int ++ xd.map V.int ++ xd.map V.int)) hg4)
        refine ⟨_, rfl, g4, dd, _, _, rfl, rfl, upd_same, s5 _ _ hdd, by simp only [List.length_append, List.length_map]; rw [sizeLine_eq]; omega, fun g5 hg5 => ?_⟩
        have s6 := s5.trans (same_new (o := .lst (xa.map V.int ++ xb.map V.int ++ xc.map V.int ++ xd.map V.int ++ xd.map V.int ++ xd.map V.int)) hg5)
        refine ⟨_, rfl, g5, _, rfl, SqL.of upd_same, fun ps hps => ?_⟩
        have e5 : cutV (xa.map V.int ++ xb.map V.int ++ xc.map V.int ++ xd.map V.int ++ xd.map V.int ++ xd.map V.int) none (some 5) = ((xa ++ xb ++ xc ++ xd ++ xd ++ xd).take 5).map V.int := by
          rw [cut5 _ (by simp only [List.length_append, List.length_map]; have := ga.1; have := gd.1; omega)]
          simp only [List.map_append, List.map_take]
        have s7 := s6.trans (same_new (o := .lst (cutV (xa.map V.int ++ xb.map V.int ++ xc.map V.int ++ xd.map V.int ++ xd.map V.int ++ xd.map V.int) none (some 5))) hps)
        refine ⟨_, rfl, ps, (xa ++ xb ++ xc ++ xd ++ xd ++ xd).take 5, m, rfl, by rw [← e5]; exact upd_same, by rw [List.length_take]; simp only [List.length_append]; have := ga.1; have := gd.1; omega, hm3, ?_⟩
        intro Hk qk
        refine ⟨true, rfl, iteF ?_⟩
        exact ⟨_, _, _, _, _, rfl, s7.trans qk, qk _ _ (same_new hps _ _ (same_new hg5 _ _ (same_new hg4 _ _ (same_new hg3 _ _ (same_new hg2 _ _ (same_new hg1 _ _ (h9)))))))⟩
      · rintro σ H9 ⟨v1, v2, v3, v4, v5, rfl, s9, _⟩
        exact ⟨_, _, _, _, _, rfl, s9⟩
    · rintro σ H9 ⟨v1, v2, v3, v4, v5, rfl, s9⟩
      refine ⟨_, rfl, _, rfl, x5, pl, xp, rfl, hx5.mono s9, s9 _ _ hpl, gp, ?_⟩
      intro Hy qy
      have sy := s9.trans qy
      refine ⟨true, rfl, iteT ?_⟩
      exact ⟨_, rfl, _, rfl, x6, sl, xs, rfl, hx6.mono sy, sy _ _ hsl, gs, fun Hz _ => k Hz⟩
end
theorem all_mk {P : Program} {w : World} {K : PySem.W.Frag} {h : Heap} {mg : Str → Option Value} {fa : Addr} (X : K.In h) (G : h.Ns mainGlobals mg) (hfa : mg "law" = some (.ref fa))
    {c_Amounts c_GangError c_BadAmounts c_BadShare c_BadSpan f_GangError_init f_refuse_lengths f_Amounts_init f_Amounts_bool f_Amounts_add f_Amounts_sub f_Amounts_and f_Amounts_or f_Amounts_mul f_Amounts_rmul f_Amounts_floordiv f_Amounts_mod f_Amounts_contains f_Amounts_eq f_Amounts_getitem f_Amounts_len f_Amounts_iter f_pool f_draw f_number f_signed f_near f_row f_whole f_is f_within f_subject f_counted f_pair f_law : Addr}
    {od_GangError_init an_GangError_init : Option Addr} {sl_GangError_init : Array (Option Value)} {oc_GangError_init kV_GangError_init dc_GangError_init pm_GangError_init cd_GangError_init ct_GangError_init : Value}
    {od_refuse_lengths an_refuse_lengths : Option Addr} {sl_refuse_lengths : Array (Option Value)} {oc_refuse_lengths kV_refuse_lengths dc_refuse_lengths pm_refuse_lengths cd_refuse_lengths ct_refuse_lengths : Value}
    {od_Amounts_init an_Amounts_init : Option Addr} {sl_Amounts_init : Array (Option Value)} {oc_Amounts_init kV_Amounts_init dc_Amounts_init pm_Amounts_init cd_Amounts_init ct_Amounts_init : Value}
    {od_Amounts_bool an_Amounts_bool : Option Addr} {sl_Amounts_bool : Array (Option Value)} {oc_Amounts_bool kV_Amounts_bool dc_Amounts_bool pm_Amounts_bool cd_Amounts_bool ct_Amounts_bool : Value}
    {od_Amounts_add an_Amounts_add : Option Addr} {sl_Amounts_add : Array (Option Value)} {oc_Amounts_add kV_Amounts_add dc_Amounts_add pm_Amounts_add cd_Amounts_add ct_Amounts_add : Value}
    {od_Amounts_sub an_Amounts_sub : Option Addr} {sl_Amounts_sub : Array (Option Value)} {oc_Amounts_sub kV_Amounts_sub dc_Amounts_sub pm_Amounts_sub cd_Amounts_sub ct_Amounts_sub : Value}
    {od_Amounts_and an_Amounts_and : Option Addr} {sl_Amounts_and : Array (Option Value)} {oc_Amounts_and kV_Amounts_and dc_Amounts_and pm_Amounts_and cd_Amounts_and ct_Amounts_and : Value}
    {od_Amounts_or an_Amounts_or : Option Addr} {sl_Amounts_or : Array (Option Value)} {oc_Amounts_or kV_Amounts_or dc_Amounts_or pm_Amounts_or cd_Amounts_or ct_Amounts_or : Value}
    {od_Amounts_mul an_Amounts_mul : Option Addr} {sl_Amounts_mul : Array (Option Value)} {oc_Amounts_mul kV_Amounts_mul dc_Amounts_mul pm_Amounts_mul cd_Amounts_mul ct_Amounts_mul : Value}
    {od_Amounts_rmul an_Amounts_rmul : Option Addr} {sl_Amounts_rmul : Array (Option Value)} {oc_Amounts_rmul kV_Amounts_rmul dc_Amounts_rmul pm_Amounts_rmul cd_Amounts_rmul ct_Amounts_rmul : Value}
    {od_Amounts_floordiv an_Amounts_floordiv : Option Addr} {sl_Amounts_floordiv : Array (Option Value)} {oc_Amounts_floordiv kV_Amounts_floordiv dc_Amounts_floordiv pm_Amounts_floordiv cd_Amounts_floordiv ct_Amounts_floordiv : Value}
    {od_Amounts_mod an_Amounts_mod : Option Addr} {sl_Amounts_mod : Array (Option Value)} {oc_Amounts_mod kV_Amounts_mod dc_Amounts_mod pm_Amounts_mod cd_Amounts_mod ct_Amounts_mod : Value}
    {od_Amounts_contains an_Amounts_contains : Option Addr} {sl_Amounts_contains : Array (Option Value)} {oc_Amounts_contains kV_Amounts_contains dc_Amounts_contains pm_Amounts_contains cd_Amounts_contains ct_Amounts_contains : Value}
    {od_Amounts_eq an_Amounts_eq : Option Addr} {sl_Amounts_eq : Array (Option Value)} {oc_Amounts_eq kV_Amounts_eq dc_Amounts_eq pm_Amounts_eq cd_Amounts_eq ct_Amounts_eq : Value}
    {od_Amounts_getitem an_Amounts_getitem : Option Addr} {sl_Amounts_getitem : Array (Option Value)} {oc_Amounts_getitem kV_Amounts_getitem dc_Amounts_getitem pm_Amounts_getitem cd_Amounts_getitem ct_Amounts_getitem : Value}
    {od_Amounts_len an_Amounts_len : Option Addr} {sl_Amounts_len : Array (Option Value)} {oc_Amounts_len kV_Amounts_len dc_Amounts_len pm_Amounts_len cd_Amounts_len ct_Amounts_len : Value}
    {od_Amounts_iter an_Amounts_iter : Option Addr} {sl_Amounts_iter : Array (Option Value)} {oc_Amounts_iter kV_Amounts_iter dc_Amounts_iter pm_Amounts_iter cd_Amounts_iter ct_Amounts_iter : Value}
    {od_pool an_pool : Option Addr} {sl_pool : Array (Option Value)} {oc_pool kV_pool dc_pool pm_pool cd_pool ct_pool : Value}
    {od_draw an_draw : Option Addr} {sl_draw : Array (Option Value)} {oc_draw kV_draw dc_draw pm_draw cd_draw ct_draw : Value}
    {od_number an_number : Option Addr} {sl_number : Array (Option Value)} {oc_number kV_number dc_number pm_number cd_number ct_number : Value}
    {od_signed an_signed : Option Addr} {sl_signed : Array (Option Value)} {oc_signed kV_signed dc_signed pm_signed cd_signed ct_signed : Value}
    {od_near an_near : Option Addr} {sl_near : Array (Option Value)} {oc_near kV_near dc_near pm_near cd_near ct_near : Value}
    {od_row an_row : Option Addr} {sl_row : Array (Option Value)} {oc_row kV_row dc_row pm_row cd_row ct_row : Value}
    {od_whole an_whole : Option Addr} {sl_whole : Array (Option Value)} {oc_whole kV_whole dc_whole pm_whole cd_whole ct_whole : Value}
    {od_is an_is : Option Addr} {sl_is : Array (Option Value)} {oc_is kV_is dc_is pm_is cd_is ct_is : Value}
    {od_within an_within : Option Addr} {sl_within : Array (Option Value)} {oc_within kV_within dc_within pm_within cd_within ct_within : Value}
    {od_subject an_subject : Option Addr} {sl_subject : Array (Option Value)} {oc_subject kV_subject dc_subject pm_subject cd_subject ct_subject : Value}
    {od_counted an_counted : Option Addr} {sl_counted : Array (Option Value)} {oc_counted kV_counted dc_counted pm_counted cd_counted ct_counted : Value}
    {od_pair an_pair : Option Addr} {sl_pair : Array (Option Value)} {oc_pair kV_pair dc_pair pm_pair cd_pair ct_pair : Value}
    {od_law an_law : Option Addr} {sl_law : Array (Option Value)} {oc_law kV_law dc_law pm_law cd_law ct_law : Value}
    {rc_Amounts_add fo_Amounts_add ro_Amounts_add : Option Value}
    {rc_Amounts_sub fo_Amounts_sub ro_Amounts_sub : Option Value}
    {rc_Amounts_and fo_Amounts_and ro_Amounts_and : Option Value}
    {rc_Amounts_or fo_Amounts_or ro_Amounts_or : Option Value}
    {rc_Amounts_floordiv fo_Amounts_floordiv ro_Amounts_floordiv : Option Value}
    {rc_Amounts_mod fo_Amounts_mod ro_Amounts_mod : Option Value}
    {rc_Amounts_mul fo_Amounts_mul ro_Amounts_mul : Option Value}
    {nm_GangError q_GangError : Str} {N_GangError : Addr} {bs_GangError bm_GangError : List Value} {sn_GangError : List Str} {sub_GangError : List Value} {ab_GangError : Bool} {col_GangError : Option Bool} {dd_GangError : Option Addr} {m0_GangError m1_GangError m2_GangError m3_GangError m5_GangError : Option Value}
    {nm_BadAmounts q_BadAmounts : Str} {N_BadAmounts : Addr} {bs_BadAmounts bm_BadAmounts : List Value} {sn_BadAmounts : List Str} {sub_BadAmounts : List Value} {ab_BadAmounts : Bool} {col_BadAmounts : Option Bool} {dd_BadAmounts : Option Addr} {m0_BadAmounts m1_BadAmounts m2_BadAmounts m3_BadAmounts m5_BadAmounts : Option Value}
    {nm_BadShare q_BadShare : Str} {N_BadShare : Addr} {bs_BadShare bm_BadShare : List Value} {sn_BadShare : List Str} {sub_BadShare : List Value} {ab_BadShare : Bool} {col_BadShare : Option Bool} {dd_BadShare : Option Addr} {m0_BadShare m1_BadShare m2_BadShare m3_BadShare m5_BadShare : Option Value}
    {nm_BadSpan q_BadSpan : Str} {N_BadSpan : Addr} {bs_BadSpan bm_BadSpan : List Value} {sn_BadSpan : List Str} {sub_BadSpan : List Value} {ab_BadSpan : Bool} {col_BadSpan : Option Bool} {dd_BadSpan : Option Addr} {m0_BadSpan m1_BadSpan m2_BadSpan m3_BadSpan m5_BadSpan : Option Value}
    (nb_ValueError : PySem.W.nsIn K mainGlobals "ValueError" = some none)
    (nb_abs : PySem.W.nsIn K mainGlobals "abs" = some none)
    (nb_all : PySem.W.nsIn K mainGlobals "all" = some none)
    (nb_any : PySem.W.nsIn K mainGlobals "any" = some none)
    (nb_bool : PySem.W.nsIn K mainGlobals "bool" = some none)
    (nb_int : PySem.W.nsIn K mainGlobals "int" = some none)
    (nb_isinstance : PySem.W.nsIn K mainGlobals "isinstance" = some none)
    (nb_iter : PySem.W.nsIn K mainGlobals "iter" = some none)
    (nb_len : PySem.W.nsIn K mainGlobals "len" = some none)
    (nb_list : PySem.W.nsIn K mainGlobals "list" = some none)
    (nb_max : PySem.W.nsIn K mainGlobals "max" = some none)
    (nb_min : PySem.W.nsIn K mainGlobals "min" = some none)
    (nb_range : PySem.W.nsIn K mainGlobals "range" = some none)
    (nb_tuple : PySem.W.nsIn K mainGlobals "tuple" = some none)
    (nb_zip : PySem.W.nsIn K mainGlobals "zip" = some none)
    (ag_Amounts : PySem.W.nsIn K mainGlobals "Amounts" = some (some (.ref c_Amounts)))
    (ag_GangError : PySem.W.nsIn K mainGlobals "GangError" = some (some (.ref c_GangError)))
    (ag_BadAmounts : PySem.W.nsIn K mainGlobals "BadAmounts" = some (some (.ref c_BadAmounts)))
    (ag_BadShare : PySem.W.nsIn K mainGlobals "BadShare" = some (some (.ref c_BadShare)))
    (ag_BadSpan : PySem.W.nsIn K mainGlobals "BadSpan" = some (some (.ref c_BadSpan)))
    (at_GangError_init : PySem.W.findIn K (.ref c_GangError) "__init__" = some (some (.ref f_GangError_init)))
    (lk_GangError_init : K.lookup f_GangError_init = some ⟨oc_GangError_init, od_GangError_init, .func (PySem.W.fnOf "__init__" "GangError.__init__" (defArgs s_GangError_init) (defBody s_GangError_init) (defScope s_GangError_init) .none kV_GangError_init dc_GangError_init pm_GangError_init an_GangError_init cd_GangError_init ct_GangError_init), sl_GangError_init⟩)
    (co_GangError_init : PySem.W.codeIn K cd_GangError_init "GangError.__init__" = true)
    (ke_GangError_init : PySem.W.keepIn K (.ref f_GangError_init) = true)
    (fn_GangError_init : PySem.W.isFn K (.ref f_GangError_init) = true)
    (at_refuse_lengths : PySem.W.nsIn K mainGlobals "refuse_lengths" = some (some (.ref f_refuse_lengths)))
    (lk_refuse_lengths : K.lookup f_refuse_lengths = some ⟨oc_refuse_lengths, od_refuse_lengths, .func (PySem.W.fnOf "refuse_lengths" "refuse_lengths" (defArgs s_refuse_lengths) (defBody s_refuse_lengths) (defScope s_refuse_lengths) .none kV_refuse_lengths dc_refuse_lengths pm_refuse_lengths an_refuse_lengths cd_refuse_lengths ct_refuse_lengths), sl_refuse_lengths⟩)
    (co_refuse_lengths : PySem.W.codeIn K cd_refuse_lengths "refuse_lengths" = true)
    (ke_refuse_lengths : PySem.W.keepIn K (.ref f_refuse_lengths) = true)
    (at_Amounts_init : PySem.W.findIn K (.ref c_Amounts) "__init__" = some (some (.ref f_Amounts_init)))
    (lk_Amounts_init : K.lookup f_Amounts_init = some ⟨oc_Amounts_init, od_Amounts_init, .func (PySem.W.fnOf "__init__" "Amounts.__init__" (defArgs s_Amounts_init) (defBody s_Amounts_init) (defScope s_Amounts_init) .none kV_Amounts_init dc_Amounts_init pm_Amounts_init an_Amounts_init cd_Amounts_init ct_Amounts_init), sl_Amounts_init⟩)
    (co_Amounts_init : PySem.W.codeIn K cd_Amounts_init "Amounts.__init__" = true)
    (ke_Amounts_init : PySem.W.keepIn K (.ref f_Amounts_init) = true)
    (fn_Amounts_init : PySem.W.isFn K (.ref f_Amounts_init) = true)
    (at_Amounts_bool : PySem.W.findIn K (.ref c_Amounts) "__bool__" = some (some (.ref f_Amounts_bool)))
    (lk_Amounts_bool : K.lookup f_Amounts_bool = some ⟨oc_Amounts_bool, od_Amounts_bool, .func (PySem.W.fnOf "__bool__" "Amounts.__bool__" (defArgs s_Amounts_bool) (defBody s_Amounts_bool) (defScope s_Amounts_bool) .none kV_Amounts_bool dc_Amounts_bool pm_Amounts_bool an_Amounts_bool cd_Amounts_bool ct_Amounts_bool), sl_Amounts_bool⟩)
    (co_Amounts_bool : PySem.W.codeIn K cd_Amounts_bool "Amounts.__bool__" = true)
    (ke_Amounts_bool : PySem.W.keepIn K (.ref f_Amounts_bool) = true)
    (fn_Amounts_bool : PySem.W.isFn K (.ref f_Amounts_bool) = true)
    (at_Amounts_add : PySem.W.findIn K (.ref c_Amounts) "__add__" = some (some (.ref f_Amounts_add)))
    (lk_Amounts_add : K.lookup f_Amounts_add = some ⟨oc_Amounts_add, od_Amounts_add, .func (PySem.W.fnOf "__add__" "Amounts.__add__" (defArgs s_Amounts_add) (defBody s_Amounts_add) (defScope s_Amounts_add) .none kV_Amounts_add dc_Amounts_add pm_Amounts_add an_Amounts_add cd_Amounts_add ct_Amounts_add), sl_Amounts_add⟩)
    (co_Amounts_add : PySem.W.codeIn K cd_Amounts_add "Amounts.__add__" = true)
    (ke_Amounts_add : PySem.W.keepIn K (.ref f_Amounts_add) = true)
    (fn_Amounts_add : PySem.W.isFn K (.ref f_Amounts_add) = true)
    (at_Amounts_sub : PySem.W.findIn K (.ref c_Amounts) "__sub__" = some (some (.ref f_Amounts_sub)))
    (lk_Amounts_sub : K.lookup f_Amounts_sub = some ⟨oc_Amounts_sub, od_Amounts_sub, .func (PySem.W.fnOf "__sub__" "Amounts.__sub__" (defArgs s_Amounts_sub) (defBody s_Amounts_sub) (defScope s_Amounts_sub) .none kV_Amounts_sub dc_Amounts_sub pm_Amounts_sub an_Amounts_sub cd_Amounts_sub ct_Amounts_sub), sl_Amounts_sub⟩)
    (co_Amounts_sub : PySem.W.codeIn K cd_Amounts_sub "Amounts.__sub__" = true)
    (ke_Amounts_sub : PySem.W.keepIn K (.ref f_Amounts_sub) = true)
    (fn_Amounts_sub : PySem.W.isFn K (.ref f_Amounts_sub) = true)
    (at_Amounts_and : PySem.W.findIn K (.ref c_Amounts) "__and__" = some (some (.ref f_Amounts_and)))
    (lk_Amounts_and : K.lookup f_Amounts_and = some ⟨oc_Amounts_and, od_Amounts_and, .func (PySem.W.fnOf "__and__" "Amounts.__and__" (defArgs s_Amounts_and) (defBody s_Amounts_and) (defScope s_Amounts_and) .none kV_Amounts_and dc_Amounts_and pm_Amounts_and an_Amounts_and cd_Amounts_and ct_Amounts_and), sl_Amounts_and⟩)
    (co_Amounts_and : PySem.W.codeIn K cd_Amounts_and "Amounts.__and__" = true)
    (ke_Amounts_and : PySem.W.keepIn K (.ref f_Amounts_and) = true)
    (fn_Amounts_and : PySem.W.isFn K (.ref f_Amounts_and) = true)
    (at_Amounts_or : PySem.W.findIn K (.ref c_Amounts) "__or__" = some (some (.ref f_Amounts_or)))
    (lk_Amounts_or : K.lookup f_Amounts_or = some ⟨oc_Amounts_or, od_Amounts_or, .func (PySem.W.fnOf "__or__" "Amounts.__or__" (defArgs s_Amounts_or) (defBody s_Amounts_or) (defScope s_Amounts_or) .none kV_Amounts_or dc_Amounts_or pm_Amounts_or an_Amounts_or cd_Amounts_or ct_Amounts_or), sl_Amounts_or⟩)
    (co_Amounts_or : PySem.W.codeIn K cd_Amounts_or "Amounts.__or__" = true)
    (ke_Amounts_or : PySem.W.keepIn K (.ref f_Amounts_or) = true)
    (fn_Amounts_or : PySem.W.isFn K (.ref f_Amounts_or) = true)
    (at_Amounts_mul : PySem.W.findIn K (.ref c_Amounts) "__mul__" = some (some (.ref f_Amounts_mul)))
    (lk_Amounts_mul : K.lookup f_Amounts_mul = some ⟨oc_Amounts_mul, od_Amounts_mul, .func (PySem.W.fnOf "__mul__" "Amounts.__mul__" (defArgs s_Amounts_mul) (defBody s_Amounts_mul) (defScope s_Amounts_mul) .none kV_Amounts_mul dc_Amounts_mul pm_Amounts_mul an_Amounts_mul cd_Amounts_mul ct_Amounts_mul), sl_Amounts_mul⟩)
    (co_Amounts_mul : PySem.W.codeIn K cd_Amounts_mul "Amounts.__mul__" = true)
    (ke_Amounts_mul : PySem.W.keepIn K (.ref f_Amounts_mul) = true)
    (fn_Amounts_mul : PySem.W.isFn K (.ref f_Amounts_mul) = true)
    (at_Amounts_rmul : PySem.W.findIn K (.ref c_Amounts) "__rmul__" = some (some (.ref f_Amounts_rmul)))
    (lk_Amounts_rmul : K.lookup f_Amounts_rmul = some ⟨oc_Amounts_rmul, od_Amounts_rmul, .func (PySem.W.fnOf "__rmul__" "Amounts.__rmul__" (defArgs s_Amounts_rmul) (defBody s_Amounts_rmul) (defScope s_Amounts_rmul) .none kV_Amounts_rmul dc_Amounts_rmul pm_Amounts_rmul an_Amounts_rmul cd_Amounts_rmul ct_Amounts_rmul), sl_Amounts_rmul⟩)
    (co_Amounts_rmul : PySem.W.codeIn K cd_Amounts_rmul "Amounts.__rmul__" = true)
    (ke_Amounts_rmul : PySem.W.keepIn K (.ref f_Amounts_rmul) = true)
    (fn_Amounts_rmul : PySem.W.isFn K (.ref f_Amounts_rmul) = true)
    (at_Amounts_floordiv : PySem.W.findIn K (.ref c_Amounts) "__floordiv__" = some (some (.ref f_Amounts_floordiv)))
    (lk_Amounts_floordiv : K.lookup f_Amounts_floordiv = some ⟨oc_Amounts_floordiv, od_Amounts_floordiv, .func (PySem.W.fnOf "__floordiv__" "Amounts.__floordiv__" (defArgs s_Amounts_floordiv) (defBody s_Amounts_floordiv) (defScope s_Amounts_floordiv) .none kV_Amounts_floordiv dc_Amounts_floordiv pm_Amounts_floordiv an_Amounts_floordiv cd_Amounts_floordiv ct_Amounts_floordiv), sl_Amounts_floordiv⟩)
    (co_Amounts_floordiv : PySem.W.codeIn K cd_Amounts_floordiv "Amounts.__floordiv__" = true)
    (ke_Amounts_floordiv : PySem.W.keepIn K (.ref f_Amounts_floordiv) = true)
    (fn_Amounts_floordiv : PySem.W.isFn K (.ref f_Amounts_floordiv) = true)
    (at_Amounts_mod : PySem.W.findIn K (.ref c_Amounts) "__mod__" = some (some (.ref f_Amounts_mod)))
    (lk_Amounts_mod : K.lookup f_Amounts_mod = some ⟨oc_Amounts_mod, od_Amounts_mod, .func (PySem.W.fnOf "__mod__" "Amounts.__mod__" (defArgs s_Amounts_mod) (defBody s_Amounts_mod) (defScope s_Amounts_mod) .none kV_Amounts_mod dc_Amounts_mod pm_Amounts_mod an_Amounts_mod cd_Amounts_mod ct_Amounts_mod), sl_Amounts_mod⟩)
    (co_Amounts_mod : PySem.W.codeIn K cd_Amounts_mod "Amounts.__mod__" = true)
    (ke_Amounts_mod : PySem.W.keepIn K (.ref f_Amounts_mod) = true)
    (fn_Amounts_mod : PySem.W.isFn K (.ref f_Amounts_mod) = true)
    (at_Amounts_contains : PySem.W.findIn K (.ref c_Amounts) "__contains__" = some (some (.ref f_Amounts_contains)))
    (lk_Amounts_contains : K.lookup f_Amounts_contains = some ⟨oc_Amounts_contains, od_Amounts_contains, .func (PySem.W.fnOf "__contains__" "Amounts.__contains__" (defArgs s_Amounts_contains) (defBody s_Amounts_contains) (defScope s_Amounts_contains) .none kV_Amounts_contains dc_Amounts_contains pm_Amounts_contains an_Amounts_contains cd_Amounts_contains ct_Amounts_contains), sl_Amounts_contains⟩)
    (co_Amounts_contains : PySem.W.codeIn K cd_Amounts_contains "Amounts.__contains__" = true)
    (ke_Amounts_contains : PySem.W.keepIn K (.ref f_Amounts_contains) = true)
    (fn_Amounts_contains : PySem.W.isFn K (.ref f_Amounts_contains) = true)
    (at_Amounts_eq : PySem.W.findIn K (.ref c_Amounts) "__eq__" = some (some (.ref f_Amounts_eq)))
    (lk_Amounts_eq : K.lookup f_Amounts_eq = some ⟨oc_Amounts_eq, od_Amounts_eq, .func (PySem.W.fnOf "__eq__" "Amounts.__eq__" (defArgs s_Amounts_eq) (defBody s_Amounts_eq) (defScope s_Amounts_eq) .none kV_Amounts_eq dc_Amounts_eq pm_Amounts_eq an_Amounts_eq cd_Amounts_eq ct_Amounts_eq), sl_Amounts_eq⟩)
    (co_Amounts_eq : PySem.W.codeIn K cd_Amounts_eq "Amounts.__eq__" = true)
    (ke_Amounts_eq : PySem.W.keepIn K (.ref f_Amounts_eq) = true)
    (fn_Amounts_eq : PySem.W.isFn K (.ref f_Amounts_eq) = true)
    (at_Amounts_getitem : PySem.W.findIn K (.ref c_Amounts) "__getitem__" = some (some (.ref f_Amounts_getitem)))
    (lk_Amounts_getitem : K.lookup f_Amounts_getitem = some ⟨oc_Amounts_getitem, od_Amounts_getitem, .func (PySem.W.fnOf "__getitem__" "Amounts.__getitem__" (defArgs s_Amounts_getitem) (defBody s_Amounts_getitem) (defScope s_Amounts_getitem) .none kV_Amounts_getitem dc_Amounts_getitem pm_Amounts_getitem an_Amounts_getitem cd_Amounts_getitem ct_Amounts_getitem), sl_Amounts_getitem⟩)
    (co_Amounts_getitem : PySem.W.codeIn K cd_Amounts_getitem "Amounts.__getitem__" = true)
    (ke_Amounts_getitem : PySem.W.keepIn K (.ref f_Amounts_getitem) = true)
    (fn_Amounts_getitem : PySem.W.isFn K (.ref f_Amounts_getitem) = true)
    (at_Amounts_len : PySem.W.findIn K (.ref c_Amounts) "__len__" = some (some (.ref f_Amounts_len)))
    (lk_Amounts_len : K.lookup f_Amounts_len = some ⟨oc_Amounts_len, od_Amounts_len, .func (PySem.W.fnOf "__len__" "Amounts.__len__" (defArgs s_Amounts_len) (defBody s_Amounts_len) (defScope s_Amounts_len) .none kV_Amounts_len dc_Amounts_len pm_Amounts_len an_Amounts_len cd_Amounts_len ct_Amounts_len), sl_Amounts_len⟩)
    (co_Amounts_len : PySem.W.codeIn K cd_Amounts_len "Amounts.__len__" = true)
    (ke_Amounts_len : PySem.W.keepIn K (.ref f_Amounts_len) = true)
    (fn_Amounts_len : PySem.W.isFn K (.ref f_Amounts_len) = true)
    (at_Amounts_iter : PySem.W.findIn K (.ref c_Amounts) "__iter__" = some (some (.ref f_Amounts_iter)))
    (lk_Amounts_iter : K.lookup f_Amounts_iter = some ⟨oc_Amounts_iter, od_Amounts_iter, .func (PySem.W.fnOf "__iter__" "Amounts.__iter__" (defArgs s_Amounts_iter) (defBody s_Amounts_iter) (defScope s_Amounts_iter) .none kV_Amounts_iter dc_Amounts_iter pm_Amounts_iter an_Amounts_iter cd_Amounts_iter ct_Amounts_iter), sl_Amounts_iter⟩)
    (co_Amounts_iter : PySem.W.codeIn K cd_Amounts_iter "Amounts.__iter__" = true)
    (ke_Amounts_iter : PySem.W.keepIn K (.ref f_Amounts_iter) = true)
    (fn_Amounts_iter : PySem.W.isFn K (.ref f_Amounts_iter) = true)
    (at_pool : PySem.W.nsIn K mainGlobals "_law_pool" = some (some (.ref f_pool)))
    (lk_pool : K.lookup f_pool = some ⟨oc_pool, od_pool, .func (PySem.W.fnOf "_law_pool" "_law_pool" (defArgs s_pool) (defBody s_pool) (defScope s_pool) .none kV_pool dc_pool pm_pool an_pool cd_pool ct_pool), sl_pool⟩)
    (co_pool : PySem.W.codeIn K cd_pool "_law_pool" = true)
    (ke_pool : PySem.W.keepIn K (.ref f_pool) = true)
    (at_draw : PySem.W.nsIn K mainGlobals "_law_draw" = some (some (.ref f_draw)))
    (lk_draw : K.lookup f_draw = some ⟨oc_draw, od_draw, .func (PySem.W.fnOf "_law_draw" "_law_draw" (defArgs s_draw) (defBody s_draw) (defScope s_draw) .none kV_draw dc_draw pm_draw an_draw cd_draw ct_draw), sl_draw⟩)
    (co_draw : PySem.W.codeIn K cd_draw "_law_draw" = true)
    (ke_draw : PySem.W.keepIn K (.ref f_draw) = true)
    (at_number : PySem.W.nsIn K mainGlobals "_law_number" = some (some (.ref f_number)))
    (lk_number : K.lookup f_number = some ⟨oc_number, od_number, .func (PySem.W.fnOf "_law_number" "_law_number" (defArgs s_number) (defBody s_number) (defScope s_number) .none kV_number dc_number pm_number an_number cd_number ct_number), sl_number⟩)
    (co_number : PySem.W.codeIn K cd_number "_law_number" = true)
    (ke_number : PySem.W.keepIn K (.ref f_number) = true)
    (at_signed : PySem.W.nsIn K mainGlobals "_law_signed" = some (some (.ref f_signed)))
    (lk_signed : K.lookup f_signed = some ⟨oc_signed, od_signed, .func (PySem.W.fnOf "_law_signed" "_law_signed" (defArgs s_signed) (defBody s_signed) (defScope s_signed) .none kV_signed dc_signed pm_signed an_signed cd_signed ct_signed), sl_signed⟩)
    (co_signed : PySem.W.codeIn K cd_signed "_law_signed" = true)
    (ke_signed : PySem.W.keepIn K (.ref f_signed) = true)
    (at_near : PySem.W.nsIn K mainGlobals "_law_near" = some (some (.ref f_near)))
    (lk_near : K.lookup f_near = some ⟨oc_near, od_near, .func (PySem.W.fnOf "_law_near" "_law_near" (defArgs s_near) (defBody s_near) (defScope s_near) .none kV_near dc_near pm_near an_near cd_near ct_near), sl_near⟩)
    (co_near : PySem.W.codeIn K cd_near "_law_near" = true)
    (ke_near : PySem.W.keepIn K (.ref f_near) = true)
    (at_row : PySem.W.nsIn K mainGlobals "_law_row" = some (some (.ref f_row)))
    (lk_row : K.lookup f_row = some ⟨oc_row, od_row, .func (PySem.W.fnOf "_law_row" "_law_row" (defArgs s_row) (defBody s_row) (defScope s_row) .none kV_row dc_row pm_row an_row cd_row ct_row), sl_row⟩)
    (co_row : PySem.W.codeIn K cd_row "_law_row" = true)
    (ke_row : PySem.W.keepIn K (.ref f_row) = true)
    (at_whole : PySem.W.nsIn K mainGlobals "_law_whole" = some (some (.ref f_whole)))
    (lk_whole : K.lookup f_whole = some ⟨oc_whole, od_whole, .func (PySem.W.fnOf "_law_whole" "_law_whole" (defArgs s_whole) (defBody s_whole) (defScope s_whole) .none kV_whole dc_whole pm_whole an_whole cd_whole ct_whole), sl_whole⟩)
    (co_whole : PySem.W.codeIn K cd_whole "_law_whole" = true)
    (ke_whole : PySem.W.keepIn K (.ref f_whole) = true)
    (at_is : PySem.W.nsIn K mainGlobals "_law_is" = some (some (.ref f_is)))
    (lk_is : K.lookup f_is = some ⟨oc_is, od_is, .func (PySem.W.fnOf "_law_is" "_law_is" (defArgs s_is) (defBody s_is) (defScope s_is) .none kV_is dc_is pm_is an_is cd_is ct_is), sl_is⟩)
    (co_is : PySem.W.codeIn K cd_is "_law_is" = true)
    (ke_is : PySem.W.keepIn K (.ref f_is) = true)
    (at_within : PySem.W.nsIn K mainGlobals "_law_within" = some (some (.ref f_within)))
    (lk_within : K.lookup f_within = some ⟨oc_within, od_within, .func (PySem.W.fnOf "_law_within" "_law_within" (defArgs s_within) (defBody s_within) (defScope s_within) .none kV_within dc_within pm_within an_within cd_within ct_within), sl_within⟩)
    (co_within : PySem.W.codeIn K cd_within "_law_within" = true)
    (ke_within : PySem.W.keepIn K (.ref f_within) = true)
    (at_subject : PySem.W.nsIn K mainGlobals "_law_subject" = some (some (.ref f_subject)))
    (lk_subject : K.lookup f_subject = some ⟨oc_subject, od_subject, .func (PySem.W.fnOf "_law_subject" "_law_subject" (defArgs s_subject) (defBody s_subject) (defScope s_subject) .none kV_subject dc_subject pm_subject an_subject cd_subject ct_subject), sl_subject⟩)
    (co_subject : PySem.W.codeIn K cd_subject "_law_subject" = true)
    (ke_subject : PySem.W.keepIn K (.ref f_subject) = true)
    (at_counted : PySem.W.nsIn K mainGlobals "_law_counted" = some (some (.ref f_counted)))
    (lk_counted : K.lookup f_counted = some ⟨oc_counted, od_counted, .func (PySem.W.fnOf "_law_counted" "_law_counted" (defArgs s_counted) (defBody s_counted) (defScope s_counted) .none kV_counted dc_counted pm_counted an_counted cd_counted ct_counted), sl_counted⟩)
    (co_counted : PySem.W.codeIn K cd_counted "_law_counted" = true)
    (ke_counted : PySem.W.keepIn K (.ref f_counted) = true)
    (at_pair : PySem.W.nsIn K mainGlobals "_law_pair" = some (some (.ref f_pair)))
    (lk_pair : K.lookup f_pair = some ⟨oc_pair, od_pair, .func (PySem.W.fnOf "_law_pair" "_law_pair" (defArgs s_pair) (defBody s_pair) (defScope s_pair) .none kV_pair dc_pair pm_pair an_pair cd_pair ct_pair), sl_pair⟩)
    (co_pair : PySem.W.codeIn K cd_pair "_law_pair" = true)
    (ke_pair : PySem.W.keepIn K (.ref f_pair) = true)
    (at_law : PySem.W.nsIn K mainGlobals "law" = some (some (.ref f_law)))
    (lk_law : K.lookup f_law = some ⟨oc_law, od_law, .func (PySem.W.fnOf "law" "law" (defArgs s_law) (defBody s_law) (defScope s_law) .none kV_law dc_law pm_law an_law cd_law ct_law), sl_law⟩)
    (co_law : PySem.W.codeIn K cd_law "law" = true)
    (ke_law : PySem.W.keepIn K (.ref f_law) = true)
    (pg_Amounts : PySem.W.plainGet K c_Amounts Str.empty = true)
    (hd_Amounts : PySem.W.hasDictIn K c_Amounts = true)
    (po_Amounts : PySem.W.plainOver K c_Amounts = true)
    (sa_Amounts : PySem.W.findIn K (.ref c_Amounts) "__setattr__" = some (some (.builtin "object.__setattr__")))
    (mk_Amounts : PySem.W.makesIn K c_Amounts = true)
    (kp_Amounts : PySem.W.keepIn K (.ref c_Amounts) = true)
    (sf_Amounts : PySem.W.selfFirst K c_Amounts = true)
    (k1_Amounts : PySem.W.findIn K (.ref c_Amounts) "__class__" = some (some (.builtin "object.__class__")))
    (k4_Amounts : PySem.W.mroIn K c_Amounts (.type "object") = some true)
    (no_Amounts_numbers : PySem.W.findIn K (.ref c_Amounts) "numbers" = some none)
    (ir_Amounts_add : PySem.W.findIn K (.ref c_Amounts) "__radd__" = some rc_Amounts_add)
    (iz_Amounts_add : (rc_Amounts_add = none ∨ ∃ g : Addr, rc_Amounts_add = some (.ref g)))
    (i1_Amounts_add : PySem.W.findIn K (.type "int") "__add__" = some fo_Amounts_add)
    (i2_Amounts_add : PySem.W.findIn K (.type "int") "__radd__" = some ro_Amounts_add)
    (is_Amounts_add : PySem.W.subIn K (.type "int") (.ref c_Amounts) = some false)
    (ir_Amounts_sub : PySem.W.findIn K (.ref c_Amounts) "__rsub__" = some rc_Amounts_sub)
    (iz_Amounts_sub : (rc_Amounts_sub = none ∨ ∃ g : Addr, rc_Amounts_sub = some (.ref g)))
    (i1_Amounts_sub : PySem.W.findIn K (.type "int") "__sub__" = some fo_Amounts_sub)
    (i2_Amounts_sub : PySem.W.findIn K (.type "int") "__rsub__" = some ro_Amounts_sub)
    (is_Amounts_sub : PySem.W.subIn K (.type "int") (.ref c_Amounts) = some false)
    (ir_Amounts_and : PySem.W.findIn K (.ref c_Amounts) "__rand__" = some rc_Amounts_and)
    (iz_Amounts_and : (rc_Amounts_and = none ∨ ∃ g : Addr, rc_Amounts_and = some (.ref g)))
    (i1_Amounts_and : PySem.W.findIn K (.type "int") "__and__" = some fo_Amounts_and)
    (i2_Amounts_and : PySem.W.findIn K (.type "int") "__rand__" = some ro_Amounts_and)
    (is_Amounts_and : PySem.W.subIn K (.type "int") (.ref c_Amounts) = some false)
    (ir_Amounts_or : PySem.W.findIn K (.ref c_Amounts) "__ror__" = some rc_Amounts_or)
    (iz_Amounts_or : (rc_Amounts_or = none ∨ ∃ g : Addr, rc_Amounts_or = some (.ref g)))
    (i1_Amounts_or : PySem.W.findIn K (.type "int") "__or__" = some fo_Amounts_or)
    (i2_Amounts_or : PySem.W.findIn K (.type "int") "__ror__" = some ro_Amounts_or)
    (is_Amounts_or : PySem.W.subIn K (.type "int") (.ref c_Amounts) = some false)
    (ir_Amounts_floordiv : PySem.W.findIn K (.ref c_Amounts) "__rfloordiv__" = some rc_Amounts_floordiv)
    (iz_Amounts_floordiv : (rc_Amounts_floordiv = none ∨ ∃ g : Addr, rc_Amounts_floordiv = some (.ref g)))
    (i1_Amounts_floordiv : PySem.W.findIn K (.type "int") "__floordiv__" = some fo_Amounts_floordiv)
    (i2_Amounts_floordiv : PySem.W.findIn K (.type "int") "__rfloordiv__" = some ro_Amounts_floordiv)
    (is_Amounts_floordiv : PySem.W.subIn K (.type "int") (.ref c_Amounts) = some false)
    (ir_Amounts_mod : PySem.W.findIn K (.ref c_Amounts) "__rmod__" = some rc_Amounts_mod)
    (iz_Amounts_mod : (rc_Amounts_mod = none ∨ ∃ g : Addr, rc_Amounts_mod = some (.ref g)))
    (i1_Amounts_mod : PySem.W.findIn K (.type "int") "__mod__" = some fo_Amounts_mod)
    (i2_Amounts_mod : PySem.W.findIn K (.type "int") "__rmod__" = some ro_Amounts_mod)
    (is_Amounts_mod : PySem.W.subIn K (.type "int") (.ref c_Amounts) = some false)
    (ir_Amounts_mul : PySem.W.findIn K (.ref c_Amounts) "__rmul__" = some rc_Amounts_mul)
    (iz_Amounts_mul : (rc_Amounts_mul = none ∨ ∃ g : Addr, rc_Amounts_mul = some (.ref g)))
    (i1_Amounts_mul : PySem.W.findIn K (.type "int") "__mul__" = some fo_Amounts_mul)
    (i2_Amounts_mul : PySem.W.findIn K (.type "int") "__rmul__" = some ro_Amounts_mul)
    (is_Amounts_mul : PySem.W.subIn K (.type "int") (.ref c_Amounts) = some false)
    (kg : PySem.W.specialIn K (.builtin "object.__class__") "__get__" = some (some (.builtin "getset_descriptor.__get__")))
    (kt : PySem.W.takesIn K (.builtin "object.__class__") = some true)
    (xl_GangError : K.lookup c_GangError = some (excClassObj nm_GangError q_GangError c_GangError N_GangError bs_GangError bm_GangError true sn_GangError sub_GangError ab_GangError col_GangError dd_GangError m0_GangError m1_GangError m2_GangError m3_GangError m5_GangError "ValueError.__new__"))
    (xr_GangError : PySem.HandSPX.refsVE bm_GangError = true)
    (xsa_GangError : PySem.W.findIn K (.ref c_GangError) "__setattr__" = some (some (.builtin "object.__setattr__")))
    (xex_GangError : PySem.W.subIn K (.ref c_GangError) (.type "BaseException") = some true)
    (xty_GangError : PySem.W.typeIn K (.ref c_GangError) = some (.type "type"))
    (xkp_GangError : PySem.W.keepIn K (.ref c_GangError) = true)
    (xin_GangError : PySem.W.findIn K (.ref c_GangError) "__init__" = some (some (.ref f_GangError_init)))
    (xno_GangError : PySem.W.findIn K (.ref c_GangError) "subject" = some none)
    (xga_GangError : PySem.W.findIn K (.ref c_GangError) "__getattribute__" = some (some (.builtin "BaseException.__getattribute__")))
    (xgg_GangError : PySem.W.findIn K (.ref c_GangError) "__getattr__" = some none)
    (xhd_GangError : PySem.W.hasDictIn K c_GangError = true)
    (xk1_GangError : PySem.W.findIn K (.ref c_GangError) "__class__" = some (some (.builtin "object.__class__")))
    (xk4_GangError : PySem.W.mroIn K c_GangError (.type "object") = some true)
    (xem_GangError : PySem.W.subIn K (.ref c_GangError) (.ref c_GangError) = some true)
    (xl_BadAmounts : K.lookup c_BadAmounts = some (excClassObj nm_BadAmounts q_BadAmounts c_BadAmounts N_BadAmounts bs_BadAmounts bm_BadAmounts true sn_BadAmounts sub_BadAmounts ab_BadAmounts col_BadAmounts dd_BadAmounts m0_BadAmounts m1_BadAmounts m2_BadAmounts m3_BadAmounts m5_BadAmounts "ValueError.__new__"))
    (xr_BadAmounts : PySem.HandSPX.refsVE bm_BadAmounts = true)
    (xsa_BadAmounts : PySem.W.findIn K (.ref c_BadAmounts) "__setattr__" = some (some (.builtin "object.__setattr__")))
    (xex_BadAmounts : PySem.W.subIn K (.ref c_BadAmounts) (.type "BaseException") = some true)
    (xty_BadAmounts : PySem.W.typeIn K (.ref c_BadAmounts) = some (.type "type"))
    (xkp_BadAmounts : PySem.W.keepIn K (.ref c_BadAmounts) = true)
    (xin_BadAmounts : PySem.W.findIn K (.ref c_BadAmounts) "__init__" = some (some (.ref f_GangError_init)))
    (xno_BadAmounts : PySem.W.findIn K (.ref c_BadAmounts) "subject" = some none)
    (xga_BadAmounts : PySem.W.findIn K (.ref c_BadAmounts) "__getattribute__" = some (some (.builtin "BaseException.__getattribute__")))
    (xgg_BadAmounts : PySem.W.findIn K (.ref c_BadAmounts) "__getattr__" = some none)
    (xhd_BadAmounts : PySem.W.hasDictIn K c_BadAmounts = true)
    (xk1_BadAmounts : PySem.W.findIn K (.ref c_BadAmounts) "__class__" = some (some (.builtin "object.__class__")))
    (xk4_BadAmounts : PySem.W.mroIn K c_BadAmounts (.type "object") = some true)
    (xem_BadAmounts : PySem.W.subIn K (.ref c_BadAmounts) (.ref c_GangError) = some true)
    (xl_BadShare : K.lookup c_BadShare = some (excClassObj nm_BadShare q_BadShare c_BadShare N_BadShare bs_BadShare bm_BadShare true sn_BadShare sub_BadShare ab_BadShare col_BadShare dd_BadShare m0_BadShare m1_BadShare m2_BadShare m3_BadShare m5_BadShare "ValueError.__new__"))
    (xr_BadShare : PySem.HandSPX.refsVE bm_BadShare = true)
    (xsa_BadShare : PySem.W.findIn K (.ref c_BadShare) "__setattr__" = some (some (.builtin "object.__setattr__")))
    (xex_BadShare : PySem.W.subIn K (.ref c_BadShare) (.type "BaseException") = some true)
    (xty_BadShare : PySem.W.typeIn K (.ref c_BadShare) = some (.type "type"))
    (xkp_BadShare : PySem.W.keepIn K (.ref c_BadShare) = true)
    (xin_BadShare : PySem.W.findIn K (.ref c_BadShare) "__init__" = some (some (.ref f_GangError_init)))
    (xno_BadShare : PySem.W.findIn K (.ref c_BadShare) "subject" = some none)
    (xga_BadShare : PySem.W.findIn K (.ref c_BadShare) "__getattribute__" = some (some (.builtin "BaseException.__getattribute__")))
    (xgg_BadShare : PySem.W.findIn K (.ref c_BadShare) "__getattr__" = some none)
    (xhd_BadShare : PySem.W.hasDictIn K c_BadShare = true)
    (xk1_BadShare : PySem.W.findIn K (.ref c_BadShare) "__class__" = some (some (.builtin "object.__class__")))
    (xk4_BadShare : PySem.W.mroIn K c_BadShare (.type "object") = some true)
    (xem_BadShare : PySem.W.subIn K (.ref c_BadShare) (.ref c_GangError) = some true)
    (xl_BadSpan : K.lookup c_BadSpan = some (excClassObj nm_BadSpan q_BadSpan c_BadSpan N_BadSpan bs_BadSpan bm_BadSpan true sn_BadSpan sub_BadSpan ab_BadSpan col_BadSpan dd_BadSpan m0_BadSpan m1_BadSpan m2_BadSpan m3_BadSpan m5_BadSpan "ValueError.__new__"))
    (xr_BadSpan : PySem.HandSPX.refsVE bm_BadSpan = true)
    (xsa_BadSpan : PySem.W.findIn K (.ref c_BadSpan) "__setattr__" = some (some (.builtin "object.__setattr__")))
    (xex_BadSpan : PySem.W.subIn K (.ref c_BadSpan) (.type "BaseException") = some true)
    (xty_BadSpan : PySem.W.typeIn K (.ref c_BadSpan) = some (.type "type"))
    (xkp_BadSpan : PySem.W.keepIn K (.ref c_BadSpan) = true)
    (xin_BadSpan : PySem.W.findIn K (.ref c_BadSpan) "__init__" = some (some (.ref f_GangError_init)))
    (xno_BadSpan : PySem.W.findIn K (.ref c_BadSpan) "subject" = some none)
    (xga_BadSpan : PySem.W.findIn K (.ref c_BadSpan) "__getattribute__" = some (some (.builtin "BaseException.__getattribute__")))
    (xgg_BadSpan : PySem.W.findIn K (.ref c_BadSpan) "__getattr__" = some none)
    (xhd_BadSpan : PySem.W.hasDictIn K c_BadSpan = true)
    (xk1_BadSpan : PySem.W.findIn K (.ref c_BadSpan) "__class__" = some (some (.builtin "object.__class__")))
    (xk4_BadSpan : PySem.W.mroIn K c_BadSpan (.type "object") = some true)
    (xem_BadSpan : PySem.W.subIn K (.ref c_BadSpan) (.ref c_GangError) = some true)
    (tI_GangError : PySem.W.typeIn K (.ref f_GangError_init) = some (.type "function"))
    (si_Amounts : PySem.W.subIn K (.ref c_Amounts) (.type "int") = some false)
    (ty_Amounts : PySem.W.typeIn K (.ref c_Amounts) = some (.type "type"))
    (st_int_Amounts : PySem.W.subIn K (.type "int") (.ref c_Amounts) = some false)
    (ss_BadAmounts : PySem.W.subIn K (.ref c_BadAmounts) (.ref c_BadAmounts) = some true)
    (su_BadAmounts_BadAmounts : PySem.W.subIn K (.ref c_BadAmounts) (.ref c_BadAmounts) = some true)
    (su_BadAmounts_ValueError : PySem.W.subIn K (.ref c_BadAmounts) (.type "ValueError") = some true)
    (ss_BadShare : PySem.W.subIn K (.ref c_BadShare) (.ref c_BadShare) = some true)
    (su_BadAmounts_BadShare : PySem.W.subIn K (.ref c_BadAmounts) (.ref c_BadShare) = some false)
    (ss_BadSpan : PySem.W.subIn K (.ref c_BadSpan) (.ref c_BadSpan) = some true)
    (su_BadAmounts_BadSpan : PySem.W.subIn K (.ref c_BadAmounts) (.ref c_BadSpan) = some false)
    : ∃ fd : FuncData, (∀ (s : Shared) (v : Value), BindsTo s fd ⟨[v], []⟩ [("_law_script", v)]) ∧ ∀ base : Heap, K.In base → base.Ns mainGlobals mg → FnOk P w K mg base CX0 12 fa fd ["_law_script"] (spLaw K) := by
  have e := hfa.symm.trans (PySem.W.mg_of X G at_law)
  cases e
  let A : Adr := { c_Amounts := c_Amounts, c_GangError := c_GangError, c_BadAmounts := c_BadAmounts, c_BadShare := c_BadShare, c_BadSpan := c_BadSpan, f_GangError_init := f_GangError_init, d_GangError_init := PySem.W.fnOf "__init__" "GangError.__init__" (defArgs s_GangError_init) (defBody s_GangError_init) (defScope s_GangError_init) .none kV_GangError_init dc_GangError_init pm_GangError_init an_GangError_init cd_GangError_init ct_GangError_init, f_refuse_lengths := f_refuse_lengths, d_refuse_lengths := PySem.W.fnOf "refuse_lengths" "refuse_lengths" (defArgs s_refuse_lengths) (defBody s_refuse_lengths) (defScope s_refuse_lengths) .none kV_refuse_lengths dc_refuse_lengths pm_refuse_lengths an_refuse_lengths cd_refuse_lengths ct_refuse_lengths, f_Amounts_init := f_Amounts_init, d_Amounts_init := PySem.W.fnOf "__init__" "Amounts.__init__" (defArgs s_Amounts_init) (defBody s_Amounts_init) (defScope s_Amounts_init) .none kV_Amounts_init dc_Amounts_init pm_Amounts_init an_Amounts_init cd_Amounts_init ct_Amounts_init, f_Amounts_bool := f_Amounts_bool, d_Amounts_bool := PySem.W.fnOf "__bool__" "Amounts.__bool__" (defArgs s_Amounts_bool) (defBody s_Amounts_bool) (defScope s_Amounts_bool) .none kV_Amounts_bool dc_Amounts_bool pm_Amounts_bool an_Amounts_bool cd_Amounts_bool ct_Amounts_bool, f_Amounts_add := f_Amounts_add, d_Amounts_add := PySem.W.fnOf "__add__" "Amounts.__add__" (defArgs s_Amounts_add) (defBody s_Amounts_add) (defScope s_Amounts_add) .none kV_Amounts_add dc_Amounts_add pm_Amounts_add an_Amounts_add cd_Amounts_add ct_Amounts_add, f_Amounts_sub := f_Amounts_sub, d_Amounts_sub := PySem.W.fnOf "__sub__" "Amounts.__sub__" (defArgs s_Amounts_sub) (defBody s_Amounts_sub) (defScope s_Amounts_sub) .none kV_Amounts_sub dc_Amounts_sub pm_Amounts_sub an_Amounts_sub cd_Amounts_sub ct_Amounts_sub, f_Amounts_and := f_Amounts_and, d_Amounts_and := PySem.W.fnOf "__and__" "Amounts.__and__" (defArgs s_Amounts_and) (defBody s_Amounts_and) (defScope s_Amounts_and) .none kV_Amounts_and dc_Amounts_and pm_Amounts_and an_Amounts_and cd_Amounts_and ct_Amounts_and, f_Amounts_or := f_Amounts_or, d_Amounts_or := PySem.W.fnOf "__or__" "Amounts.__or__" (defArgs s_Amounts_or) (defBody s_Amounts_or) (defScope s_Amounts_or) .none kV_Amounts_or dc_Amounts_or pm_Amounts_or an_Amounts_or cd_Amounts_or ct_Amounts_or, f_Amounts_mul := f_Amounts_mul, d_Amounts_mul := PySem.W.fnOf "__mul__" "Amounts.__mul__" (defArgs s_Amounts_mul) (defBody s_Amounts_mul) (defScope s_Amounts_mul) .none kV_Amounts_mul dc_Amounts_mul pm_Amounts_mul an_Amounts_mul cd_Amounts_mul ct_Amounts_mul, f_Amounts_rmul := f_Amounts_rmul, d_Amounts_rmul := PySem.W.fnOf "__rmul__" "Amounts.__rmul__" (defArgs s_Amounts_rmul) (defBody s_Amounts_rmul) (defScope s_Amounts_rmul) .none kV_Amounts_rmul dc_Amounts_rmul pm_Amounts_rmul an_Amounts_rmul cd_Amounts_rmul ct_Amounts_rmul, f_Amounts_floordiv := f_Amounts_floordiv, d_Amounts_floordiv := PySem.W.fnOf "__floordiv__" "Amounts.__floordiv__" (defArgs s_Amounts_floordiv) (defBody s_Amounts_floordiv) (defScope s_Amounts_floordiv) .none kV_Amounts_floordiv dc_Amounts_floordiv pm_Amounts_floordiv an_Amounts_floordiv cd_Amounts_floordiv ct_Amounts_floordiv, f_Amounts_mod := f_Amounts_mod, d_Amounts_mod := PySem.W.fnOf "__mod__" "Amounts.__mod__" (defArgs s_Amounts_mod) (defBody s_Amounts_mod) (defScope s_Amounts_mod) .none kV_Amounts_mod dc_Amounts_mod pm_Amounts_mod an_Amounts_mod cd_Amounts_mod ct_Amounts_mod, f_Amounts_contains := f_Amounts_contains, d_Amounts_contains := PySem.W.fnOf "__contains__" "Amounts.__contains__" (defArgs s_Amounts_contains) (defBody s_Amounts_contains) (defScope s_Amounts_contains) .none kV_Amounts_contains dc_Amounts_contains pm_Amounts_contains an_Amounts_contains cd_Amounts_contains ct_Amounts_contains, f_Amounts_eq := f_Amounts_eq, d_Amounts_eq := PySem.W.fnOf "__eq__" "Amounts.__eq__" (defArgs s_Amounts_eq) (defBody s_Amounts_eq) (defScope s_Amounts_eq) .none kV_Amounts_eq dc_Amounts_eq pm_Amounts_eq an_Amounts_eq cd_Amounts_eq ct_Amounts_eq, f_Amounts_getitem := f_Amounts_getitem, d_Amounts_getitem := PySem.W.fnOf "__getitem__" "Amounts.__getitem__" (defArgs s_Amounts_getitem) (defBody s_Amounts_getitem) (defScope s_Amounts_getitem) .none kV_Amounts_getitem dc_Amounts_getitem pm_Amounts_getitem an_Amounts_getitem cd_Amounts_getitem ct_Amounts_getitem, f_Amounts_len := f_Amounts_len, d_Amounts_len := PySem.W.fnOf "__len__" "Amounts.__len__" (defArgs s_Amounts_len) (defBody s_Amounts_len) (defScope s_Amounts_len) .none kV_Amounts_len dc_Amounts_len pm_Amounts_len an_Amounts_len cd_Amounts_len ct_Amounts_len, f_Amounts_iter := f_Amounts_iter, d_Amounts_iter := PySem.W.fnOf "__iter__" "Amounts.__iter__" (defArgs s_Amounts_iter) (defBody s_Amounts_iter) (defScope s_Amounts_iter) .none kV_Amounts_iter dc_Amounts_iter pm_Amounts_iter an_Amounts_iter cd_Amounts_iter ct_Amounts_iter, f_pool := f_pool, d_pool := PySem.W.fnOf "_law_pool" "_law_pool" (defArgs s_pool) (defBody s_pool) (defScope s_pool) .none kV_pool dc_pool pm_pool an_pool cd_pool ct_pool, f_draw := f_draw, d_draw := PySem.W.fnOf "_law_draw" "_law_draw" (defArgs s_draw) (defBody s_draw) (defScope s_draw) .none kV_draw dc_draw pm_draw an_draw cd_draw ct_draw, f_number := f_number, d_number := PySem.W.fnOf "_law_number" "_law_number" (defArgs s_number) (defBody s_number) (defScope s_number) .none kV_number dc_number pm_number an_number cd_number ct_number, f_signed := f_signed, d_signed := PySem.W.fnOf "_law_signed" "_law_signed" (defArgs s_signed) (defBody s_signed) (defScope s_signed) .none kV_signed dc_signed pm_signed an_signed cd_signed ct_signed, f_near := f_near, d_near := PySem.W.fnOf "_law_near" "_law_near" (defArgs s_near) (defBody s_near) (defScope s_near) .none kV_near dc_near pm_near an_near cd_near ct_near, f_row := f_row, d_row := PySem.W.fnOf "_law_row" "_law_row" (defArgs s_row) (defBody s_row) (defScope s_row) .none kV_row dc_row pm_row an_row cd_row ct_row, f_whole := f_whole, d_whole := PySem.W.fnOf "_law_whole" "_law_whole" (defArgs s_whole) (defBody s_whole) (defScope s_whole) .none kV_whole dc_whole pm_whole an_whole cd_whole ct_whole, f_is := f_is, d_is := PySem.W.fnOf "_law_is" "_law_is" (defArgs s_is) (defBody s_is) (defScope s_is) .none kV_is dc_is pm_is an_is cd_is ct_is, f_within := f_within, d_within := PySem.W.fnOf "_law_within" "_law_within" (defArgs s_within) (defBody s_within) (defScope s_within) .none kV_within dc_within pm_within an_within cd_within ct_within, f_subject := f_subject, d_subject := PySem.W.fnOf "_law_subject" "_law_subject" (defArgs s_subject) (defBody s_subject) (defScope s_subject) .none kV_subject dc_subject pm_subject an_subject cd_subject ct_subject, f_counted := f_counted, d_counted := PySem.W.fnOf "_law_counted" "_law_counted" (defArgs s_counted) (defBody s_counted) (defScope s_counted) .none kV_counted dc_counted pm_counted an_counted cd_counted ct_counted, f_pair := f_pair, d_pair := PySem.W.fnOf "_law_pair" "_law_pair" (defArgs s_pair) (defBody s_pair) (defScope s_pair) .none kV_pair dc_pair pm_pair an_pair cd_pair ct_pair, f_law := fa, d_law := PySem.W.fnOf "law" "law" (defArgs s_law) (defBody s_law) (defScope s_law) .none kV_law dc_law pm_law an_law cd_law ct_law }
  have T : Txt K mg A := {
    n_ValueError := PySem.W.mg_none_of X G nb_ValueError
    n_abs := PySem.W.mg_none_of X G nb_abs
    n_all := PySem.W.mg_none_of X G nb_all
    n_any := PySem.W.mg_none_of X G nb_any
    n_bool := PySem.W.mg_none_of X G nb_bool
    n_int := PySem.W.mg_none_of X G nb_int
    n_isinstance := PySem.W.mg_none_of X G nb_isinstance
    n_iter := PySem.W.mg_none_of X G nb_iter
    n_len := PySem.W.mg_none_of X G nb_len
    n_list := PySem.W.mg_none_of X G nb_list
    n_max := PySem.W.mg_none_of X G nb_max
    n_min := PySem.W.mg_none_of X G nb_min
    n_range := PySem.W.mg_none_of X G nb_range
    n_tuple := PySem.W.mg_none_of X G nb_tuple
    n_zip := PySem.W.mg_none_of X G nb_zip
    g_Amounts := PySem.W.mg_of X G ag_Amounts
    g_GangError := PySem.W.mg_of X G ag_GangError
    g_BadAmounts := PySem.W.mg_of X G ag_BadAmounts
    g_BadShare := PySem.W.mg_of X G ag_BadShare
    g_BadSpan := PySem.W.mg_of X G ag_BadSpan
    F_GangError_init := fun_mk (st := s_GangError_init) lk_GangError_init co_GangError_init ke_GangError_init
    b_GangError_init := (fun_mk (st := s_GangError_init) lk_GangError_init co_GangError_init ke_GangError_init).binds (ps := ["self", "subject"]) fun _ _ _ _ _ _ us hl => match us, hl with | [_, _], _ => rfl
    me_GangError_init := ⟨at_GangError_init, fn_GangError_init, ke_GangError_init⟩
    F_refuse_lengths := fun_mk (st := s_refuse_lengths) lk_refuse_lengths co_refuse_lengths ke_refuse_lengths
    b_refuse_lengths := (fun_mk (st := s_refuse_lengths) lk_refuse_lengths co_refuse_lengths ke_refuse_lengths).binds (ps := ["left", "right"]) fun _ _ _ _ _ _ us hl => match us, hl with | [_, _], _ => rfl
    g_refuse_lengths := PySem.W.mg_of X G at_refuse_lengths
    F_Amounts_init := fun_mk (st := s_Amounts_init) lk_Amounts_init co_Amounts_init ke_Amounts_init
    me_Amounts_init := ⟨at_Amounts_init, fn_Amounts_init, ke_Amounts_init⟩
    F_Amounts_bool := fun_mk (st := s_Amounts_bool) lk_Amounts_bool co_Amounts_bool ke_Amounts_bool
    b_Amounts_bool := (fun_mk (st := s_Amounts_bool) lk_Amounts_bool co_Amounts_bool ke_Amounts_bool).binds (ps := ["self"]) fun _ _ _ _ _ _ us hl => match us, hl with | [_], _ => rfl
    me_Amounts_bool := ⟨at_Amounts_bool, fn_Amounts_bool, ke_Amounts_bool⟩
    F_Amounts_add := fun_mk (st := s_Amounts_add) lk_Amounts_add co_Amounts_add ke_Amounts_add
    b_Amounts_add := (fun_mk (st := s_Amounts_add) lk_Amounts_add co_Amounts_add ke_Amounts_add).binds (ps := ["self", "other"]) fun _ _ _ _ _ _ us hl => match us, hl with | [_, _], _ => rfl
    me_Amounts_add := ⟨at_Amounts_add, fn_Amounts_add, ke_Amounts_add⟩
    F_Amounts_sub := fun_mk (st := s_Amounts_sub) lk_Amounts_sub co_Amounts_sub ke_Amounts_sub
    b_Amounts_sub := (fun_mk (st := s_Amounts_sub) lk_Amounts_sub co_Amounts_sub ke_Amounts_sub).binds (ps := ["self", "other"]) fun _ _ _ _ _ _ us hl => match us, hl with | [_, _], _ => rfl
    me_Amounts_sub := ⟨at_Amounts_sub, fn_Amounts_sub, ke_Amounts_sub⟩
    F_Amounts_and := fun_mk (st := s_Amounts_and) lk_Amounts_and co_Amounts_and ke_Amounts_and
    b_Amounts_and := (fun_mk (st := s_Amounts_and) lk_Amounts_and co_Amounts_and ke_Amounts_and).binds (ps := ["self", "other"]) fun _ _ _ _ _ _ us hl => match us, hl with | [_, _], _ => rfl
    me_Amounts_and := ⟨at_Amounts_and, fn_Amounts_and, ke_Amounts_and⟩
    F_Amounts_or := fun_mk (st := s_Amounts_or) lk_Amounts_or co_Amounts_or ke_Amounts_or
    b_Amounts_or := (fun_mk (st := s_Amounts_or) lk_Amounts_or co_Amounts_or ke_Amounts_or).binds (ps := ["self", "other"]) fun _ _ _ _ _ _ us hl => match us, hl with | [_, _], _ => rfl
    me_Amounts_or := ⟨at_Amounts_or, fn_Amounts_or, ke_Amounts_or⟩
    F_Amounts_mul := fun_mk (st := s_Amounts_mul) lk_Amounts_mul co_Amounts_mul ke_Amounts_mul
    b_Amounts_mul := (fun_mk (st := s_Amounts_mul) lk_Amounts_mul co_Amounts_mul ke_Amounts_mul).binds (ps := ["self", "other"]) fun _ _ _ _ _ _ us hl => match us, hl with | [_, _], _ => rfl
    me_Amounts_mul := ⟨at_Amounts_mul, fn_Amounts_mul, ke_Amounts_mul⟩
    F_Amounts_rmul := fun_mk (st := s_Amounts_rmul) lk_Amounts_rmul co_Amounts_rmul ke_Amounts_rmul
    b_Amounts_rmul := (fun_mk (st := s_Amounts_rmul) lk_Amounts_rmul co_Amounts_rmul ke_Amounts_rmul).binds (ps := ["self", "other"]) fun _ _ _ _ _ _ us hl => match us, hl with | [_, _], _ => rfl
    me_Amounts_rmul := ⟨at_Amounts_rmul, fn_Amounts_rmul, ke_Amounts_rmul⟩
    F_Amounts_floordiv := fun_mk (st := s_Amounts_floordiv) lk_Amounts_floordiv co_Amounts_floordiv ke_Amounts_floordiv
    b_Amounts_floordiv := (fun_mk (st := s_Amounts_floordiv) lk_Amounts_floordiv co_Amounts_floordiv ke_Amounts_floordiv).binds (ps := ["self", "other"]) fun _ _ _ _ _ _ us hl => match us, hl with | [_, _], _ => rfl
    me_Amounts_floordiv := ⟨at_Amounts_floordiv, fn_Amounts_floordiv, ke_Amounts_floordiv⟩
    F_Amounts_mod := fun_mk (st := s_Amounts_mod) lk_Amounts_mod co_Amounts_mod ke_Amounts_mod
    b_Amounts_mod := (fun_mk (st := s_Amounts_mod) lk_Amounts_mod co_Amounts_mod ke_Amounts_mod).binds (ps := ["self", "other"]) fun _ _ _ _ _ _ us hl => match us, hl with | [_, _], _ => rfl
    me_Amounts_mod := ⟨at_Amounts_mod, fn_Amounts_mod, ke_Amounts_mod⟩
    F_Amounts_contains := fun_mk (st := s_Amounts_contains) lk_Amounts_contains co_Amounts_contains ke_Amounts_contains
    b_Amounts_contains := (fun_mk (st := s_Amounts_contains) lk_Amounts_contains co_Amounts_contains ke_Amounts_contains).binds (ps := ["self", "x"]) fun _ _ _ _ _ _ us hl => match us, hl with | [_, _], _ => rfl
    me_Amounts_contains := ⟨at_Amounts_contains, fn_Amounts_contains, ke_Amounts_contains⟩
    F_Amounts_eq := fun_mk (st := s_Amounts_eq) lk_Amounts_eq co_Amounts_eq ke_Amounts_eq
    b_Amounts_eq := (fun_mk (st := s_Amounts_eq) lk_Amounts_eq co_Amounts_eq ke_Amounts_eq).binds (ps := ["self", "other"]) fun _ _ _ _ _ _ us hl => match us, hl with | [_, _], _ => rfl
    me_Amounts_eq := ⟨at_Amounts_eq, fn_Amounts_eq, ke_Amounts_eq⟩
    F_Amounts_getitem := fun_mk (st := s_Amounts_getitem) lk_Amounts_getitem co_Amounts_getitem ke_Amounts_getitem
    b_Amounts_getitem := (fun_mk (st := s_Amounts_getitem) lk_Amounts_getitem co_Amounts_getitem ke_Amounts_getitem).binds (ps := ["self", "at"]) fun _ _ _ _ _ _ us hl => match us, hl with | [_, _], _ => rfl
    fn_Amounts_getitem := (by unfold PySem.W.fnIn; rw [lk_Amounts_getitem])
    me_Amounts_getitem := ⟨at_Amounts_getitem, fn_Amounts_getitem, ke_Amounts_getitem⟩
    F_Amounts_len := fun_mk (st := s_Amounts_len) lk_Amounts_len co_Amounts_len ke_Amounts_len
    b_Amounts_len := (fun_mk (st := s_Amounts_len) lk_Amounts_len co_Amounts_len ke_Amounts_len).binds (ps := ["self"]) fun _ _ _ _ _ _ us hl => match us, hl with | [_], _ => rfl
    me_Amounts_len := ⟨at_Amounts_len, fn_Amounts_len, ke_Amounts_len⟩
    F_Amounts_iter := fun_mk (st := s_Amounts_iter) lk_Amounts_iter co_Amounts_iter ke_Amounts_iter
    b_Amounts_iter := (fun_mk (st := s_Amounts_iter) lk_Amounts_iter co_Amounts_iter ke_Amounts_iter).binds (ps := ["self"]) fun _ _ _ _ _ _ us hl => match us, hl with | [_], _ => rfl
    me_Amounts_iter := ⟨at_Amounts_iter, fn_Amounts_iter, ke_Amounts_iter⟩
    F_pool := fun_mk (st := s_pool) lk_pool co_pool ke_pool
    b_pool := (fun_mk (st := s_pool) lk_pool co_pool ke_pool).binds (ps := ["_law_script"]) fun _ _ _ _ _ _ us hl => match us, hl with | [_], _ => rfl
    g_pool := PySem.W.mg_of X G at_pool
    F_draw := fun_mk (st := s_draw) lk_draw co_draw ke_draw
    b_draw := (fun_mk (st := s_draw) lk_draw co_draw ke_draw).binds (ps := ["_law_pool_here", "_law_many"]) fun _ _ _ _ _ _ us hl => match us, hl with | [_, _], _ => rfl
    g_draw := PySem.W.mg_of X G at_draw
    F_number := fun_mk (st := s_number) lk_number co_number ke_number
    b_number := (fun_mk (st := s_number) lk_number co_number ke_number).binds (ps := ["_law_pool_here", "_law_groups"]) fun _ _ _ _ _ _ us hl => match us, hl with | [_, _], _ => rfl
    g_number := PySem.W.mg_of X G at_number
    F_signed := fun_mk (st := s_signed) lk_signed co_signed ke_signed
    b_signed := (fun_mk (st := s_signed) lk_signed co_signed ke_signed).binds (ps := ["_law_pool_here", "_law_groups"]) fun _ _ _ _ _ _ us hl => match us, hl with | [_, _], _ => rfl
    g_signed := PySem.W.mg_of X G at_signed
    F_near := fun_mk (st := s_near) lk_near co_near ke_near
    b_near := (fun_mk (st := s_near) lk_near co_near ke_near).binds (ps := ["_law_pool_here", "_law_number_here"]) fun _ _ _ _ _ _ us hl => match us, hl with | [_, _], _ => rfl
    g_near := PySem.W.mg_of X G at_near
    F_row := fun_mk (st := s_row) lk_row co_row ke_row
    b_row := (fun_mk (st := s_row) lk_row co_row ke_row).binds (ps := ["_law_numbers"]) fun _ _ _ _ _ _ us hl => match us, hl with | [_], _ => rfl
    g_row := PySem.W.mg_of X G at_row
    F_whole := fun_mk (st := s_whole) lk_whole co_whole ke_whole
    b_whole := (fun_mk (st := s_whole) lk_whole co_whole ke_whole).binds (ps := ["_law_value"]) fun _ _ _ _ _ _ us hl => match us, hl with | [_], _ => rfl
    g_whole := PySem.W.mg_of X G at_whole
    F_is := fun_mk (st := s_is) lk_is co_is ke_is
    b_is := (fun_mk (st := s_is) lk_is co_is ke_is).binds (ps := ["_law_row_here", "_law_numbers"]) fun _ _ _ _ _ _ us hl => match us, hl with | [_, _], _ => rfl
    g_is := PySem.W.mg_of X G at_is
    F_within := fun_mk (st := s_within) lk_within co_within ke_within
    b_within := (fun_mk (st := s_within) lk_within co_within ke_within).binds (ps := ["_law_inner", "_law_outer"]) fun _ _ _ _ _ _ us hl => match us, hl with | [_, _], _ => rfl
    g_within := PySem.W.mg_of X G at_within
    F_subject := fun_mk (st := s_subject) lk_subject co_subject ke_subject
    b_subject := (fun_mk (st := s_subject) lk_subject co_subject ke_subject).binds (ps := ["_law_one", "_law_other", "_law_way"]) fun _ _ _ _ _ _ us hl => match us, hl with | [_, _, _], _ => rfl
    g_subject := PySem.W.mg_of X G at_subject
    F_counted := fun_mk (st := s_counted) lk_counted co_counted ke_counted
    b_counted := (fun_mk (st := s_counted) lk_counted co_counted ke_counted).binds (ps := ["_law_numbers", "_law_many"]) fun _ _ _ _ _ _ us hl => match us, hl with | [_, _], _ => rfl
    g_counted := PySem.W.mg_of X G at_counted
    F_pair := fun_mk (st := s_pair) lk_pair co_pair ke_pair
    b_pair := (fun_mk (st := s_pair) lk_pair co_pair ke_pair).binds (ps := ["_law_one", "_law_a", "_law_other", "_law_b", "_law_third", "_law_c"]) fun _ _ _ _ _ _ us hl => match us, hl with | [_, _, _, _, _, _], _ => rfl
    g_pair := PySem.W.mg_of X G at_pair
    F_law := fun_mk (st := s_law) lk_law co_law ke_law
    b_law := (fun_mk (st := s_law) lk_law co_law ke_law).binds (ps := ["_law_script"]) fun _ _ _ _ _ _ us hl => match us, hl with | [_], _ => rfl
    g_law := PySem.W.mg_of X G at_law
    cl_Amounts := ⟨pg_Amounts, hd_Amounts, po_Amounts, sa_Amounts⟩
    mk_Amounts := ⟨mk_Amounts, at_Amounts_init, fn_Amounts_init, kp_Amounts⟩
    sf_Amounts := sf_Amounts
    k1_Amounts := k1_Amounts
    k4_Amounts := k4_Amounts
    no_Amounts_numbers := no_Amounts_numbers
    i_Amounts_add := ⟨⟨_, ir_Amounts_add, iz_Amounts_add⟩, ⟨_, i1_Amounts_add⟩, ⟨_, i2_Amounts_add⟩, is_Amounts_add⟩
    i_Amounts_sub := ⟨⟨_, ir_Amounts_sub, iz_Amounts_sub⟩, ⟨_, i1_Amounts_sub⟩, ⟨_, i2_Amounts_sub⟩, is_Amounts_sub⟩
    i_Amounts_and := ⟨⟨_, ir_Amounts_and, iz_Amounts_and⟩, ⟨_, i1_Amounts_and⟩, ⟨_, i2_Amounts_and⟩, is_Amounts_and⟩
    i_Amounts_or := ⟨⟨_, ir_Amounts_or, iz_Amounts_or⟩, ⟨_, i1_Amounts_or⟩, ⟨_, i2_Amounts_or⟩, is_Amounts_or⟩
    i_Amounts_floordiv := ⟨⟨_, ir_Amounts_floordiv, iz_Amounts_floordiv⟩, ⟨_, i1_Amounts_floordiv⟩, ⟨_, i2_Amounts_floordiv⟩, is_Amounts_floordiv⟩
    i_Amounts_mod := ⟨⟨_, ir_Amounts_mod, iz_Amounts_mod⟩, ⟨_, i1_Amounts_mod⟩, ⟨_, i2_Amounts_mod⟩, is_Amounts_mod⟩
    i_Amounts_mul := ⟨⟨_, ir_Amounts_mul, iz_Amounts_mul⟩, ⟨_, i1_Amounts_mul⟩, ⟨_, i2_Amounts_mul⟩, is_Amounts_mul⟩
    kg := kg
    kt := kt
    x_GangError := ⟨⟨⟨_, _, _, _, _, _, _, _, _, _, _, _, _, _, _, xl_GangError, xr_GangError⟩, xsa_GangError, xex_GangError, xty_GangError, xkp_GangError⟩, xin_GangError, tI_GangError, xno_GangError⟩
    xf_GangError := ⟨xga_GangError, xgg_GangError, xex_GangError, xhd_GangError⟩
    xc_GangError := ⟨xga_GangError, xgg_GangError, xex_GangError, xhd_GangError, xk1_GangError, kg, kt, xk4_GangError⟩
    xm_GangError := PySem.W.exm_ref xex_GangError xhd_GangError xty_GangError xem_GangError
    x_BadAmounts := ⟨⟨⟨_, _, _, _, _, _, _, _, _, _, _, _, _, _, _, xl_BadAmounts, xr_BadAmounts⟩, xsa_BadAmounts, xex_BadAmounts, xty_BadAmounts, xkp_BadAmounts⟩, xin_BadAmounts, tI_GangError, xno_BadAmounts⟩
    xf_BadAmounts := ⟨xga_BadAmounts, xgg_BadAmounts, xex_BadAmounts, xhd_BadAmounts⟩
    xc_BadAmounts := ⟨xga_BadAmounts, xgg_BadAmounts, xex_BadAmounts, xhd_BadAmounts, xk1_BadAmounts, kg, kt, xk4_BadAmounts⟩
    xm_BadAmounts := PySem.W.exm_ref xex_GangError xhd_GangError xty_GangError xem_BadAmounts
    x_BadShare := ⟨⟨⟨_, _, _, _, _, _, _, _, _, _, _, _, _, _, _, xl_BadShare, xr_BadShare⟩, xsa_BadShare, xex_BadShare, xty_BadShare, xkp_BadShare⟩, xin_BadShare, tI_GangError, xno_BadShare⟩
    xf_BadShare := ⟨xga_BadShare, xgg_BadShare, xex_BadShare, xhd_BadShare⟩
    xc_BadShare := ⟨xga_BadShare, xgg_BadShare, xex_BadShare, xhd_BadShare, xk1_BadShare, kg, kt, xk4_BadShare⟩
    xm_BadShare := PySem.W.exm_ref xex_GangError xhd_GangError xty_GangError xem_BadShare
    x_BadSpan := ⟨⟨⟨_, _, _, _, _, _, _, _, _, _, _, _, _, _, _, xl_BadSpan, xr_BadSpan⟩, xsa_BadSpan, xex_BadSpan, xty_BadSpan, xkp_BadSpan⟩, xin_BadSpan, tI_GangError, xno_BadSpan⟩
    xf_BadSpan := ⟨xga_BadSpan, xgg_BadSpan, xex_BadSpan, xhd_BadSpan⟩
    xc_BadSpan := ⟨xga_BadSpan, xgg_BadSpan, xex_BadSpan, xhd_BadSpan, xk1_BadSpan, kg, kt, xk4_BadSpan⟩
    xm_BadSpan := PySem.W.exm_ref xex_GangError xhd_GangError xty_GangError xem_BadSpan
    si_Amounts := si_Amounts
    st_int_Amounts := st_int_Amounts
    kt_int_Amounts := kit_tb hd_Amounts ty_Amounts st_int_Amounts
    kt_BadAmounts_BadAmounts := kit_sub xhd_BadAmounts xty_BadAmounts ss_BadAmounts su_BadAmounts_BadAmounts
    kt_BadAmounts_ValueError := kit_base (by decide +kernel) su_BadAmounts_ValueError
    kt_BadAmounts_BadShare := kit_sub xhd_BadShare xty_BadShare ss_BadShare su_BadAmounts_BadShare
    kt_BadAmounts_BadSpan := kit_sub xhd_BadSpan xty_BadSpan ss_BadSpan su_BadAmounts_BadSpan
  }
  exact ⟨A.d_law, fun s v => .of_eq rfl, fun base _ _ => ok_law (base := base) T⟩
theorem walk {l : PySem.W.OpenLaw} {q : Program} {loose : List Str} {XP : (Str → Option Value) → Heap → Prop} {YP : World → Heap → Prop} {d : DefRec} {K : Params → PySem.W.Frag} (hn : l.most = some 63) (hdf : d.params.defaults = [])
    (hY : ∀ (w : World) (h : Heap), YP w h → (K w.params).In h)
    (F : ∀ (w : World) (mg : Str → Option Value) (fa : Addr) (h : Heap), (K w.params).In h → h.Ns mainGlobals mg → mg d.name = some (.ref fa) →
      ∃ fd : FuncData, (∀ (s : Shared) (u : Value), BindsTo s fd ⟨[u], []⟩ [("_law_script", u)]) ∧ ∀ base : Heap, (K w.params).In base → base.Ns mainGlobals mg → FnOk l.prog w (K w.params) mg base CX0 lawLvl fa fd ["_law_script"] (spLaw (K w.params))) :
    PySem.W.WalkO q loose XP YP l.row.toRowW d [] (fun f vs => PySem.call f vs) :=
  L2.walk_ofB (n := 63) (k := lawLvl) (x := "_law_script") (CX := fun _ => CX0) (sp := fun w => spLaw (K w.params)) hn (by decide) hdf ⟨rfl, by decide, by decide⟩ hY F (fun _ _ a ns hl hb _ hS => ⟨a, ns, rfl, hS, hl, hb, fun _ => rfl⟩) fun _ _ _ _ _ z => z
end LW
open PySem PySem.W PyProof.Rows
set_option maxRecDepth 100000 in
set_option maxHeartbeats 0 in
theorem PySem.Challenge.cw_gangbooks_k04_amounts_within_holds : PySem.Challenge.rw_gangbooks_k04_amounts_within.Holds := by
  w_on; o_law; k_head; (case hw => w_witness2)
  k_fill
  refine LW.walk (l := PySem.Challenge.rw_gangbooks_k04_amounts_within) rfl rfl (fun w h Y => PySem.W.kIn_of Y) ?F
  case F =>
    intro w mg fa h KX G hmg
    refine' LW.all_mk KX G hmg ?nb_ValueError ?nb_abs ?nb_all ?nb_any ?nb_bool ?nb_int ?nb_isinstance ?nb_iter ?nb_len ?nb_list ?nb_max ?nb_min ?nb_range ?nb_tuple ?nb_zip ?ag_Amounts ?ag_GangError ?ag_BadAmounts ?ag_BadShare ?ag_BadSpan ?at_GangError_init ?lk_GangError_init ?co_GangError_init ?ke_GangError_init ?fn_GangError_init ?at_refuse_lengths ?lk_refuse_lengths ?co_refuse_lengths ?ke_refuse_lengths ?at_Amounts_init ?lk_Amounts_init ?co_Amounts_init ?ke_Amounts_init ?fn_Amounts_init ?at_Amounts_bool ?lk_Amounts_bool ?co_Amounts_bool ?ke_Amounts_bool ?fn_Amounts_bool ?at_Amounts_add ?lk_Amounts_add ?co_Amounts_add ?ke_Amounts_add ?fn_Amounts_add ?at_Amounts_sub ?lk_Amounts_sub ?co_Amounts_sub ?ke_Amounts_sub ?fn_Amounts_sub ?at_Amounts_and ?lk_Amounts_and ?co_Amounts_and ?ke_Amounts_and ?fn_Amounts_and ?at_Amounts_or ?lk_Amounts_or ?co_Amounts_or ?ke_Amounts_or ?fn_Amounts_or ?at_Amounts_mul ?lk_Amounts_mul ?co_Amounts_mul ?ke_Amounts_mul ?fn_Amounts_mul ?at_Amounts_rmul ?lk_Amounts_rmul ?co_Amounts_rmul ?ke_Amounts_rmul ?fn_Amounts_rmul ?at_Amounts_floordiv ?lk_Amounts_floordiv ?co_Amounts_floordiv ?ke_Amounts_floordiv ?fn_Amounts_floordiv ?at_Amounts_mod ?lk_Amounts_mod ?co_Amounts_mod ?ke_Amounts_mod ?fn_Amounts_mod ?at_Amounts_contains ?lk_Amounts_contains ?co_Amounts_contains ?ke_Amounts_contains ?fn_Amounts_contains ?at_Amounts_eq ?lk_Amounts_eq ?co_Amounts_eq ?ke_Amounts_eq ?fn_Amounts_eq ?at_Amounts_getitem ?lk_Amounts_getitem ?co_Amounts_getitem ?ke_Amounts_getitem ?fn_Amounts_getitem ?at_Amounts_len ?lk_Amounts_len ?co_Amounts_len ?ke_Amounts_len ?fn_Amounts_len ?at_Amounts_iter ?lk_Amounts_iter ?co_Amounts_iter ?ke_Amounts_iter ?fn_Amounts_iter ?at_pool ?lk_pool ?co_pool ?ke_pool ?at_draw ?lk_draw ?co_draw ?ke_draw ?at_number ?lk_number ?co_number ?ke_number ?at_signed ?lk_signed ?co_signed ?ke_signed ?at_near ?lk_near ?co_near ?ke_near ?at_row ?lk_row ?co_row ?ke_row ?at_whole ?lk_whole ?co_whole ?ke_whole ?at_is ?lk_is ?co_is ?ke_is ?at_within ?lk_within ?co_within ?ke_within ?at_subject ?lk_subject ?co_subject ?ke_subject ?at_counted ?lk_counted ?co_counted ?ke_counted ?at_pair ?lk_pair ?co_pair ?ke_pair ?at_law ?lk_law ?co_law ?ke_law ?pg_Amounts ?hd_Amounts ?po_Amounts ?sa_Amounts ?mk_Amounts ?kp_Amounts ?sf_Amounts ?k1_Amounts ?k4_Amounts ?no_Amounts_numbers ?ir_Amounts_add ?iz_Amounts_add ?i1_Amounts_add ?i2_Amounts_add ?is_Amounts_add ?ir_Amounts_sub ?iz_Amounts_sub ?i1_Amounts_sub ?i2_Amounts_sub ?is_Amounts_sub ?ir_Amounts_and ?iz_Amounts_and ?i1_Amounts_and ?i2_Amounts_and ?is_Amounts_and ?ir_Amounts_or ?iz_Amounts_or ?i1_Amounts_or ?i2_Amounts_or ?is_Amounts_or ?ir_Amounts_floordiv ?iz_Amounts_floordiv ?i1_Amounts_floordiv ?i2_Amounts_floordiv ?is_Amounts_floordiv ?ir_Amounts_mod ?iz_Amounts_mod ?i1_Amounts_mod ?i2_Amounts_mod ?is_Amounts_mod ?ir_Amounts_mul ?iz_Amounts_mul ?i1_Amounts_mul ?i2_Amounts_mul ?is_Amounts_mul ?kg ?kt ?xl_GangError ?xr_GangError ?xsa_GangError ?xex_GangError ?xty_GangError ?xkp_GangError ?xin_GangError ?xno_GangError ?xga_GangError ?xgg_GangError ?xhd_GangError ?xk1_GangError ?xk4_GangError ?xem_GangError ?xl_BadAmounts ?xr_BadAmounts ?xsa_BadAmounts ?xex_BadAmounts ?xty_BadAmounts ?xkp_BadAmounts ?xin_BadAmounts ?xno_BadAmounts ?xga_BadAmounts ?xgg_BadAmounts ?xhd_BadAmounts ?xk1_BadAmounts ?xk4_BadAmounts ?xem_BadAmounts ?xl_BadShare ?xr_BadShare ?xsa_BadShare ?xex_BadShare ?xty_BadShare ?xkp_BadShare ?xin_BadShare ?xno_BadShare ?xga_BadShare ?xgg_BadShare ?xhd_BadShare ?xk1_BadShare ?xk4_BadShare ?xem_BadShare ?xl_BadSpan ?xr_BadSpan ?xsa_BadSpan ?xex_BadSpan ?xty_BadSpan ?xkp_BadSpan ?xin_BadSpan ?xno_BadSpan ?xga_BadSpan ?xgg_BadSpan ?xhd_BadSpan ?xk1_BadSpan ?xk4_BadSpan ?xem_BadSpan ?tI_GangError ?si_Amounts ?ty_Amounts ?st_int_Amounts ?ss_BadAmounts ?su_BadAmounts_BadAmounts ?su_BadAmounts_ValueError ?ss_BadShare ?su_BadAmounts_BadShare ?ss_BadSpan ?su_BadAmounts_BadSpan
    (case nb_ValueError => k_is)
    (case nb_abs => k_is)
    (case nb_all => k_is)
    (case nb_any => k_is)
    (case nb_bool => k_is)
    (case nb_int => k_is)
    (case nb_isinstance => k_is)
    (case nb_iter => k_is)
    (case nb_len => k_is)
    (case nb_list => k_is)
    (case nb_max => k_is)
    (case nb_min => k_is)
    (case nb_range => k_is)
    (case nb_tuple => k_is)
    (case nb_zip => k_is)
    (case ag_Amounts => k_is)
    (case ag_GangError => k_is)
    (case ag_BadAmounts => k_is)
    (case ag_BadShare => k_is)
    (case ag_BadSpan => k_is)
    (case at_GangError_init => k_is)
    (case lk_GangError_init => k_is)
    (case co_GangError_init => k_is)
    (case ke_GangError_init => k_is)
    (case fn_GangError_init => k_is)
    (case at_refuse_lengths => k_is)
    (case lk_refuse_lengths => k_is)
    (case co_refuse_lengths => k_is)
    (case ke_refuse_lengths => k_is)
    (case at_Amounts_init => k_is)
    (case lk_Amounts_init => k_is)
    (case co_Amounts_init => k_is)
    (case ke_Amounts_init => k_is)
    (case fn_Amounts_init => k_is)
    (case at_Amounts_bool => k_is)
    (case lk_Amounts_bool => k_is)
    (case co_Amounts_bool => k_is)
    (case ke_Amounts_bool => k_is)
    (case fn_Amounts_bool => k_is)
    (case at_Amounts_add => k_is)
    (case lk_Amounts_add => k_is)
    (case co_Amounts_add => k_is)
    (case ke_Amounts_add => k_is)
    (case fn_Amounts_add => k_is)
    (case at_Amounts_sub => k_is)
    (case lk_Amounts_sub => k_is)
    (case co_Amounts_sub => k_is)
    (case ke_Amounts_sub => k_is)
    (case fn_Amounts_sub => k_is)
    (case at_Amounts_and => k_is)
    (case lk_Amounts_and => k_is)
    (case co_Amounts_and => k_is)
    (case ke_Amounts_and => k_is)
    (case fn_Amounts_and => k_is)
    (case at_Amounts_or => k_is)
    (case lk_Amounts_or => k_is)
    (case co_Amounts_or => k_is)
    (case ke_Amounts_or => k_is)
    (case fn_Amounts_or => k_is)
    (case at_Amounts_mul => k_is)
    (case lk_Amounts_mul => k_is)
    (case co_Amounts_mul => k_is)
    (case ke_Amounts_mul => k_is)
    (case fn_Amounts_mul => k_is)
    (case at_Amounts_rmul => k_is)
    (case lk_Amounts_rmul => k_is)
    (case co_Amounts_rmul => k_is)
    (case ke_Amounts_rmul => k_is)
    (case fn_Amounts_rmul => k_is)
    (case at_Amounts_floordiv => k_is)
    (case lk_Amounts_floordiv => k_is)
    (case co_Amounts_floordiv => k_is)
    (case ke_Amounts_floordiv => k_is)
    (case fn_Amounts_floordiv => k_is)
    (case at_Amounts_mod => k_is)
    (case lk_Amounts_mod => k_is)
    (case co_Amounts_mod => k_is)
    (case ke_Amounts_mod => k_is)
    (case fn_Amounts_mod => k_is)
    (case at_Amounts_contains => k_is)
    (case lk_Amounts_contains => k_is)
    (case co_Amounts_contains => k_is)
    (case ke_Amounts_contains => k_is)
    (case fn_Amounts_contains => k_is)
    (case at_Amounts_eq => k_is)
    (case lk_Amounts_eq => k_is)
    (case co_Amounts_eq => k_is)
    (case ke_Amounts_eq => k_is)
    (case fn_Amounts_eq => k_is)
    (case at_Amounts_getitem => k_is)
    (case lk_Amounts_getitem => k_is)
    (case co_Amounts_getitem => k_is)
    (case ke_Amounts_getitem => k_is)
    (case fn_Amounts_getitem => k_is)
    (case at_Amounts_len => k_is)
    (case lk_Amounts_len => k_is)
    (case co_Amounts_len => k_is)
    (case ke_Amounts_len => k_is)
    (case fn_Amounts_len => k_is)
    (case at_Amounts_iter => k_is)
    (case lk_Amounts_iter => k_is)
    (case co_Amounts_iter => k_is)
    (case ke_Amounts_iter => k_is)
    (case fn_Amounts_iter => k_is)
    (case at_pool => k_is)
    (case lk_pool => k_is)
    (case co_pool => k_is)
    (case ke_pool => k_is)
    (case at_draw => k_is)
    (case lk_draw => k_is)
    (case co_draw => k_is)
    (case ke_draw => k_is)
    (case at_number => k_is)
    (case lk_number => k_is)
    (case co_number => k_is)
    (case ke_number => k_is)
    (case at_signed => k_is)
    (case lk_signed => k_is)
    (case co_signed => k_is)
    (case ke_signed => k_is)
    (case at_near => k_is)
    (case lk_near => k_is)
    (case co_near => k_is)
    (case ke_near => k_is)
    (case at_row => k_is)
    (case lk_row => k_is)
    (case co_row => k_is)
    (case ke_row => k_is)
    (case at_whole => k_is)
    (case lk_whole => k_is)
    (case co_whole => k_is)
    (case ke_whole => k_is)
    (case at_is => k_is)
    (case lk_is => k_is)
    (case co_is => k_is)
    (case ke_is => k_is)
    (case at_within => k_is)
    (case lk_within => k_is)
    (case co_within => k_is)
    (case ke_within => k_is)
    (case at_subject => k_is)
    (case lk_subject => k_is)
    (case co_subject => k_is)
    (case ke_subject => k_is)
    (case at_counted => k_is)
    (case lk_counted => k_is)
    (case co_counted => k_is)
    (case ke_counted => k_is)
    (case at_pair => k_is)
    (case lk_pair => k_is)
    (case co_pair => k_is)
    (case ke_pair => k_is)
    (case at_law => k_is)
    (case lk_law => k_is)
    (case co_law => k_is)
    (case ke_law => k_is)
    (case pg_Amounts => k_is)
    (case hd_Amounts => k_is)
    (case po_Amounts => k_is)
    (case sa_Amounts => k_is)
    (case mk_Amounts => k_is)
    (case kp_Amounts => k_is)
    (case sf_Amounts => k_is)
    (case k1_Amounts => k_is)
    (case k4_Amounts => k_is)
    (case no_Amounts_numbers => k_is)
    (case ir_Amounts_add => k_is)
    (case iz_Amounts_add => first | exact .inl rfl | exact .inr ⟨_, rfl⟩)
    (case i1_Amounts_add => k_is)
    (case i2_Amounts_add => k_is)
    (case is_Amounts_add => k_is)
    (case ir_Amounts_sub => k_is)
    (case iz_Amounts_sub => first | exact .inl rfl | exact .inr ⟨_, rfl⟩)
    (case i1_Amounts_sub => k_is)
    (case i2_Amounts_sub => k_is)
    (case is_Amounts_sub => k_is)
    (case ir_Amounts_and => k_is)
    (case iz_Amounts_and => first | exact .inl rfl | exact .inr ⟨_, rfl⟩)
    (case i1_Amounts_and => k_is)
    (case i2_Amounts_and => k_is)
    (case is_Amounts_and => k_is)
    (case ir_Amounts_or => k_is)
    (case iz_Amounts_or => first | exact .inl rfl | exact .inr ⟨_, rfl⟩)
    (case i1_Amounts_or => k_is)
    (case i2_Amounts_or => k_is)
    (case is_Amounts_or => k_is)
    (case ir_Amounts_floordiv => k_is)
    (case iz_Amounts_floordiv => first | exact .inl rfl | exact .inr ⟨_, rfl⟩)
    (case i1_Amounts_floordiv => k_is)
    (case i2_Amounts_floordiv => k_is)
    (case is_Amounts_floordiv => k_is)
    (case ir_Amounts_mod => k_is)
    (case iz_Amounts_mod => first | exact .inl rfl | exact .inr ⟨_, rfl⟩)
    (case i1_Amounts_mod => k_is)
    (case i2_Amounts_mod => k_is)
    (case is_Amounts_mod => k_is)
    (case ir_Amounts_mul => k_is)
    (case iz_Amounts_mul => first | exact .inl rfl | exact .inr ⟨_, rfl⟩)
    (case i1_Amounts_mul => k_is)
    (case i2_Amounts_mul => k_is)
    (case is_Amounts_mul => k_is)
    (case kg => k_is)
    (case kt => k_is)
    (case xl_GangError => k_is)
    (case xr_GangError => first | rfl | decide +kernel)
    (case xsa_GangError => k_is)
    (case xex_GangError => k_is)
    (case xty_GangError => k_is)
    (case xkp_GangError => k_is)
    (case xin_GangError => k_is)
    (case xno_GangError => k_is)
    (case xga_GangError => k_is)
    (case xgg_GangError => k_is)
    (case xhd_GangError => k_is)
    (case xk1_GangError => k_is)
    (case xk4_GangError => k_is)
    (case xem_GangError => first | rfl | k_is)
    (case xl_BadAmounts => k_is)
    (case xr_BadAmounts => first | rfl | decide +kernel)
    (case xsa_BadAmounts => k_is)
    (case xex_BadAmounts => k_is)
    (case xty_BadAmounts => k_is)
    (case xkp_BadAmounts => k_is)
    (case xin_BadAmounts => k_is)
    (case xno_BadAmounts => k_is)
    (case xga_BadAmounts => k_is)
    (case xgg_BadAmounts => k_is)
    (case xhd_BadAmounts => k_is)
    (case xk1_BadAmounts => k_is)
    (case xk4_BadAmounts => k_is)
    (case xem_BadAmounts => first | rfl | k_is)
    (case xl_BadShare => k_is)
    (case xr_BadShare => first | rfl | decide +kernel)
    (case xsa_BadShare => k_is)
    (case xex_BadShare => k_is)
    (case xty_BadShare => k_is)
    (case xkp_BadShare => k_is)
    (case xin_BadShare => k_is)
    (case xno_BadShare => k_is)
    (case xga_BadShare => k_is)
    (case xgg_BadShare => k_is)
    (case xhd_BadShare => k_is)
    (case xk1_BadShare => k_is)
    (case xk4_BadShare => k_is)
    (case xem_BadShare => first | rfl | k_is)
    (case xl_BadSpan => k_is)
    (case xr_BadSpan => first | rfl | decide +kernel)
    (case xsa_BadSpan => k_is)
    (case xex_BadSpan => k_is)
    (case xty_BadSpan => k_is)
    (case xkp_BadSpan => k_is)
    (case xin_BadSpan => k_is)
    (case xno_BadSpan => k_is)
    (case xga_BadSpan => k_is)
    (case xgg_BadSpan => k_is)
    (case xhd_BadSpan => k_is)
    (case xk1_BadSpan => k_is)
    (case xk4_BadSpan => k_is)
    (case xem_BadSpan => first | rfl | k_is)
    (case tI_GangError => k_is)
    (case si_Amounts => k_is)
    (case ty_Amounts => k_is)
    (case st_int_Amounts => k_is)
    (case ss_BadAmounts => first | rfl | k_is)
    (case su_BadAmounts_BadAmounts => first | rfl | k_is)
    (case su_BadAmounts_ValueError => first | rfl | k_is)
    (case ss_BadShare => first | rfl | k_is)
    (case su_BadAmounts_BadShare => first | rfl | k_is)
    (case ss_BadSpan => first | rfl | k_is)
    (case su_BadAmounts_BadSpan => first | rfl | k_is)
