import PyProof.Rows.All
import Wide.All
import OpenK.AllK
import Wide.FinOn
import PyProof.EqAt
import PyProof.EqKinds
import PyProof.TupleCall
import HandS.Base
import HandS.Call
import HandS.List
import HandS.Exc
import HandS.IsInst
import HandS.ExcOwn
import HandS.ExcInit
import HandS.ExcField
import HandS.ExcIs
import HandS.TryOnly
import HandS.CallSlots
import HandS.Words
import HandS.WordsExc
import KE.KExcIs
import HandS.Sort
import HandS.Comp
import HandS.Conv
import HandS.EndBits
import PySem.Challenge.RW_gangbooks_k06_spans_by_hours
set_option Elab.async false
set_option linter.all false
set_option maxRecDepth 100000
set_option maxHeartbeats 4000000
/-! own operators over the layer -/
namespace L2
open PySem PySem.Spec PyProof.Rows
theorem cmpBack_of {Q : Value → Shared → Prop} {v : V} {u : Value} {s : Shared} (r : RelV v u) (q : Q u s) : PySem.W.CmpBack Q u s := by
  cases v with
  | non => cases (show u = Value.none from r); exact q
  | bl b => cases (show u = Value.bool b from r); exact q
  | int i => obtain ⟨t, e⟩ := (show ∃ t, u = Value.int i t from r); cases e; exact q
  | str x => obtain ⟨t, e⟩ := (show ∃ t, u = Value.str x t from r); cases e; exact q
  | byt x => obtain ⟨t, e⟩ := (show ∃ t, u = Value.bytes x t from r); cases e; exact q
  | flt x => obtain ⟨t, e⟩ := (show ∃ t, u = Value.float x t from r); cases e; exact q
  | ref a => cases (show u = Value.ref a from r); exact q
  | ty n => cases (show u = Value.type n from r); exact q
section
variable {X : Cx} {pins : List (Addr × Obj)} {σ : St} {H : Hp} {s : Shared} {a C dx : Addr} {fs : List (Str × V)}
theorem Inv.instAt (I : Inv X pins σ H s) (e : H a = some (.ins C dx fs)) : ∃ od, PySem.W.InstAt s.heap a (PySem.W.instObj C dx) C (some od) := by
  obtain ⟨mA, J, _⟩ := ins_get I.hok e
  obtain ⟨od, h, _⟩ := J.look
  exact ⟨od, h⟩
end
section
variable {X : Cx} {CX : CXT} {k : Nat} {f C : Addr} {fd : FuncData} {ps : List Str} {sp : Sp} {dvs : List V} {ds : List Value} {E : XK}
/-- the callee runs, within some units of the C stack -/
theorem run_fnA {A : Around} {pins : List (Addr × Obj)} {σ : St} {H : Hp} {s : Shared} {Q : VK} {us : List Value} {vs : List V} (hfA : A.frames = X.A.frames) (F : FnOk X.prog X.w X.K X.mg X.base CX k f fd ps sp) (hr : Room k A) (hb : Binds X.K fd ps ds) (hd : Vals dvs ds) (hx : Passes CX X E)
    (I : Inv X pins σ H s) (r : Vals vs us) (h : sp (vs ++ dvs) H Q E) : wpAny (model X.prog X.w) A (call (.ref f) us) (EP X pins σ Q) X.xe s := by
  have r2 : Vals (vs ++ dvs) (us ++ ds) := r.append hd
  have hl : (us ++ ds).length = ps.length := by rw [← r2.length]; exact F.len _ _ _ _ h
  have e0 := I.env0
  have e1 : Env0 X.prog X.w X.K X.mg X.base A X.stack s H := ⟨hfA.trans e0.frames, e0.mod, e0.bs, e0.bsz, e0.funs, e0.frf, e0.hok, e0.bare⟩
  refine wpAny_call (codeAny_mono (F.run A X.stack s H ⟨us, []⟩ (us ++ ds) (vs ++ dvs) Q E hr e1 (hb s us I.kIn hl) r2 h) fun r s' hq => ?_)
  cases r with
  | error e => exact hx pins σ H s e s' I hq
  | ok fl =>
    cases fl with
    | ret u => exact I.after hq
    | next => exact False.elim hq
    | brk => exact False.elim hq
    | cont => exact False.elim hq
/-- x op y, both of the class at C -/
def rOwn (C : Addr) (sp : Sp) (E : XK) : R2 := fun x y H Q => ∃ a dx fs b dy gs, x = .ref a ∧ H a = some (.ins C dx fs) ∧ y = .ref b ∧ H b = some (.ins C dy gs) ∧ sp [x, y] H Q E
theorem op_own {op : Operator} (hm : Meth X.K C (PySem.dunder op.info.2) f) (hc : PySem.W.selfFirst X.K C = true) (F : FnOk X.prog X.w X.K X.mg X.base CX k f fd ps sp) (hr : Room k X.A) (hb : Binds X.K fd ps []) (hx : Passes CX X E) :
    OpR X (binaryOp op) (rOwn C sp E) := by
  intro pins s σ H x y v u Q I rx ry h
  obtain ⟨a, dx, fs, b, dy, gs, rfl, ea, rfl, eb, h⟩ := h
  obtain rfl : v = Value.ref a := rx
  obtain rfl : u = Value.ref b := ry
  obtain ⟨od, J⟩ := I.instAt ea
  obtain ⟨od', J'⟩ := I.instAt eb
  obtain ⟨m, fr⟩ := I.fr
  refine PySem.W.binop_K fr I.ok.mod.kin J J'.type hc hm.at_ hm.fn (thn (run_fnA (us := [.ref a, .ref b]) (vs := [.ref a, .ref b]) (dvs := []) rfl F hr hb .nil hx I (.cons rfl (.cons rfl .nil)) h) fun w s' q => ?_)
  obtain ⟨v', H', I', rv, q⟩ := q
  exact cmpBack_of rv ⟨v', H', I', rv, q⟩
/-- x op i, an int on the right -/
def rOwnI (C : Addr) (sp : Sp) (E : XK) : R2 := fun x y H Q => ∃ a dx fs i, x = .ref a ∧ H a = some (.ins C dx fs) ∧ y = .int i ∧ sp [x, y] H Q E
structure OwnI (K : PySem.W.Frag) (C : Addr) (op : Operator) : Prop where
  r : ∃ rc, PySem.W.findIn K (.ref C) (dunderR op.info.2) = some rc ∧ (rc = none ∨ ∃ g : Addr, rc = some (.ref g))
  i1 : ∃ fo, PySem.W.findIn K (.type "int") (PySem.dunder op.info.2) = some fo
  i2 : ∃ ro, PySem.W.findIn K (.type "int") (dunderR op.info.2) = some ro
  sub : PySem.W.subIn K (.type "int") (.ref C) = some false
theorem op_ownI {op : Operator} (hm : Meth X.K C (PySem.dunder op.info.2) f) (hc : PySem.W.selfFirst X.K C = true) (hi : OwnI X.K C op) (F : FnOk X.prog X.w X.K X.mg X.base CX k f fd ps sp) (hr : Room k X.A) (hb : Binds X.K fd ps []) (hx : Passes CX X E) :
    OpR X (binaryOp op) (rOwnI C sp E) := by
  intro pins s σ H x y v u Q I rx ry h
  obtain ⟨a, dx, fs, i, rfl, ea, rfl, h⟩ := h
  obtain rfl : v = Value.ref a := rx
  obtain ⟨t, rfl⟩ := (show ∃ t, u = Value.int i t from ry)
  obtain ⟨od, J⟩ := I.instAt ea
  obtain ⟨m, fr⟩ := I.fr
  obtain ⟨⟨rc, h1, h2⟩, ⟨fo, h3⟩, ⟨ro, h4⟩, h5⟩ := hi
  refine PySem.W.ksp_binT (T := "int") fr I.ok.mod.kin J rfl hc hm.at_ hm.fn h1 h2 h3 h4 h5 (thn (run_fnA (us := [.ref a, .int i t]) (vs := [.ref a, .int i]) (dvs := []) rfl F hr hb .nil hx I (.cons rfl (.cons ⟨t, rfl⟩ .nil)) h) fun w s' q => ?_)
  obtain ⟨v', H', I', rv, q⟩ := q
  exact cmpBack_of rv ⟨v', H', I', rv, q⟩
/-- -x -/
def rOwn1 (C : Addr) (sp : Sp) (E : XK) : V → Hp → VK → Prop := fun x H Q => ∃ a dx fs, x = .ref a ∧ H a = some (.ins C dx fs) ∧ sp [x] H Q E
theorem un_own (hm : Meth X.K C "__neg__" f) (F : FnOk X.prog X.w X.K X.mg X.base CX k f fd ps sp) (hr : Room k X.A) (hb : Binds X.K fd ps []) (hx : Passes CX X E) :
    UnR X (unaryOp .USub) (rOwn1 C sp E) := by
  intro pins s σ H x v Q I rx h
  obtain ⟨a, dx, fs, rfl, ea, h⟩ := h
  obtain rfl : v = Value.ref a := rx
  obtain ⟨od, J⟩ := I.instAt ea
  obtain ⟨m, fr⟩ := I.fr
  exact PySem.W.ksp_neg fr I.ok.mod.kin J hm.at_ hm.fn (run_fnA (us := [.ref a]) (vs := [.ref a]) (dvs := []) rfl F hr hb .nil hx I (.cons rfl .nil) h)
/-- truth by an own __bool__ -/
def rOwnT (C : Addr) (sp : Sp) (E : XK) : V → Hp → (Bool → Hp → Prop) → Prop := fun x H Q => ∃ a dx fs, x = .ref a ∧ H a = some (.ins C dx fs) ∧ sp [x] H (fun v H' => ∃ b, v = .bl b ∧ Q b H') E
theorem tru_ownA {A : Around} (hfA : A.frames = X.A.frames) (hm : Meth X.K C "__bool__" f) (F : FnOk X.prog X.w X.K X.mg X.base CX k f fd ps sp) (hr : Room k A) (hb : Binds X.K fd ps []) (hx : Passes CX X E) {pins : List (Addr × Obj)} {s : Shared} {σ : St} {H : Hp} {x : V} {v : Value} {Q : Bool → Hp → Prop}
    (I : Inv X pins σ H s) (rx : RelV x v) (h : rOwnT C sp E x H Q) : wpAny (model X.prog X.w) A (truthy v) (TP X pins σ Q) X.xe s := by
  obtain ⟨a, dx, fs, rfl, ea, h⟩ := h
  obtain rfl : v = Value.ref a := rx
  obtain ⟨od, J⟩ := I.instAt ea
  obtain ⟨m, fr⟩ := I.fr
  refine PySem.W.truthy_K fr I.ok.mod.kin J hm.at_ hm.fn (thn (run_fnA (us := [.ref a]) (vs := [.ref a]) (dvs := []) hfA F hr hb .nil hx I (.cons rfl .nil) h) fun w s' q => ?_)
  obtain ⟨v', H', I', rv, b, rfl, q⟩ := q
  obtain rfl : w = Value.bool b := rv
  exact ⟨H', I', q⟩
theorem tru_own (hm : Meth X.K C "__bool__" f) (F : FnOk X.prog X.w X.K X.mg X.base CX k f fd ps sp) (hr : Room k X.A) (hb : Binds X.K fd ps []) (hx : Passes CX X E) : TruR X (rOwnT C sp E) :=
  fun _ _ _ _ _ _ _ I rx h => tru_ownA rfl hm F hr hb hx I rx h
/-- v in x, by an own __contains__ that hands back a bool -/
def rOwnIn (C : Addr) (sp : Sp) (E : XK) : R2 := fun y x H Q => ∃ a dx fs, x = .ref a ∧ H a = some (.ins C dx fs) ∧ sp [x, y] H (fun v H' => ∃ b, v = .bl b ∧ Q (.bl b) H') E
theorem op_inOwn (hm : Meth X.K C "__contains__" f) (F : FnOk X.prog X.w X.K X.mg X.base CX k f fd ps sp) (hr : Room k X.A) (hb : Binds X.K fd ps []) (hx : Passes CX X E) : OpR X (compareOp .In) (rOwnIn C sp E) := by
  intro pins s σ H y x v u Q I ry rx h
  obtain ⟨a, dx, fs, rfl, ea, h⟩ := h
  obtain rfl : u = Value.ref a := rx
  obtain ⟨od, J⟩ := I.instAt ea
  obtain ⟨m, fr⟩ := I.fr
  refine PySem.W.in_K fr I.ok.mod.kin J hm.at_ hm.fn (thn (run_fnA (us := [.ref a, v]) (vs := [.ref a, y]) (dvs := []) rfl F hr hb .nil hx I (.cons rfl (.cons ry .nil)) h) fun w s' q => ?_)
  obtain ⟨v', H', I', rv, b, rfl, q⟩ := q
  obtain rfl : w = Value.bool b := rv
  exact wpAny_truthy_bool ⟨.bl b, H', I', rfl, q⟩
/-- len(x) by an own __len__ -/
def rOwnLen (C : Addr) (sp : Sp) (E : XK) : List V → Hp → VK → Prop := fun xs H Q => ∃ a dx fs, xs = [.ref a] ∧ H a = some (.ins C dx fs) ∧ sp [.ref a] H (fun v H' => ∃ n : Int, v = .int n ∧ 0 ≤ n ∧ n < 2 ^ 63 ∧ Q (.int n) H') E
theorem call_lenOwn (hm : Meth X.K C "__len__" f) (F : FnOk X.prog X.w X.K X.mg X.base CX k f fd ps sp) (hr : Room (k + 1) X.A) (hb : Binds X.K fd ps []) (hx : Passes CX X E) : CallR X (.builtin "len") (rOwnLen C sp E) := by
  intro pins s σ H xs us Q I r h
  obtain ⟨a, dx, fs, rfl, ea, h⟩ := h
  obtain ⟨u, rfl, ru⟩ := vals1 r
  obtain rfl : u = Value.ref a := ru
  obtain ⟨od, J⟩ := I.instAt ea
  obtain ⟨m, fr⟩ := I.fr
  refine PySem.W.len_K fr I.ok.mod.kin J hm.at_ hm.fn (thn (run_fnA (A := X.A.in1) (us := [.ref a]) (vs := [.ref a]) (dvs := []) rfl F hr.in1 hb .nil hx I (.cons rfl .nil) h) fun w s' q => ?_)
  obtain ⟨v', H', I', rv, n, rfl, h0, h1, q⟩ := q
  obtain ⟨t, rfl⟩ := (show ∃ t, w = Value.int n t from rv)
  exact ⟨⟨h0, h1⟩, .int n, H', I'.tok _, ⟨_, rfl⟩, q⟩
end
end L2

namespace L2
open PySem PySem.Spec PyProof.Rows
section
variable {X : Cx} {CX : CXT} {k : Nat} {f C : Addr} {fd : FuncData} {ps : List Str} {sp : Sp} {E : XK}
theorem meets_bool_any {prog : Program} {w : World} (x : Value) : MeetsIn prog w (Builtin.«bool.__new__» ⟨[.type "bool", x], []⟩) (fun A R s => wpAny (model prog w) A.in1 (truthy x) (fun b s' => R (.ok (.ret (.bool b))) s') (fun e s' => R (.error e) s') s) :=
  MeetsIn.of_wp fun A R s hs => by
    have f1 := F.conv_sub_bool
    obtain ⟨hp, g, d, tk, os⟩ := s
    repeat (any_goals (first | assumption | (with_reducible refine wpAny_bind (wpAny_mono hs (fun b s' q => ?_) fun _ _ z => z)) | (with_reducible refine wpAny_mono hs (fun b s' q => ?_) fun _ _ z => z) | wp_step))
    all_goals first | exact ⟨_, rfl, q⟩ | exact q | skip
/-- bool(x), by an own __bool__ -/
def rBoolOwn (C : Addr) (sp : Sp) (E : XK) : List V → Hp → VK → Prop := fun xs H Q => ∃ x, xs = [x] ∧ rOwnT C sp E x H fun b H' => Q (.bl b) H'
theorem call_boolOwn (hm : Meth X.K C "__bool__" f) (Fk : FnOk X.prog X.w X.K X.mg X.base CX k f fd ps sp) (hr : Room (k + 2) X.A) (hb : Binds X.K fd ps []) (hx : Passes CX X E) : CallR X (.type "bool") (rBoolOwn C sp E) := by
  intro pins s σ H xs us Q I r h
  obtain ⟨x, rfl, h⟩ := h
  obtain ⟨u, rfl, ru⟩ := vals1 r
  refine callType_newIn PySem.F.called_bool PySem.F.newNe_bool (PySem.F.typeCall_bool_1 u) (PySem.F.newCall_bool_1 u) (fun obj => PySem.F.args_object_init_2 obj u) PySem.F.entry_bool_new (meets_bool_any u) ?_
  refine thn (tru_ownA (A := X.A.in1.in1) rfl hm Fk hr.in1.in1 hb hx I ru h) fun b s' ⟨H', I', q⟩ => ?_
  exact ⟨rfl, .bl b, H', I', rfl, q⟩
end
end L2
namespace L2
open PySem PySem.Spec PyProof.Rows
section
variable {X : Cx} {CX : CXT} {k : Nat} {f C : Addr} {fd : FuncData} {ps : List Str} {sp : Sp} {E : XK}
/-- x == y by an own __eq__, y of the class or of a kind that is no subclass of it -/
def rEqOwn (K : PySem.W.Frag) (C : Addr) (sp : Sp) (E : XK) : R2 := fun x y H Q => ∃ a dx fs t, x = .ref a ∧ H a = some (.ins C dx fs) ∧ TyX K H y t ∧ PySem.W.notFirst K C t = true ∧ sp [x, y] H Q E
theorem op_eqOwn (hm : Meth X.K C "__eq__" f) (F : FnOk X.prog X.w X.K X.mg X.base CX k f fd ps sp) (hr : Room k X.A) (hb : Binds X.K fd ps []) (hx : Passes CX X E) : OpR X (compareOp .Eq) (rEqOwn X.K C sp E) := by
  intro pins s σ H x y v u Q I rx ry h
  obtain ⟨a, dx, fs, t, rfl, ea, ty, hn, h⟩ := h
  obtain rfl : v = Value.ref a := rx
  obtain ⟨od, J⟩ := I.instAt ea
  obtain ⟨m, fr⟩ := I.fr
  obtain ⟨P, Z, p, _⟩ := kit_of I ry ty
  have hb' := Z.ty (model X.prog X.w) _ I.kIn p
  show wpAny _ _ (richCompare .Eq (.ref a) u) _ _ _
  refine PySem.W.cmp_K (op := .Eq) hr.units0 fr I.ok.mod.kin J hb' hn hm.at_ hm.fn (thn (run_fnA (us := [.ref a, u]) (vs := [.ref a, y]) (dvs := []) rfl F hr hb .nil hx I (.cons rfl (.cons ry .nil)) h) fun w s' q => ?_)
  obtain ⟨v', H', I', rv, q⟩ := q
  exact cmpBack_of rv ⟨v', H', I', rv, q⟩
end
end L2
namespace PySem.W
open PySem PySem.Spec PySem.Calls PyProof.Rows
section
variable {prog : Program} {w : World} {A : Around} {E : Value → Shared → Prop} {s : Shared} {K : Frag} {x D : Addr} {ox : Obj}
theorem gb_kitx_exc {od : Option Obj} (hga : findIn K (.ref D) "__getattribute__" = some (some (.builtin "BaseException.__getattribute__"))) (hgt : findIn K (.ref D) "__getattr__" = some none) (hsub : subIn K (.ref D) (.type "BaseException") = some true) (hdct : hasDictIn K D = true) (ha : findIn K (.ref D) "__class__" = some (some (.builtin "object.__class__")))
    (hn : specialIn K (.builtin "object.__class__") "__get__" = some (some (.builtin "getset_descriptor.__get__"))) (htk : takesIn K (.builtin "object.__class__") = some true) (hm : mroIn K D (.type "object") = some true) :
    KitX K (.ref x) (.ref D) (fun h => InstAt h x ox D od) where
  ty := fun _ _ _ I => I.type
  it := fun _ _ X _ => by
    obtain ⟨cdD, hcD, _⟩ := any_some hdct
    unfold clsIn at hcD
    split at hcD
    · rename_i c' d' cd' sl' ho
      intro A' Q' E' s' k q
      unfold isType loadHead
      exact wpAny_bind (wpAny_loadPart (k _ _ (X _ _ ho)) (wpAny_pure q))
    · cases hcD
  ne := fun h tp dd its n sl X htp => by
    obtain ⟨cdD, hcD, _⟩ := any_some hdct
    refine Bool.eq_false_iff.mpr fun q => ?_
    have e : D = tp := Value.ref.inj (beq_iff_eq.mp q)
    subst e
    unfold clsIn at hcD
    split at hcD
    · rename_i c' d' cd' sl' ho
      have z := (X _ _ ho).symm.trans htp
      cases z
    · cases hcD
  ca := fun X I k => kx_classE X I hga hgt hsub (findObj_dataE (by obtain ⟨cd, hc, _⟩ := any_some hdct; rw [hc]; rfl) ha hn htk) hm k
end
end PySem.W
namespace L2
open PySem PySem.Spec PyProof.Rows
/-- isinstance(e, c), e the exception that the suite holds, with its own dict -/
def rIsX (K : PySem.W.Frag) (a : Addr) (cls : Value) (d : Option Addr) : List V → Hp → VK → Prop := fun xs H Q => ∃ (c : V) (cv : Value) (b : Bool) (D dd : Addr) (fs : List (Str × V)), xs = [.ref a, c] ∧ (∀ u, RelV c u → u = cv) ∧ cls = .ref D ∧ ExcC K D ∧ d = some dd ∧ H dd = some (.xd fs) ∧ PySem.W.kitOne K (.ref D) cv = some b ∧ Q (.bl b) H
theorem instX {X : Cx} {pins : List (Addr × Obj)} {σ : St} {H : Hp} {s : Shared} {a D dd : Addr} {oe : Obj} {pn : List (Addr × Obj)} {fs : List (Str × V)} (I : Inv (X.suite a ((a, oe) :: pn)) pins σ H s) (hz : Zc (.ref D) (some dd) oe) (hf : ∃ vs, oe.data = .fields vs) (he : H dd = some (.xd fs)) : ∃ od, PySem.W.InstAt s.heap a oe D (some od) := by
  obtain ⟨hget, _⟩ := I.pin (a, oe) (List.mem_append.mpr (.inl List.mem_cons_self))
  obtain ⟨vs, hv⟩ := hf
  obtain ⟨mA, ⟨od, es, ep, e1, e2, e3⟩, r⟩ := (show ObjOk X.prog X.w H s.heap dd (.xd fs) from I.hok dd _ he)
  exact ⟨od, hget, hz.1, by unfold PySem.W.notCls; rw [hv] <;> rfl, by rw [hz.2]; exact e1⟩
theorem call_isX {X : Cx} {a : Addr} {cls : Value} {d : Option Addr} {oe : Obj} {pn : List (Addr × Obj)} (hz : Zc cls d oe) (hf : ∃ vs, oe.data = .fields vs) : CallR (X.suite a ((a, oe) :: pn)) (.builtin "isinstance") (rIsX X.K a cls d) := by
  intro pins s σ H xs us Q I r h
  obtain ⟨c, cv, b, D, dd, fs, rfl, hcv, rfl, C, rfl, hd, e, q⟩ := h
  obtain ⟨u1, u2, rfl, rx, rt⟩ := vals2 r
  cases rx
  have ec := hcv _ rt
  subst ec
  obtain ⟨od, J⟩ := instX I hz hf hd
  exact PySem.W.kia_one (PySem.W.gb_kitx_exc C.hg C.hk C.hs C.hd C.ha C.hn C.ht C.hm) I.kIn J e (fun z => nomatch z) fun tk => ⟨.bl b, H, I.kept (t' := tk) fun _ _ z => z, rfl, q⟩
/-- isinstance(e, (c1, c2, ..)) -/
def rIsXT (K : PySem.W.Frag) (a : Addr) (cls : Value) (d : Option Addr) : List V → Hp → VK → Prop := fun xs H Q => ∃ (tp : Addr) (cs : List V) (us : List Value) (b : Bool) (D dd : Addr) (fs : List (Str × V)), xs = [.ref a, .ref tp] ∧ H tp = some (.tup cs) ∧ Paired ClsV cs us ∧ cls = .ref D ∧ ExcC K D ∧ d = some dd ∧ H dd = some (.xd fs) ∧ PySem.W.kitAny K (.ref D) us = some b ∧ Q (.bl b) H
theorem call_isXT {X : Cx} {a : Addr} {cls : Value} {d : Option Addr} {oe : Obj} {pn : List (Addr × Obj)} (hz : Zc cls d oe) (hf : ∃ vs, oe.data = .fields vs) : CallR (X.suite a ((a, oe) :: pn)) (.builtin "isinstance") (rIsXT X.K a cls d) := by
  intro pins s σ H xs us Q I r h
  obtain ⟨tp, cs, ws, b, D, dd, fs, rfl, hT, k, rfl, C, rfl, hd, e, q⟩ := h
  obtain ⟨u1, u2, rfl, rx, rt⟩ := vals2 r
  cases rx
  cases (show u2 = Value.ref tp from rt)
  obtain ⟨od, J⟩ := instX I hz hf hd
  obtain ⟨_, its, rv, o, h1, h2, n, h3⟩ := (show ObjOk X.prog X.w H s.heap tp (.tup cs) from I.hok tp _ hT)
  have e3 := ClsV.all k rv
  subst e3
  obtain ⟨oc, od, dt, sl⟩ := o
  simp only at h2 h3
  subst h2 h3
  exact PySem.W.kia_tup (PySem.W.gb_kitx_exc C.hg C.hk C.hs C.hd C.ha C.hn C.ht C.hm) I.kIn J h1 e (fun z => nomatch z) fun tk => ⟨.bl b, H, I.kept (t' := tk) fun _ _ z => z, rfl, q⟩
theorem exc_heap {H : Hp} {a d : Addr} {o1 o2 o3 u : HO} (h : H a = none) : upd (del (upd (upd (upd H a o1) d o2) a o3) a) d u = upd H d u := by
  funext b
  by_cases hd : b = d
  · subst hd; rw [upd_same, upd_same]
  · rw [upd_ne hd, upd_ne hd]
    by_cases ha : b = a
    · subst ha; rw [del_same, h]
    · rw [del_ne ha, upd_ne ha, upd_ne hd, upd_ne ha]
/-- what the classes of errors are, over one base with __init__(self, subject) -/
structure GExc (K : PySem.W.Frag) (C fI : Addr) : Prop where
  oex : OexC K C
  iC : PySem.W.findIn K (.ref C) "__init__" = some (some (.ref fI))
  tI : PySem.W.typeIn K (.ref fI) = some (.type "function")
  noS : PySem.W.findIn K (.ref C) "subject" = some none
/-- __init__(self, subject): self.subject = subject -/
def spGI (K : PySem.W.Frag) : Sp := fun vs H Q _ => ∃ (a C : Addr) (v : V), vs = [.ref a, v] ∧ OexC K C ∧ PySem.W.findIn K (.ref C) "subject" = some none ∧ H a = some (exo a C none) ∧
  ∀ dx, H dx = none → dx ≠ a → Q .non (upd (upd H dx (exd dx [(("subject" : Str), v)])) a (exo a C (some dx)))
/-- raise X(e): what it wants of e's value and the heap behind it -/
def RaiseG (K : PySem.W.Frag) (C : Addr) (W : WX) (σ : St) (v : V) (H1 : Hp) : Prop := ([v] : List V).length ≤ 1000 ∧ ∀ a, H1 a = none → spGI K (.ref a :: ([v] ++ [])) (upd H1 a (exo a C none))
  (fun v' H2 => v' = .non ∧ ∃ (d : Addr) (fs : List (Str × V)), H2 a = some (exo a C (some d)) ∧ H2 d = some (exd d fs) ∧ H1 d = none ∧ W (.ref C) (some d) σ (upd (del H2 a) d (.xd fs))) (fun _ _ _ => False)
theorem raiseG_in {K : PySem.W.Frag} {C fI : Addr} {W : WX} {σ : St} {v : V} {H1 : Hp} (T : GExc K C fI) (h : ∀ d, H1 d = none → W (.ref C) (some d) σ (upd H1 d (.xd [(("subject" : Str), v)]))) : RaiseG K C W σ v H1 := by
  refine ⟨by show 1 ≤ 1000; decide, fun a ha => ⟨a, C, v, rfl, T.oex, T.noS, upd_same, fun dx hdx hne => ⟨rfl, dx, [(("subject" : Str), v)], upd_same, ?_, ?_, ?_⟩⟩⟩
  · rw [upd_ne hne, upd_same]
  · rw [upd_ne hne] at hdx; exact hdx
  · rw [exc_heap ha]
    rw [upd_ne hne] at hdx
    exact h dx hdx
def tRaiseG (K : PySem.W.Frag) (C : Addr) (W : WX) (te : TE) : TS := fun _ σ H => te σ H fun v H1 => RaiseG K C W σ v H1
theorem ps_raiseG {X : Cx} {x : Str} {C fI : Addr} {k : Nat} {fd : FuncData} {ps : List Str} {W : WX} {e : Expr} {te : TE} {p pos pos2 : Pos} (hc : X.calm = true) (T : GExc X.K C fI)
    (F1 : FnOk X.prog X.w X.K X.mg X.base CX0 k fI fd ps (spGI X.K)) (hr : Room (k + 1) X.A) (hb : Binds X.K fd ps []) (hg : Gl X x) (hm : X.mg x = some (.ref C)) (tk : Takes X W) (ha : PE X e te)
    (hdb : (x == ("__debug__" : Str)) = false := by decide) (he : starEach [e] X.env = (false, eval e X.env) :: starEach [] X.env := by rfl) (hpl : (backTo pos (starEach [] X.env)).any (·.1) = false := by rfl) :
    PS X (.Raise (some (.Call (.Name x p) [e] [] pos)) none pos2) (tRaiseG X.K C W te) :=
  ps_raise (pos := pos2) hc tk (pmk_oex (p := p) (pos := pos) (dvs := []) T.oex T.iC T.tI F1 hr hb .nil (fun _ _ _ _ _ _ _ h => h.elim) hg hm (pa_cons ha pa_nil he) hdb he hpl)
/-- C(e, ..) of an own class in a try's body -/
def tMakeS (C : Addr) (sp : Sp) (E : St → XK) (t : TA) : TE := fun σ H Q => t σ H fun vs H1 => ∀ x dx, H1 x = none → H1 dx = none → dx ≠ x →
  sp (.ref x :: vs) (upd (upd H1 dx (.own x)) x (.ins C dx [])) (fun v H2 => v = .non ∧ Q (.ref x) H2) (E σ)
section
variable {X : Cx} {CX : CXT} {k : Nat} {f C : Addr} {fd : FuncData} {ps : List Str} {sp : Sp} {E : St → XK} {x : Str} {p pos : Pos} {e : Expr} {es : List Expr} {t : TA} {ta tb : TE}
theorem run_makeS {pins : List (Addr × Obj)} {σ : St} {H : Hp} {s : Shared} {Q : VK} {us : List Value} {vs : List V} (M : Mk X.K C f) (F : FnOk X.prog X.w X.K X.mg X.base CX k f fd ps sp) (hr : Room (k + 1) X.A) (hb : Binds X.K fd ps [])
    (hx : PassesAt CX X σ (E σ)) (I : Inv X pins σ H s) (r : Vals vs us)
    (h : ∀ x dx, H x = none → H dx = none → dx ≠ x → sp (.ref x :: vs) (upd (upd H dx (.own x)) x (.ins C dx [])) (fun v H2 => v = .non ∧ Q (.ref x) H2) (E σ)) :
    wpAny (model X.prog X.w) X.A (call (.ref C) us) (EP X pins σ Q) X.xe s := by
  have hq := h (s.heap.objs.size + 1) s.heap.objs.size (I.hok.fresh (Nat.le_succ _)) (I.hok.fresh (Nat.le_refl _)) (Nat.ne_of_lt (Nat.lt_succ_self _))
  have I2 := Inv.made (C := C) I
  have r2 : Vals (V.ref (s.heap.objs.size + 1) :: vs) (Value.ref (s.heap.objs.size + 1) :: us) := .cons rfl r
  have hl : (Value.ref (s.heap.objs.size + 1) :: us).length = ps.length := by
    have e := r2.length
    rw [F.len _ _ _ _ hq] at e
    exact e.symm
  have hb' := hb
  refine wpAny_call (make_map (f := f) I.kIn M.makes M.init (beq_iff_eq.mp M.fn) (codeAny_mono (F.run _ X.stack _ _ ⟨Value.ref (s.heap.objs.size + 1) :: us, []⟩ (Value.ref (s.heap.objs.size + 1) :: us) _ _ (E σ) (hr.make C us [])
    (I2.env0.make C us []) (by have z := hb _ (Value.ref (s.heap.objs.size + 1) :: us) I2.kIn (by rw [List.append_nil]; exact hl); rw [List.append_nil] at z; exact z) r2 hq) fun r s' hq' => ?_))
  cases r with
  | error e => exact hx pins _ _ e s' I2 hq'
  | ok fl =>
    cases fl with
    | ret u =>
      obtain ⟨v, H', I3, rv, ev, q3⟩ := I2.after hq'
      subst ev
      exact ⟨rv, ⟨V.ref (s.heap.objs.size + 1), H', I3, rfl, q3⟩⟩
    | next => exact False.elim hq'
    | brk => exact False.elim hq'
    | cont => exact False.elim hq'
theorem pe_makeS (M : Mk X.K C f) (F : FnOk X.prog X.w X.K X.mg X.base CX k f fd ps sp) (hr : Room (k + 1) X.A) (hg : Gl X x) (hm : X.mg x = some (.ref C)) (hb : Binds X.K fd ps []) (hx : ∀ σ, PassesAt CX X σ (E σ))
    (ha : PA X (e :: es) t) (hdb : (x == ("__debug__" : Str)) = false := by decide) (he : starEach (e :: es) X.env = (false, eval e X.env) :: starEach es X.env := by rfl) (hpl : (backTo pos (starEach es X.env)).any (·.1) = false := by rfl) :
    PE X (.Call (.Name x p) (e :: es) [] pos) (tMakeS C sp E t) := by
  refine ⟨fun pins s σ H Q I h => ?_⟩
  refine wpAny_Call_Name_kw (ld_glob I hg hm ?_ hdb)
  refine PySem.W.callWith_K (h₀ := X.base) I.ok.mod.kin M.kp (thn (ha.run pos pins s σ H _ I h) fun us s1 ⟨vs, H1, I1, r, q⟩ => ⟨I1.kIn, ?_⟩) he hpl
  exact run_makeS M F hr hb (hx σ) I1 r q
theorem run_fnS2 {pins : List (Addr × Obj)} {σ : St} {H : Hp} {s : Shared} {Q : VK} {us : List Value} {vs : List V} (F : FnOk X.prog X.w X.K X.mg X.base CX k f fd ps sp) (hr : Room k X.A) (hb : Binds X.K fd ps []) (hx : PassesAt CX X σ (E σ))
    (I : Inv X pins σ H s) (r : Vals vs us) (h : sp vs H Q (E σ)) : wpAny (model X.prog X.w) X.A (call (.ref f) us) (EP X pins σ Q) X.xe s :=
  run_fnSD (dvs := []) (ds := []) F hr hb .nil hx I r (by rw [List.append_nil]; exact h)
/-- x op y in a try's body: y of the class, or an int -/
def tOpS (C : Addr) (sp : Sp) (E : St → XK) (ta tb : TE) : TE := fun σ H Q => ta σ H fun x H1 => tb σ H1 fun y H2 => ∃ a dx fs, x = .ref a ∧ H2 a = some (.ins C dx fs) ∧ ((∃ b dy gs, y = .ref b ∧ H2 b = some (.ins C dy gs)) ∨ ∃ i, y = .int i) ∧ sp [x, y] H2 Q (E σ)
theorem pe_opS {op : Operator} (hm : Meth X.K C (PySem.dunder op.info.2) f) (hc : PySem.W.selfFirst X.K C = true) (hi : OwnI X.K C op) (F : FnOk X.prog X.w X.K X.mg X.base CX k f fd ps sp) (hr : Room k X.A) (hb : Binds X.K fd ps []) (hx : ∀ σ, PassesAt CX X σ (E σ))
    {l r : Expr} (ha : PE X l ta) (hb' : PE X r tb) : PE X (.BinOp l op r pos) (tOpS C sp E ta tb) := by
  refine ⟨fun pins s σ H Q I h => ?_⟩
  refine wpAny_BinOp (binT ha hb' I h fun v u s2 x y H2 I2 rx ry q => ?_)
  obtain ⟨a, dx, fs, rfl, ea, hy, q⟩ := q
  obtain rfl : v = Value.ref a := rx
  obtain ⟨od, J⟩ := I2.instAt ea
  obtain ⟨m, fr⟩ := I2.fr
  have run := run_fnS2 F hr hb (hx σ) I2 (.cons (show RelV (.ref a) (Value.ref a) from rfl) (.cons ry .nil)) q
  rcases hy with ⟨b, dy, gs, rfl, eb⟩ | ⟨i, rfl⟩
  · obtain rfl : u = Value.ref b := ry
    obtain ⟨od', J'⟩ := I2.instAt eb
    refine PySem.W.binop_K fr I2.ok.mod.kin J J'.type hc hm.at_ hm.fn (thn run fun w s' q => ?_)
    obtain ⟨v', H', I', rv, q⟩ := q
    exact cmpBack_of rv ⟨v', H', I', rv, q⟩
  · obtain ⟨t, rfl⟩ := (show ∃ t, u = Value.int i t from ry)
    obtain ⟨⟨rc, h1, h2⟩, ⟨fo, h3⟩, ⟨ro, h4⟩, h5⟩ := hi
    refine PySem.W.ksp_binT (T := "int") fr I2.ok.mod.kin J rfl hc hm.at_ hm.fn h1 h2 h3 h4 h5 (thn run fun w s' q => ?_)
    obtain ⟨v', H', I', rv, q⟩ := q
    exact cmpBack_of rv ⟨v', H', I', rv, q⟩
end
end L2
namespace L2
open PySem PySem.Spec PyProof.Rows
section
variable {X : Cx}
theorem rangeSize1 (a b : Int) : Builtin.Range.rangeSize a b 1 = if a < b then b - a else 0 := by
  unfold Builtin.Range.rangeSize
  rw [if_pos (by decide)]
  by_cases h : a < b
  · rw [if_pos h, if_pos h]; omega
  · rw [if_neg h, if_neg h]
theorem q_rlen (r : Addr) (a b : Int) (t u v : Tok) (hz : b - a < 2 ^ 63) :
    Meets (Builtin.«range.__len__» ⟨[.ref r], []⟩) (fun _ R s => s.heap.get? r = some { cls := .type "range", dict := none, data := .fields #[.int a t, .int b u, .int 1 v], slots := #[] } ∧ R (.ok (.ret (.int (if a < b then b - a else 0) s.toks))) { s with toks := s.toks + 1 }) :=
  .of_wp fun prog w A R s h => by
    obtain ⟨hp, g, d, tk, os⟩ := s
    obtain ⟨hl, h⟩ := h
    have hn : ¬ (Builtin.Range.rangeSize a b 1 ≥ 2 ^ 63) := by rw [rangeSize1]; split <;> omega
    wp_walk
    rw [rangeSize1] at hn ⊢
    rw [if_neg hn]
    wp_walk
    exact ⟨_, rfl, h⟩
/-- len(r), r a range with step 1 -/
def rLenRng : List V → Hp → VK → Prop := fun xs H Q => ∃ a lo hi, xs = [.ref a] ∧ H a = some (.rng lo hi) ∧ hi - lo < 2 ^ 63 ∧ Q (.int (if lo < hi then hi - lo else 0)) H
theorem call_lenRng : CallR X (.builtin "len") rLenRng := by
  intro pins s σ H xs us Q I r h
  obtain ⟨a, lo, hi, rfl, ea, hz, q⟩ := h
  obtain ⟨u, rfl, ru⟩ := vals1 r
  obtain rfl : u = Value.ref a := ru
  obtain ⟨t1, t2, t3, ho⟩ := I.hok a _ ea
  refine call_len_slot (T := "range") (n := if lo < hi then hi - lo else 0) ⟨_, ho, rfl⟩ PySem.F.slot_range_len (fun Q' q' => ?_) (by split <;> omega) (by split <;> omega) ⟨.int (if lo < hi then hi - lo else 0), H, (I.tok _), ⟨_, rfl⟩, q⟩
  exact call_meets PySem.F.slot_range_len ⟨_, ho, rfl⟩ PySem.F.entry_range_len (PySem.F.args_range_len_1 _) (q_rlen a lo hi t1 t2 t3 hz) ⟨ho, q'⟩
end
end L2
namespace L2
open PySem PySem.Spec PyProof.Rows
section
variable {X : Cx} {a : Expr} {ta : TE}
/-- * of any two ints whose product the machine takes -/
theorem op_mulX : OpR X (binaryOp .Mult) (rI IntMulOk fun i j => .int (i * j)) := opI fun _ _ _ _ _ _ _ hc q => mul_int q hc
theorem mulL {i j : Int} (h : -(2 ^ 64) < i ∧ i < 2 ^ 64) : IntMulOk i j := CMul.ok (.inl h)
theorem mulR {i j : Int} (h : -(2 ^ 64) < j ∧ j < 2 ^ 64) : IntMulOk i j := CMul.ok (.inr h)
/-- a test by an own truth -/
theorem pt_own {r : V → Hp → (Bool → Hp → Prop) → Prop} (ht : TruR X r) (ha : PE X a ta) (he : ∀ whole, isTrue a X.env whole = (do let v ← whole; standAt a.pos; holding [v] (truthy v)) := by intro _; rfl) :
    PT X a (fun σ H Q => ta σ H fun x H' => r x H' Q) := by
  refine ⟨fun pins s σ H Q I h => ?_⟩
  rw [he]
  refine wpAny_bind (thn (ha.run pins s σ H _ I h) fun v s1 ⟨x, H1, I1, r1, q1⟩ => ?_)
  exact wpAny_bind (wpAny_standAt (wpAny_holding (ht pins s1 σ H1 x v Q I1 r1 q1)))
end
/-- what was tracked stays, but for what stands at p -/
def SameBut (p : Addr) (H H' : Hp) : Prop := ∀ b o, b ≠ p → H b = some o → H' b = some o
theorem SameBut.refl {p : Addr} {H : Hp} : SameBut p H H := fun _ _ _ h => h
theorem SameBut.trans {p : Addr} {H H1 H2 : Hp} (a : SameBut p H H1) (b : SameBut p H1 H2) : SameBut p H H2 := fun c o n h => b c o n (a c o n h)
theorem Same.but {p : Addr} {H H' : Hp} (a : Same H H') : SameBut p H H' := fun c o _ h => a c o h
theorem same_new {H : Hp} {p : Addr} {o : HO} (h : H p = none) : Same H (upd H p o) := fun b u e => by rw [upd_ne (ne_of_none e h)]; exact e
theorem sameBut_upd {H : Hp} {p : Addr} {o : HO} : SameBut p H (upd H p o) := fun b u n e => by rw [upd_ne n]; exact e
theorem Same.seqT {K : PySem.W.Frag} {H H' : Hp} {a : Addr} {xs : List V} (e : Same H H') (h : SqT K H a xs) : SqT K H' a xs := by
  rcases h with (h | ⟨o, h⟩) | h
  · exact .inl (.inl (e _ _ h))
  · exact .inl (.inr ⟨o, e _ _ h⟩)
  · exact .inr h
theorem getMap {xs : List Int} {i : Nat} {y : V} (h : (xs.map V.int)[i]? = some y) : ∃ z, xs[i]? = some z ∧ y = V.int z := by
  rw [List.getElem?_map] at h
  cases e : xs[i]? with
  | none => rw [e] at h; cases h
  | some z => rw [e] at h; exact ⟨z, rfl, (Option.some.inj h).symm⟩
theorem bitsMul {i j : Int} (hi : Builtin.Int.intBits i ≤ 1048576) (hj : Builtin.Int.intBits j ≤ 1048576) : IntMulOk i j := IntMulOk.of_le hi hj (by decide)

theorem iteD {p : Prop} [Decidable p] {A B : Prop} (h1 : p → A) (h2 : ¬ p → B) : if decide p = true then A else B := by
  by_cases h : p
  · rw [decide_eq_true h, if_pos rfl]; exact h1 h
  · rw [decide_eq_false h, if_neg Bool.false_ne_true]; exact h2 h
theorem iteDN {p : Prop} [Decidable p] {A B : Prop} (h1 : p → B) (h2 : ¬ p → A) : if (!decide p) = true then A else B := by
  by_cases h : p
  · rw [decide_eq_true h]; exact iteF (h1 h)
  · rw [decide_eq_false h]; exact iteT (h2 h)
theorem qd {Q : VK} {H : Hp} {p q : Prop} [Decidable p] [Decidable q] (e : p ↔ q) (h : Q (.bl (decide p)) H) : Q (.bl (decide q)) H := by
  have z : decide p = decide q := by
    by_cases c : p
    · rw [decide_eq_true c, decide_eq_true (e.mp c)]
    · rw [decide_eq_false c, decide_eq_false fun y => c (e.mpr y)]
  rw [← z]; exact h
theorem qt {Q : VK} {H : Hp} {p : Prop} [Decidable p] (c : p) (h : Q (.bl (decide p)) H) : Q (.bl true) H := by
  rw [decide_eq_true c] at h; exact h
theorem qf {Q : VK} {H : Hp} {p : Prop} [Decidable p] (c : ¬ p) (h : Q (.bl (decide p)) H) : Q (.bl false) H := by
  rw [decide_eq_false c] at h; exact h

/-! ### the pool of draws -/
/-- the list of the pool: four ints, then ints of at least 1 -/
def poolL (a b c n : Int) (bs : List Int) : List V := [.int a, .int b, .int c, .int n] ++ bs.map V.int
def PoolAt (H : Hp) (p : Addr) : Prop := ∃ a b c n bs, H p = some (.lst (poolL a b c n bs)) ∧ bs.length ≤ 63 ∧ ∀ z ∈ bs, 1 ≤ z
theorem pool_len (a b c n : Int) (bs : List Int) : (poolL a b c n bs).length = 4 + bs.length := by
  unfold poolL; rw [List.length_append, List.length_map]; rfl
theorem pool_at0 {a b c n : Int} {bs : List Int} : atI (poolL a b c n bs) 0 = some (.int a) := atI_nat (j := 0) rfl
theorem pool_at1 {a b c n : Int} {bs : List Int} : atI (poolL a b c n bs) 1 = some (.int b) := atI_nat (j := 1) rfl
theorem pool_at2 {a b c n : Int} {bs : List Int} : atI (poolL a b c n bs) 2 = some (.int c) := atI_nat (j := 2) rfl
theorem pool_at3 {a b c n : Int} {bs : List Int} : atI (poolL a b c n bs) 3 = some (.int n) := atI_nat (j := 3) rfl
theorem pool_at4 {a b c n z : Int} {bs : List Int} : atI (poolL a b c n (z :: bs)) 4 = some (.int z) := atI_nat (j := 4) rfl
theorem ixN_of {n : Nat} {j : Nat} (h : j < n) : ixN n (j : Int) = some j := by
  unfold ixN
  rw [if_pos (by omega), if_pos (by omega)]
  simp
theorem pool_ix {a b c n : Int} {bs : List Int} (j : Nat) (h : j < 4) : ixN (poolL a b c n bs).length (j : Int) = some j := ixN_of (by rw [pool_len]; omega)
theorem pool_ix4 {a b c n z : Int} {bs : List Int} : ixN (poolL a b c n (z :: bs)).length 4 = some 4 := ixN_of (j := 4) (by rw [pool_len, List.length_cons]; omega)
theorem pool_seq4 {a b c n z : Int} {bs : List Int} : seqIndex? 4 (poolL a b c n (z :: bs)).length = some 4 := (ixN_seq pool_ix4).1
theorem PoolAt.of {H : Hp} {p : Addr} {a b c n : Int} {bs : List Int} (h : H p = some (.lst (poolL a b c n bs))) (hl : bs.length ≤ 63) (hz : ∀ z ∈ bs, 1 ≤ z) : PoolAt H p := ⟨a, b, c, n, bs, h, hl, hz⟩
theorem PoolAt.mono {H H' : Hp} {p : Addr} (h : PoolAt H p) (e : Same H H') : PoolAt H' p := let ⟨a, b, c, n, bs, q, hl, hz⟩ := h; ⟨a, b, c, n, bs, e _ _ q, hl, hz⟩
theorem PoolAt.ne {H : Hp} {p q : Addr} (h : PoolAt H p) (hq : H q = none) : p ≠ q := let ⟨_, _, _, _, _, e, _, _⟩ := h; ne_of_none e hq
theorem same_of_but {H H' : Hp} {p : Addr} (hp : H p = none) (s : SameBut p H H') : Same H H' := fun b o e => s b o (ne_of_none e hp) e
theorem dp2 {K : PySem.W.Frag} {H : Hp} {t : Addr} {a b : Int} (h : SqT K H t [.int a, .int b]) : Dp K H (.ref t) (.tuple [.int a, .int b]) := .tup h (.cons (.int a) (.cons (.int b) .nil))
theorem eqv2 (a b : Int) : PyData.eqv (.tuple [.int a, .int b]) (.tuple [.int a, .int b]) = true := by simp [PyData.eqv, PyData.eqvAll]
theorem eqv22 (a b c d : Int) : PyData.eqv (.tuple [.int a, .int b]) (.tuple [.int c, .int d]) = decide (a = c ∧ b = d) := by
  simp [PyData.eqv, PyData.eqvAll, Bool.decide_and]
  try rfl
theorem andV_two {p q : Prop} [Decidable p] [Decidable q] {Qk : VK} {σ : L2.St} {H : Hp} {tb : TE} (h1 : Qk (.bl (decide q)) H → tb σ H Qk) (h : Qk (.bl (decide p && decide q)) H) : if decide p = true then tb σ H Qk else Qk (.bl false) H := by
  by_cases c : p
  · rw [decide_eq_true c] at h ⊢; exact h1 h
  · rw [decide_eq_false c] at h ⊢; rw [if_neg Bool.false_ne_true]; exact h
theorem notFirst_self {K : PySem.W.Frag} {C : Addr} : PySem.W.notFirst K C (.ref C) = true := by unfold PySem.W.notFirst; simp
def spPool (K : PySem.W.Frag) : Sp := fun vs H Q _ => ∃ (a : Addr) (ns : List Int), vs = [.ref a] ∧ SqL K H a (ns.map V.int) ∧ ns.length ≤ 63 ∧ (∀ z ∈ ns, Builtin.Int.intBits z ≤ 1048576) ∧
  ∀ p H', H p = none → PoolAt H' p → SameBut p H H' → Q (.ref p) H'
def spDraw : Sp := fun vs H Q _ => ∃ (p : Addr) (m : Int), vs = [.ref p, .int m] ∧ PoolAt H p ∧ 1 ≤ m ∧ m < 1073741824 ∧ ∀ r H', 0 ≤ r → r < m → PoolAt H' p → SameBut p H H' → Q (.int r) H'

/-! ### the rules that speak of K, by the K at hand -/
section
variable {X : Cx} {o e : Expr} {ta tl : TE} {tg : Expr} {f : Str} {pos : Pos}
theorem op_eqDK (K : PySem.W.Frag) (hu : X.A.units + 64 < cLine) (hK : X.K = K := by rfl) : OpR X (compareOp .Eq) (rEqD K) := hK ▸ op_eqD hu
theorem op_neDK (K : PySem.W.Frag) (hu : X.A.units + 64 < cLine) (hK : X.K = K := by rfl) : OpR X (compareOp .NotEq) (rNeD K) := hK ▸ op_neD hu
theorem ix_tupK (K : PySem.W.Frag) (hK : X.K = K := by rfl) : IxR X (rIxT K) := hK ▸ ix_tup
theorem ix_listK (K : PySem.W.Frag) (hK : X.K = K := by rfl) : IxR X (rIxL K) := hK ▸ ix_list
theorem pe_fldK (K : PySem.W.Frag) (he : PE X e ta) (hb : attributeBase e f X.env (eval e X.env) = eval e X.env) (hK : X.K = K := by rfl) : PE X (.Attribute e f pos) (tFld K ta f) := hK ▸ pe_fld he hb
theorem op_in_seqK (K : PySem.W.Frag) (hK : X.K = K := by rfl) : OpR X (compareOp .In) (rIn K false) := hK ▸ op_in_seq
theorem op_notIn_seqK (K : PySem.W.Frag) (hK : X.K = K := by rfl) : OpR X (compareOp .NotIn) (rIn K true) := hK ▸ op_notIn_seq
theorem call_isiK' (K : PySem.W.Frag) (hK : X.K = K := by rfl) : CallR X (.builtin "isinstance") (rIsi K) := hK ▸ call_isi
theorem pi_listK (K : PySem.W.Frag) (hl : PE X o tl) (hK : X.K = K := by rfl) : PI X tg o (iList K tl) := hK ▸ pi_list hl
theorem pi_tupK (K : PySem.W.Frag) (hl : PE X o tl) (hK : X.K = K := by rfl) : PI X tg o (iTup K tl) := hK ▸ pi_tup hl
def rLenSq (K : PySem.W.Frag) : List V → Hp → VK → Prop := fun xs H Q => ∃ p ys, xs = [.ref p] ∧ (SqL K H p ys ∨ SqT K H p ys) ∧ Q (.int ys.length) H
theorem call_len_seqK (K : PySem.W.Frag) (hK : X.K = K := by rfl) : CallR X (.builtin "len") (rLenSq K) := hK ▸ call_len_seq
end
theorem kit_same {K : PySem.W.Frag} {t : Value} : PySem.W.kitOne K t t = some true := by
  unfold PySem.W.kitOne
  rw [if_pos (by simp)]
theorem kit_sub {K : PySem.W.Frag} {t C : Addr} {b : Bool} (hd : PySem.W.hasDictIn K C = true) (ty : PySem.W.typeIn K (.ref C) = some (.type "type")) (self : PySem.W.subIn K (.ref C) (.ref C) = some true) (h : PySem.W.subIn K (.ref t) (.ref C) = some b) :
    PySem.W.kitOne K (.ref t) (.ref C) = some b := by
  unfold PySem.W.kitOne
  by_cases e : t = C
  · subst e
    rw [if_pos (by simp)]
    exact self.symm.trans h
  · rw [if_neg (by simpa using e)]
    obtain ⟨cd, hc, _⟩ := PySem.W.any_some hd
    have e2 : ((PySem.W.clsIn K C).isSome && PySem.W.typeIn K (.ref C) == some (.type "type")) = true := by rw [hc, ty] <;> rfl
    show (if ((PySem.W.clsIn K C).isSome && PySem.W.typeIn K (.ref C) == some (.type "type")) = true then PySem.W.subIn K (.ref t) (.ref C) else none) = some b
    rw [if_pos e2]
    exact h
theorem kit_base {K : PySem.W.Frag} {t : Addr} {T : String} {b : Bool} (hm : PySem.W.kitMeta T = true) (h : PySem.W.subIn K (.ref t) (.type T) = some b) : PySem.W.kitOne K (.ref t) (.type T) = some b := by
  unfold PySem.W.kitOne
  rw [if_neg (by simp)]
  show (if PySem.W.kitMeta T = true then PySem.W.subIn K (.ref t) (.type T) else none) = some b
  rw [if_pos hm]
  exact h
end L2
namespace LW
open PySem PySem.Spec PyProof.Rows L2
def top (i : Nat) : Stmt := PySem.Challenge.pw_gangbooks_k06_spans_by_hours.main.body.getD i (.Pass ⟨0, 0, 0, 0⟩)
abbrev s_GangError_init : Stmt := inClass (top 1) 0
abbrev s_Span_init : Stmt := inClass (top 6) 0
abbrev s_Span_rshift : Stmt := inClass (top 6) 1
abbrev s_Span_lshift : Stmt := inClass (top 6) 2
abbrev s_Span_and : Stmt := inClass (top 6) 3
abbrev s_Span_or : Stmt := inClass (top 6) 4
abbrev s_Span_bool : Stmt := inClass (top 6) 8
abbrev s_Span_xor : Stmt := inClass (top 6) 5
abbrev s_Span_contains : Stmt := inClass (top 6) 6
abbrev s_Span_eq : Stmt := inClass (top 6) 7
abbrev s_Span_len : Stmt := inClass (top 6) 9
abbrev s_pool : Stmt := top 8
abbrev s_draw : Stmt := top 9
abbrev s_hour : Stmt := top 10
abbrev s_ends : Stmt := top 11
abbrev s_whole : Stmt := top 12
abbrev s_has : Stmt := top 13
abbrev s_is : Stmt := top 14
abbrev s_refused : Stmt := top 15
abbrev s_earlier : Stmt := top 16
abbrev s_both : Stmt := top 17
abbrev s_law : Stmt := top 18
theorem sc_GangError_init : FnScope ["self", "subject"] ["self", "subject"] (defScope s_GangError_init) := ⟨rfl, rfl, rfl, by decide +kernel, rfl, by decide +kernel, by decide +kernel⟩
theorem sc_Span_init : FnScope ["self", "start", "end"] ["self", "start", "end"] (defScope s_Span_init) := ⟨rfl, rfl, rfl, by decide +kernel, rfl, by decide +kernel, by decide +kernel⟩
theorem sc_Span_rshift : FnScope ["self", "other"] ["self", "other"] (defScope s_Span_rshift) := ⟨rfl, rfl, rfl, by decide +kernel, rfl, by decide +kernel, by decide +kernel⟩
theorem sc_Span_lshift : FnScope ["self", "other"] ["self", "other"] (defScope s_Span_lshift) := ⟨rfl, rfl, rfl, by decide +kernel, rfl, by decide +kernel, by decide +kernel⟩
theorem sc_Span_and : FnScope ["self", "other", "start"] ["self", "other"] (defScope s_Span_and) := ⟨rfl, rfl, rfl, by decide +kernel, rfl, by decide +kernel, by decide +kernel⟩
theorem sc_Span_or : FnScope ["self", "other"] ["self", "other"] (defScope s_Span_or) := ⟨rfl, rfl, rfl, by decide +kernel, rfl, by decide +kernel, by decide +kernel⟩
theorem sc_Span_bool : FnScope ["self"] ["self"] (defScope s_Span_bool) := ⟨rfl, rfl, rfl, by decide +kernel, rfl, by decide +kernel, by decide +kernel⟩
theorem sc_Span_xor : FnScope ["self", "other"] ["self", "other"] (defScope s_Span_xor) := ⟨rfl, rfl, rfl, by decide +kernel, rfl, by decide +kernel, by decide +kernel⟩
theorem sc_Span_contains : FnScope ["self", "x"] ["self", "x"] (defScope s_Span_contains) := ⟨rfl, rfl, rfl, by decide +kernel, rfl, by decide +kernel, by decide +kernel⟩
theorem sc_Span_eq : FnScope ["self", "other"] ["self", "other"] (defScope s_Span_eq) := ⟨rfl, rfl, rfl, by decide +kernel, rfl, by decide +kernel, by decide +kernel⟩
theorem sc_Span_len : FnScope ["self"] ["self"] (defScope s_Span_len) := ⟨rfl, rfl, rfl, by decide +kernel, rfl, by decide +kernel, by decide +kernel⟩
theorem sc_pool : FnScope ["_law_script", "_law_pool_here", "_law_cell"] ["_law_script"] (defScope s_pool) := ⟨rfl, rfl, rfl, by decide +kernel, rfl, by decide +kernel, by decide +kernel⟩
theorem sc_draw : FnScope ["_law_pool_here", "_law_many", "_law_first", "_law_second", "_law_found"] ["_law_pool_here", "_law_many"] (defScope s_draw) := ⟨rfl, rfl, rfl, by decide +kernel, rfl, by decide +kernel, by decide +kernel⟩
theorem sc_hour : FnScope ["_law_pool_here", "_law_far"] ["_law_pool_here", "_law_far"] (defScope s_hour) := ⟨rfl, rfl, rfl, by decide +kernel, rfl, by decide +kernel, by decide +kernel⟩
theorem sc_ends : FnScope ["_law_pool_here", "_law_far", "_law_hours"] ["_law_pool_here"] (defScope s_ends) := ⟨rfl, rfl, rfl, by decide +kernel, rfl, by decide +kernel, by decide +kernel⟩
theorem sc_whole : FnScope ["_law_value"] ["_law_value"] (defScope s_whole) := ⟨rfl, rfl, rfl, by decide +kernel, rfl, by decide +kernel, by decide +kernel⟩
theorem sc_has : FnScope ["_law_ends_here", "_law_hour_here"] ["_law_ends_here", "_law_hour_here"] (defScope s_has) := ⟨rfl, rfl, rfl, by decide +kernel, rfl, by decide +kernel, by decide +kernel⟩
theorem sc_is : FnScope ["_law_span", "_law_ends_here", "_law_hours", "_law_hour_here"] ["_law_span", "_law_ends_here", "_law_hours"] (defScope s_is) := ⟨rfl, rfl, rfl, by decide +kernel, rfl, by decide +kernel, by decide +kernel⟩
theorem sc_refused : FnScope ["_law_pair", "e"] ["_law_pair"] (defScope s_refused) := ⟨rfl, rfl, rfl, by decide +kernel, rfl, by decide +kernel, by decide +kernel⟩
theorem sc_earlier : FnScope ["_law_span", "_law_ends_here", "_law_many", "_law_hours", "_law_pair", "_law_moved", "e"] ["_law_span", "_law_ends_here", "_law_many", "_law_hours"] (defScope s_earlier) := ⟨rfl, rfl, rfl, by decide +kernel, rfl, by decide +kernel, by decide +kernel⟩
theorem sc_both : FnScope ["_law_one", "_law_a", "_law_other", "_law_b", "_law_hours", "_law_later", "_law_common", "_law_crossed"] ["_law_one", "_law_a", "_law_other", "_law_b", "_law_hours"] (defScope s_both) := ⟨rfl, rfl, rfl, by decide +kernel, rfl, by decide +kernel, by decide +kernel⟩
theorem sc_law : FnScope ["_law_script", "_law_pool_here", "_law_rows", "_law_many", "_law_spans", "_law_hours", "_law_start", "_law_end", "_law_turn", "_law_at", "_law_one", "_law_a", "_law_by", "_law_late", "_law_early", "_law_pair", "_law_k", "_law_ends_here"] ["_law_script"] (defScope s_law) := ⟨rfl, rfl, rfl, by decide +kernel, rfl, by decide +kernel, by decide +kernel⟩
/-- where the top has put what the law uses -/
structure Adr where
  c_Span : Addr
  c_GangError : Addr
  c_BadAmounts : Addr
  c_BadSpan : Addr
  c_BadHour : Addr
  f_GangError_init : Addr
  d_GangError_init : FuncData
  f_Span_init : Addr
  d_Span_init : FuncData
  f_Span_rshift : Addr
  d_Span_rshift : FuncData
  f_Span_lshift : Addr
  d_Span_lshift : FuncData
  f_Span_and : Addr
  d_Span_and : FuncData
  f_Span_or : Addr
  d_Span_or : FuncData
  f_Span_bool : Addr
  d_Span_bool : FuncData
  f_Span_xor : Addr
  d_Span_xor : FuncData
  f_Span_contains : Addr
  d_Span_contains : FuncData
  f_Span_eq : Addr
  d_Span_eq : FuncData
  f_Span_len : Addr
  d_Span_len : FuncData
  f_pool : Addr
  d_pool : FuncData
  f_draw : Addr
  d_draw : FuncData
  f_hour : Addr
  d_hour : FuncData
  f_ends : Addr
  d_ends : FuncData
  f_whole : Addr
  d_whole : FuncData
  f_has : Addr
  d_has : FuncData
  f_is : Addr
  d_is : FuncData
  f_refused : Addr
  d_refused : FuncData
  f_earlier : Addr
  d_earlier : FuncData
  f_both : Addr
  d_both : FuncData
  f_law : Addr
  d_law : FuncData
structure Txt (K : PySem.W.Frag) (mg : Str → Option Value) (A : Adr) : Prop where
  n_ValueError : mg "ValueError" = none
  n_bool : mg "bool" = none
  n_int : mg "int" = none
  n_isinstance : mg "isinstance" = none
  n_len : mg "len" = none
  n_list : mg "list" = none
  n_max : mg "max" = none
  n_min : mg "min" = none
  n_range : mg "range" = none
  g_Span : mg "Span" = some (.ref A.c_Span)
  g_GangError : mg "GangError" = some (.ref A.c_GangError)
  g_BadAmounts : mg "BadAmounts" = some (.ref A.c_BadAmounts)
  g_BadSpan : mg "BadSpan" = some (.ref A.c_BadSpan)
  g_BadHour : mg "BadHour" = some (.ref A.c_BadHour)
  F_GangError_init : Fun K "__init__" "GangError.__init__" s_GangError_init A.f_GangError_init A.d_GangError_init
  b_GangError_init : Binds K A.d_GangError_init ["self", "subject"] []
  me_GangError_init : Meth K A.c_GangError "__init__" A.f_GangError_init
  F_Span_init : Fun K "__init__" "Span.__init__" s_Span_init A.f_Span_init A.d_Span_init
  b_Span_init : Binds K A.d_Span_init ["self", "start", "end"] []
  me_Span_init : Meth K A.c_Span "__init__" A.f_Span_init
  F_Span_rshift : Fun K "__rshift__" "Span.__rshift__" s_Span_rshift A.f_Span_rshift A.d_Span_rshift
  b_Span_rshift : Binds K A.d_Span_rshift ["self", "other"] []
  me_Span_rshift : Meth K A.c_Span "__rshift__" A.f_Span_rshift
  F_Span_lshift : Fun K "__lshift__" "Span.__lshift__" s_Span_lshift A.f_Span_lshift A.d_Span_lshift
  b_Span_lshift : Binds K A.d_Span_lshift ["self", "other"] []
  me_Span_lshift : Meth K A.c_Span "__lshift__" A.f_Span_lshift
  F_Span_and : Fun K "__and__" "Span.__and__" s_Span_and A.f_Span_and A.d_Span_and
  b_Span_and : Binds K A.d_Span_and ["self", "other"] []
  me_Span_and : Meth K A.c_Span "__and__" A.f_Span_and
  F_Span_or : Fun K "__or__" "Span.__or__" s_Span_or A.f_Span_or A.d_Span_or
  b_Span_or : Binds K A.d_Span_or ["self", "other"] []
  me_Span_or : Meth K A.c_Span "__or__" A.f_Span_or
  F_Span_bool : Fun K "__bool__" "Span.__bool__" s_Span_bool A.f_Span_bool A.d_Span_bool
  b_Span_bool : Binds K A.d_Span_bool ["self"] []
  me_Span_bool : Meth K A.c_Span "__bool__" A.f_Span_bool
  F_Span_xor : Fun K "__xor__" "Span.__xor__" s_Span_xor A.f_Span_xor A.d_Span_xor
  b_Span_xor : Binds K A.d_Span_xor ["self", "other"] []
  me_Span_xor : Meth K A.c_Span "__xor__" A.f_Span_xor
  F_Span_contains : Fun K "__contains__" "Span.__contains__" s_Span_contains A.f_Span_contains A.d_Span_contains
  b_Span_contains : Binds K A.d_Span_contains ["self", "x"] []
  me_Span_contains : Meth K A.c_Span "__contains__" A.f_Span_contains
  F_Span_eq : Fun K "__eq__" "Span.__eq__" s_Span_eq A.f_Span_eq A.d_Span_eq
  b_Span_eq : Binds K A.d_Span_eq ["self", "other"] []
  me_Span_eq : Meth K A.c_Span "__eq__" A.f_Span_eq
  F_Span_len : Fun K "__len__" "Span.__len__" s_Span_len A.f_Span_len A.d_Span_len
  b_Span_len : Binds K A.d_Span_len ["self"] []
  me_Span_len : Meth K A.c_Span "__len__" A.f_Span_len
  F_pool : Fun K "_law_pool" "_law_pool" s_pool A.f_pool A.d_pool
  b_pool : Binds K A.d_pool ["_law_script"] []
  g_pool : mg "_law_pool" = some (.ref A.f_pool)
  F_draw : Fun K "_law_draw" "_law_draw" s_draw A.f_draw A.d_draw
  b_draw : Binds K A.d_draw ["_law_pool_here", "_law_many"] []
  g_draw : mg "_law_draw" = some (.ref A.f_draw)
  F_hour : Fun K "_law_hour" "_law_hour" s_hour A.f_hour A.d_hour
  b_hour : Binds K A.d_hour ["_law_pool_here", "_law_far"] []
  g_hour : mg "_law_hour" = some (.ref A.f_hour)
  F_ends : Fun K "_law_ends" "_law_ends" s_ends A.f_ends A.d_ends
  b_ends : Binds K A.d_ends ["_law_pool_here"] []
  g_ends : mg "_law_ends" = some (.ref A.f_ends)
  F_whole : Fun K "_law_whole" "_law_whole" s_whole A.f_whole A.d_whole
  b_whole : Binds K A.d_whole ["_law_value"] []
  g_whole : mg "_law_whole" = some (.ref A.f_whole)
  F_has : Fun K "_law_has" "_law_has" s_has A.f_has A.d_has
  b_has : Binds K A.d_has ["_law_ends_here", "_law_hour_here"] []
  g_has : mg "_law_has" = some (.ref A.f_has)
  F_is : Fun K "_law_is" "_law_is" s_is A.f_is A.d_is
  b_is : Binds K A.d_is ["_law_span", "_law_ends_here", "_law_hours"] []
  g_is : mg "_law_is" = some (.ref A.f_is)
  F_refused : Fun K "_law_refused" "_law_refused" s_refused A.f_refused A.d_refused
  b_refused : Binds K A.d_refused ["_law_pair"] []
  g_refused : mg "_law_refused" = some (.ref A.f_refused)
  F_earlier : Fun K "_law_earlier" "_law_earlier" s_earlier A.f_earlier A.d_earlier
  b_earlier : Binds K A.d_earlier ["_law_span", "_law_ends_here", "_law_many", "_law_hours"] []
  g_earlier : mg "_law_earlier" = some (.ref A.f_earlier)
  F_both : Fun K "_law_both" "_law_both" s_both A.f_both A.d_both
  b_both : Binds K A.d_both ["_law_one", "_law_a", "_law_other", "_law_b", "_law_hours"] []
  g_both : mg "_law_both" = some (.ref A.f_both)
  F_law : Fun K "law" "law" s_law A.f_law A.d_law
  b_law : Binds K A.d_law ["_law_script"] []
  g_law : mg "law" = some (.ref A.f_law)
  cl_Span : Cls K A.c_Span
  mk_Span : Mk K A.c_Span A.f_Span_init
  sf_Span : PySem.W.selfFirst K A.c_Span = true
  k1_Span : PySem.W.findIn K (.ref A.c_Span) "__class__" = some (some (.builtin "object.__class__"))
  k4_Span : PySem.W.mroIn K A.c_Span (.type "object") = some true
  no_Span_start : NoAttr K A.c_Span "start"
  no_Span_end : NoAttr K A.c_Span "end"
  i_Span_rshift : OwnI K A.c_Span .RShift
  i_Span_lshift : OwnI K A.c_Span .LShift
  kg : PySem.W.specialIn K (.builtin "object.__class__") "__get__" = some (some (.builtin "getset_descriptor.__get__"))
  kt : PySem.W.takesIn K (.builtin "object.__class__") = some true
  x_GangError : GExc K A.c_GangError A.f_GangError_init
  xf_GangError : XfC K A.c_GangError
  xc_GangError : ExcC K A.c_GangError
  xm_GangError : PySem.W.exmOne K (.ref A.c_GangError) (.ref A.c_GangError) = some true
  x_BadAmounts : GExc K A.c_BadAmounts A.f_GangError_init
  xf_BadAmounts : XfC K A.c_BadAmounts
  xc_BadAmounts : ExcC K A.c_BadAmounts
  xm_BadAmounts : PySem.W.exmOne K (.ref A.c_BadAmounts) (.ref A.c_GangError) = some true
  x_BadSpan : GExc K A.c_BadSpan A.f_GangError_init
  xf_BadSpan : XfC K A.c_BadSpan
  xc_BadSpan : ExcC K A.c_BadSpan
  xm_BadSpan : PySem.W.exmOne K (.ref A.c_BadSpan) (.ref A.c_GangError) = some true
  x_BadHour : GExc K A.c_BadHour A.f_GangError_init
  xf_BadHour : XfC K A.c_BadHour
  xc_BadHour : ExcC K A.c_BadHour
  xm_BadHour : PySem.W.exmOne K (.ref A.c_BadHour) (.ref A.c_GangError) = some true
  kt_BadSpan_BadSpan : PySem.W.kitOne K (.ref A.c_BadSpan) (.ref A.c_BadSpan) = some true
  kt_BadSpan_ValueError : PySem.W.kitOne K (.ref A.c_BadSpan) (.type "ValueError") = some true
  kt_BadSpan_BadHour : PySem.W.kitOne K (.ref A.c_BadSpan) (.ref A.c_BadHour) = some false
  kt_BadSpan_BadAmounts : PySem.W.kitOne K (.ref A.c_BadSpan) (.ref A.c_BadAmounts) = some false

def flds (s e : Int) : List (Str × V) := putF "end" (.int e) (putF "start" (.int s) [])
theorem flds_start (s e : Int) : (flds s e).lookup ("start" : Str) = some (.int s) := by
  unfold flds; rw [lookup_putF, if_neg (by decide +kernel), lookup_putF, if_pos rfl]
theorem flds_end (s e : Int) : (flds s e).lookup ("end" : Str) = some (.int e) := by
  unfold flds; rw [lookup_putF, if_pos rfl]
/-- a Span from s to e stands at x -/
def SpanAt (A : Adr) (H : Hp) (x : Addr) (s e : Int) : Prop := ∃ dx, H x = some (.ins A.c_Span dx (flds s e))
theorem SpanAt.mono {A : Adr} {H H' : Hp} {x : Addr} {s e : Int} (h : SpanAt A H x s e) (k : Same H H') : SpanAt A H' x s e := let ⟨dx, q⟩ := h; ⟨dx, k _ _ q⟩
/-- an error with its subject, a tuple of two ints -/
def Refused (A : Adr) (E : XK) (H : Hp) (s e : Int) : Prop := ∀ t d H', Same H H' → H' t = some (.tup [.int s, .int e]) → H' d = some (.xd [(("subject" : Str), .ref t)]) → E (.ref A.c_BadSpan) (some d) H'
def NewSpan (A : Adr) (Q : VK) (H : Hp) (s e : Int) : Prop := ∀ x H', Same H H' → SpanAt A H' x s e → Q (.ref x) H'
def spSI (A : Adr) : Sp := fun vs H Q E => ∃ (p dx : Addr) (s e : Int), vs = [.ref p, .int s, .int e] ∧ H p = some (.ins A.c_Span dx []) ∧ (0 ≤ s ∧ s ≤ e → Q .non (upd H p (.ins A.c_Span dx (flds s e)))) ∧ (¬ (0 ≤ s ∧ s ≤ e) → Refused A E H s e)
def spShR (A : Adr) : Sp := fun vs H Q _ => ∃ (a : Addr) (s e n : Int), vs = [.ref a, .int n] ∧ SpanAt A H a s e ∧ 0 ≤ s ∧ s ≤ e ∧ 0 ≤ n ∧ NewSpan A Q H (s + n) (e + n)
def spShL (A : Adr) : Sp := fun vs H Q E => ∃ (a : Addr) (s e n : Int), vs = [.ref a, .int n] ∧ SpanAt A H a s e ∧ s ≤ e ∧ (0 ≤ s - n → NewSpan A Q H (s - n) (e - n)) ∧ (s - n < 0 → Refused A E H (s - n) (e - n))
def mx (i j : Int) : Int := if j > i then j else i
def mn (i j : Int) : Int := if j < i then j else i
def spAnd (A : Adr) : Sp := fun vs H Q _ => ∃ (a b : Addr) (s e s' e' : Int), vs = [.ref a, .ref b] ∧ SpanAt A H a s e ∧ SpanAt A H b s' e' ∧ 0 ≤ s ∧ NewSpan A Q H (mx s s') (mx (mx s s') (mn e e'))
def spOr (A : Adr) : Sp := fun vs H Q _ => ∃ (a b : Addr) (s e s' e' : Int), vs = [.ref a, .ref b] ∧ SpanAt A H a s e ∧ SpanAt A H b s' e' ∧ 0 ≤ s ∧ 0 ≤ s' ∧ s ≤ e ∧ NewSpan A Q H (mn s s') (mx e e')
def spXor (A : Adr) : Sp := fun vs H Q _ => ∃ (a b : Addr) (s e s' e' : Int), vs = [.ref a, .ref b] ∧ SpanAt A H a s e ∧ SpanAt A H b s' e' ∧ 0 ≤ s ∧ ∀ H', Same H H' → Q (.bl (decide (mx s s' < mx (mx s s') (mn e e')))) H'
def spBool (A : Adr) : Sp := fun vs H Q _ => ∃ (a : Addr) (s e : Int), vs = [.ref a] ∧ SpanAt A H a s e ∧ Q (.bl (decide (s < e))) H
def spCon (A : Adr) : Sp := fun vs H Q _ => ∃ (a : Addr) (s e h : Int), vs = [.ref a, .int h] ∧ SpanAt A H a s e ∧ Q (.bl (decide (s ≤ h ∧ h < e))) H
def spEq (A : Adr) : Sp := fun vs H Q _ => ∃ (a b : Addr) (s e s' e' : Int), vs = [.ref a, .ref b] ∧ SpanAt A H a s e ∧ SpanAt A H b s' e' ∧ Q (.bl (decide (s = s' ∧ e = e'))) H
def spLen (A : Adr) : Sp := fun vs H Q _ => ∃ (a : Addr) (s e : Int), vs = [.ref a] ∧ SpanAt A H a s e ∧ s ≤ e ∧ e - s < 2 ^ 63 ∧ ∀ H', Same H H' → Q (.int (e - s)) H'
def spHour : Sp := fun vs H Q _ => ∃ (p : Addr) (far : Int), vs = [.ref p, .int far] ∧ PoolAt H p ∧ ∀ r H', 0 ≤ r → r ≤ 100000 → PoolAt H' p → SameBut p H H' → Q (.int r) H'
def spEnds : Sp := fun vs H Q _ => ∃ p : Addr, vs = [.ref p] ∧ PoolAt H p ∧ ∀ t a b H', 0 ≤ a → a ≤ b → b ≤ 100000 → t ≠ p → PoolAt H' p → SameBut p H H' → H' t = some (.tup [.int a, .int b]) → Q (.ref t) H'
def spWhole : Sp := fun vs H Q _ => ∃ i : Int, vs = [.int i] ∧ Q (.bl true) H
def spHas (K : PySem.W.Frag) : Sp := fun vs H Q _ => ∃ (t : Addr) (a b h : Int), vs = [.ref t, .int h] ∧ SqT K H t [.int a, .int b] ∧ Q (.bl (decide (a ≤ h ∧ h < b))) H
def spIs (K : PySem.W.Frag) (A : Adr) : Sp := fun vs H Q _ => ∃ (x t l : Addr) (a b : Int) (ns : List Int), vs = [.ref x, .ref t, .ref l] ∧ SpanAt A H x a b ∧ a ≤ b ∧ SqT K H t [.int a, .int b] ∧ SqL K H l (ns.map V.int) ∧ ∀ H', Same H H' → Q (.bl true) H'
def spRef (K : PySem.W.Frag) : Sp := fun vs H Q _ => ∃ (t : Addr) (a b : Int), vs = [.ref t] ∧ H t = some (.tup [.int a, .int b]) ∧ ¬ (0 ≤ a ∧ a ≤ b) ∧ ∀ H', Same H H' → Q (.bl true) H'
def spEarly (K : PySem.W.Frag) (A : Adr) : Sp := fun vs H Q _ => ∃ (x t l : Addr) (a b n : Int) (ns : List Int), vs = [.ref x, .ref t, .int n, .ref l] ∧ SpanAt A H x a b ∧ a ≤ b ∧ SqT K H t [.int a, .int b] ∧ SqL K H l (ns.map V.int) ∧ ∀ H', Same H H' → Q (.bl true) H'
def spBoth (K : PySem.W.Frag) (A : Adr) : Sp := fun vs H Q _ => ∃ (x t y u l : Addr) (a b c d : Int) (ns : List Int), vs = [.ref x, .ref t, .ref y, .ref u, .ref l] ∧ SpanAt A H x a b ∧ SpanAt A H y c d ∧ 0 ≤ a ∧ a ≤ b ∧ 0 ≤ c ∧ c ≤ d ∧
  H t = some (.tup [.int a, .int b]) ∧ H u = some (.tup [.int c, .int d]) ∧ SqL K H l (ns.map V.int) ∧ ∀ H', Same H H' → Q (.bl true) H'
def spLaw (K : PySem.W.Frag) : Sp := fun vs H Q _ => ∃ (a : Addr) (ns : List Int), vs = [.ref a] ∧ SqL K H a (ns.map V.int) ∧ ns.length ≤ 63 ∧ (∀ z ∈ ns, Builtin.Int.intBits z ≤ 1048576) ∧ ∀ H', Q (.bl true) H'
abbrev lawLvl : Nat := 8

theorem span_made {A : Adr} {H : Hp} {Q : VK} {E : XK} {s e : Int} (h0 : 0 ≤ s) (h1 : s ≤ e) (k : NewSpan A Q H s e) : ∀ x dx, H x = none → H dx = none → dx ≠ x →
    spSI A (.ref x :: ([.int s, .int e] ++ [])) (upd (upd H dx (.own x)) x (.ins A.c_Span dx [])) (fun v H2 => v = .non ∧ Q (.ref x) H2) E := by
  intro x dx hx hd hne
  refine ⟨x, dx, s, e, rfl, upd_same, fun _ => ⟨rfl, k x _ ?_ ⟨dx, upd_same⟩⟩, fun c => absurd ⟨h0, h1⟩ c⟩
  rw [upd_upd]
  exact (same_new hd).trans (same_new (by rw [upd_ne hne.symm]; exact hx))

theorem common_eq (a b c d : Int) (h1 : a ≤ b) (h3 : c ≤ d) : decide (mx a c < mx (mx a c) (mn b d)) = (decide (a ≤ mx a c ∧ mx a c < b) && decide (c ≤ mx a c ∧ mx a c < d)) := by
  rw [← Bool.decide_and]
  congr 1
  apply propext
  unfold mx mn
  constructor
  · intro h
    repeat (split at h)
    all_goals (repeat (split))
    all_goals omega
  · rintro ⟨⟨_, h⟩, _, h'⟩
    repeat (split at h)
    all_goals (repeat (split at h'))
    all_goals (repeat (split))
    all_goals omega

theorem span_same {A : Adr} {H : Hp} {x dx : Addr} {s e : Int} (hx : H x = none) (hd : H dx = none) (hne : dx ≠ x) : Same H (upd (upd (upd H dx (.own x)) x (.ins A.c_Span dx [])) x (.ins A.c_Span dx (flds s e))) := by
  rw [upd_upd]
  exact (same_new hd).trans (same_new (by rw [upd_ne hne.symm]; exact hx))
theorem le_mx (i j : Int) : i ≤ mx i j := by unfold mx; split <;> omega
def TupOk (H : Hp) (t : Addr) : Prop := ∃ a b, 0 ≤ a ∧ a ≤ b ∧ b ≤ 100000 ∧ H t = some (.tup [.int a, .int b])
def Good (A : Adr) (H : Hp) (t x : Addr) (a b : Int) : Prop := H t = some (.tup [.int a, .int b]) ∧ SpanAt A H x a b ∧ 0 ≤ a ∧ a ≤ b ∧ b ≤ 100000
theorem Good.mono {A : Adr} {H H' : Hp} {t x : Addr} {a b : Int} (g : Good A H t x a b) (s : Same H H') : Good A H' t x a b := ⟨s _ _ g.1, g.2.1.mono s, g.2.2⟩
/-- three rows and three spans -/
structure Sit (A : Adr) (H : Hp) (R S : Addr) (ts xs : List Addr) : Prop where
  r : H R = some (.lst (ts.map V.ref))
  s : H S = some (.lst (xs.map V.ref))
  lr : ts.length = 3
  ls : xs.length = 3
  ok : ∀ (j : Nat) (t x : Addr), ts[j]? = some t → xs[j]? = some x → ∃ a b, Good A H t x a b
theorem Sit.mono {A : Adr} {H H' : Hp} {R S : Addr} {ts xs : List Addr} (g : Sit A H R S ts xs) (s : Same H H') : Sit A H' R S ts xs :=
  ⟨s _ _ g.r, s _ _ g.s, g.lr, g.ls, fun j t x h1 h2 => let ⟨a, b, q⟩ := g.ok j t x h1 h2; ⟨a, b, q.mono s⟩⟩
theorem Sit.get {A : Adr} {H : Hp} {R S : Addr} {ts xs : List Addr} (g : Sit A H R S ts xs) {i : Nat} (hi : i < 3) : ∃ t x a b, atI (xs.map V.ref) ((0 : Int) + (i : Nat)) = some (.ref x) ∧ atI (ts.map V.ref) ((0 : Int) + (i : Nat)) = some (.ref t) ∧ Good A H t x a b := by
  have h1 : i < ts.length := by rw [g.lr]; exact hi
  have h2 : i < xs.length := by rw [g.ls]; exact hi
  obtain ⟨a, b, q⟩ := g.ok i ts[i] xs[i] (List.getElem?_eq_getElem h1) (List.getElem?_eq_getElem h2)
  have e : (0 : Int) + (i : Nat) = (i : Nat) := Int.zero_add _
  refine ⟨ts[i], xs[i], a, b, ?_, ?_, q⟩
  · rw [e]; exact atI_nat (by rw [List.getElem?_map, List.getElem?_eq_getElem h2]; rfl)
  · rw [e]; exact atI_nat (by rw [List.getElem?_map, List.getElem?_eq_getElem h1]; rfl)
theorem getMapR {xs : List Addr} {i : Nat} {y : V} (h : (xs.map V.ref)[i]? = some y) : ∃ z, xs[i]? = some z ∧ y = V.ref z := by
  rw [List.getElem?_map] at h
  cases e : xs[i]? with
  | none => rw [e] at h; cases h
  | some z => rw [e] at h; exact ⟨z, rfl, (Option.some.inj h).symm⟩
theorem rg_map (a b : Int) : rgV a b = ((List.range (b - a).toNat).map fun i => (a + (i : Nat) : Int)).map V.int := by
  unfold rgV; rw [List.map_map]; rfl

section
variable {P : Program} {w : World} {K : PySem.W.Frag} {mg : Str → Option Value} {base : Heap} {A : Adr}
theorem ok_GangError_init (T : Txt K mg A) : FnOk P w K mg base CX0 1 A.f_GangError_init A.d_GangError_init ["self", "subject"] (spGI K) := by
  refine T.F_GangError_init.ok sc_GangError_init (fun vs H Q E h => ?_) (fun cdv Ar outer s H vs Q E hr h => ?_)
  · obtain ⟨a, C, v, rfl, _⟩ := h
    rfl
  · obtain ⟨a, C, v, rfl, hT, hn, ha, k⟩ := h
    refine ⟨_, (pss_one (ps_ost (pv 0) (pv 1))), ?_⟩
    exact ⟨_, rfl, _, rfl, a, C, rfl, hT, hn, .inl ⟨ha, k⟩⟩
theorem ok_Span_init (T : Txt K mg A) : FnOk P w K mg base (L2.CX P w) 3 A.f_Span_init A.d_Span_init ["self", "start", "end"] (spSI A) := by
  refine T.F_Span_init.okX sc_Span_init (fun vs H Q E h => ?_) (fun cdv Ar outer s H vs Q E hr h => ?_)
  · obtain ⟨p, dx, s0, e0, rfl, _⟩ := h
    rfl
  · obtain ⟨p, dx, s0, e0, rfl, hp, kG, kB⟩ := h
    refine ⟨_, (pss_cons (ps_if (pt_not (pt_chain op_le op_le pe_int (pv 1) (pv 2))) (pss_one (ps_raiseG rfl T.x_BadSpan (ok_GangError_init T) (hr.mono (by decide)) T.b_GangError_init rfl T.g_BadSpan (takes_of rfl rfl rfl rfl) (pe_tup (pa_cons (pv 1) (pa_cons (pv 2) pa_nil))))) pss_nil)
        (pss_cons (ps_fld (pv 0) (pv 1) rfl)
        (pss_one (ps_fld (pv 0) (pv 2) rfl)))), ?_⟩
    have bad : ¬ (0 ≤ s0 ∧ s0 ≤ e0) → ∀ {σ : L2.St} {D : Ends}, tRaiseG K A.c_BadSpan (fun cls d _ H => E cls d H) (tTup (tCons (tVar 1) (tCons (tVar 2) tNil))) D [some (.ref p), some (.int s0), some (.int e0)] H := fun c σ D => by
      refine ⟨_, rfl, _, rfl, (by show 2 ≤ sizeLine; decide), fun t ht => raiseG_in T.x_BadSpan fun d hd => ?_⟩
      refine kB c t d _ ((same_new ht).trans (same_new hd)) ?_ upd_same
      rw [upd_ne (ne_of_none upd_same hd)]
      exact upd_same
    refine ⟨_, rfl, _, _, rfl, rfl, _, rfl, ?_⟩
    refine iteD (fun c1 => ?_) (fun c1 => ?_)
    · refine ⟨_, rfl, _, _, rfl, rfl, _, rfl, ?_⟩
      refine iteDN (fun c2 => ?_) (fun c2 => ?_)
      · refine ⟨_, rfl, _, rfl, p, A.c_Span, dx, _, rfl, hp, T.cl_Span, T.no_Span_start, (by show 0 < 1000; decide), _, rfl, _, rfl, p, A.c_Span, dx, _, rfl, upd_same, T.cl_Span, T.no_Span_end, (by show 1 < 1000; decide), ?_⟩
        rw [upd_upd]
        exact kG ⟨c1, c2⟩
      · exact bad (fun z => c2 z.2) (σ := []) (D := ⟨fun _ _ => False, fun _ _ => False, fun _ _ => False, fun _ _ => False⟩)
    · refine ⟨_, rfl, iteT ?_⟩
      exact bad (fun z => c1 z.1) (σ := []) (D := ⟨fun _ _ => False, fun _ _ => False, fun _ _ => False, fun _ _ => False⟩)
theorem ok_Span_rshift (T : Txt K mg A) : FnOk P w K mg base CX0 5 A.f_Span_rshift A.d_Span_rshift ["self", "other"] (spShR A) := by
  refine T.F_Span_rshift.ok sc_Span_rshift (fun vs H Q E h => ?_) (fun cdv Ar outer s H vs Q E hr h => ?_)
  · obtain ⟨a, s0, e0, n, rfl, _⟩ := h
    rfl
  · obtain ⟨a, s0, e0, n, rfl, hS, h0, h1, h2, k⟩ := h
    refine ⟨_, (pss_one (ps_ret (pe_make T.mk_Span (ok_Span_init T) (hr.mono (by decide)) rfl T.g_Span T.b_Span_init .nil passL (pa_cons (pe_op op_add (pe_fldK K (pv 0) rfl) (pv 1)) (pa_cons (pe_op op_add (pe_fldK K (pv 0) rfl) (pv 1)) pa_nil))))), ?_⟩
    obtain ⟨dx, ho⟩ := id hS
    refine ⟨_, rfl, a, A.c_Span, dx, _, _, rfl, ho, T.cl_Span, T.no_Span_start, flds_start _ _, _, rfl, _, _, rfl, rfl, _, rfl, a, A.c_Span, dx, _, _, rfl, ho, T.cl_Span, T.no_Span_end, flds_end _ _, _, rfl, _, _, rfl, rfl, ?_⟩
    exact span_made (by omega) (by omega) k
theorem ok_Span_lshift (T : Txt K mg A) : FnOk P w K mg base (L2.CX P w) 5 A.f_Span_lshift A.d_Span_lshift ["self", "other"] (spShL A) := by
  refine T.F_Span_lshift.okX sc_Span_lshift (fun vs H Q E h => ?_) (fun cdv Ar outer s H vs Q E hr h => ?_)
  · obtain ⟨a, s0, e0, n, rfl, _⟩ := h
    rfl
  · obtain ⟨a, s0, e0, n, rfl, hS, h1, kG, kB⟩ := h
    refine ⟨_, (pss_one (ps_ret (pe_make T.mk_Span (ok_Span_init T) (hr.mono (by decide)) rfl T.g_Span T.b_Span_init .nil (passes_call (takes_of rfl rfl rfl rfl) (fun _ _ _ _ h => h)) (pa_cons (pe_op op_sub (pe_fldK K (pv 0) rfl) (pv 1)) (pa_cons (pe_op op_sub (pe_fldK K (pv 0) rfl) (pv 1)) pa_nil))))), ?_⟩
    obtain ⟨dx, ho⟩ := id hS
    refine ⟨_, rfl, a, A.c_Span, dx, _, _, rfl, ho, T.cl_Span, T.no_Span_start, flds_start _ _, _, rfl, _, _, rfl, rfl, _, rfl, a, A.c_Span, dx, _, _, rfl, ho, T.cl_Span, T.no_Span_end, flds_end _ _, _, rfl, _, _, rfl, rfl, ?_⟩
    by_cases c : 0 ≤ s0 - n
    · exact span_made c (by omega) (kG c)
    · intro x dz hx hd hne
      refine ⟨x, dz, _, _, rfl, upd_same, fun z => absurd z.1 c, fun _ t d H' sm e1 e2 => kB (by omega) t d H' (Same.trans ?_ sm) e1 e2⟩
      exact (same_new hd).trans (same_new (by rw [upd_ne hne.symm]; exact hx))
theorem ok_Span_and (T : Txt K mg A) : FnOk P w K mg base CX0 5 A.f_Span_and A.d_Span_and ["self", "other"] (spAnd A) := by
  refine T.F_Span_and.ok sc_Span_and (fun vs H Q E h => ?_) (fun cdv Ar outer s H vs Q E hr h => ?_)
  · obtain ⟨a, b, s0, e0, s1, e1, rfl, _⟩ := h
    rfl
  · obtain ⟨a, b, s0, e0, s1, e1, rfl, hS, hR, h0, k⟩ := h
    refine ⟨_, (pss_cons (ps_set (i := 2) sc_Span_and.nd rfl (Or.inl rfl) (pe_callB (call_max2 rfl) (by rfl) T.n_max (by decide +kernel) (pa_cons (pe_fldK K (pv 0) rfl) (pa_cons (pe_fldK K (pv 1) rfl) pa_nil))))
        (pss_one (ps_ret (pe_make T.mk_Span (ok_Span_init T) (hr.mono (by decide)) rfl T.g_Span T.b_Span_init .nil passL (pa_cons (pv 2) (pa_cons (pe_callB (call_max2 rfl) (by rfl) T.n_max (by decide +kernel) (pa_cons (pv 2) (pa_cons (pe_callB (call_min2 rfl) (by rfl) T.n_min (by decide +kernel) (pa_cons (pe_fldK K (pv 0) rfl) (pa_cons (pe_fldK K (pv 1) rfl) pa_nil))) pa_nil))) pa_nil)))))), ?_⟩
    obtain ⟨dx, ho⟩ := id hS
    obtain ⟨dy, ho'⟩ := id hR
    refine ⟨_, rfl, a, A.c_Span, dx, _, _, rfl, ho, T.cl_Span, T.no_Span_start, flds_start _ _, _, rfl, b, A.c_Span, dy, _, _, rfl, ho', T.cl_Span, T.no_Span_start, flds_start _ _, _, _, rfl, ?_⟩
    refine ⟨_, rfl, _, rfl, _, rfl, a, A.c_Span, dx, _, _, rfl, ho, T.cl_Span, T.no_Span_end, flds_end _ _, _, rfl, b, A.c_Span, dy, _, _, rfl, ho', T.cl_Span, T.no_Span_end, flds_end _ _, _, _, rfl, _, _, rfl, ?_⟩
    exact span_made (by split <;> omega) (by repeat (split) <;> omega) k
theorem ok_Span_or (T : Txt K mg A) : FnOk P w K mg base CX0 5 A.f_Span_or A.d_Span_or ["self", "other"] (spOr A) := by
  refine T.F_Span_or.ok sc_Span_or (fun vs H Q E h => ?_) (fun cdv Ar outer s H vs Q E hr h => ?_)
  · obtain ⟨a, b, s0, e0, s1, e1, rfl, _⟩ := h
    rfl
  · obtain ⟨a, b, s0, e0, s1, e1, rfl, hS, hR, h0, h1, h2, k⟩ := h
    refine ⟨_, (pss_one (ps_ret (pe_make T.mk_Span (ok_Span_init T) (hr.mono (by decide)) rfl T.g_Span T.b_Span_init .nil passL (pa_cons (pe_callB (call_min2 rfl) (by rfl) T.n_min (by decide +kernel) (pa_cons (pe_fldK K (pv 0) rfl) (pa_cons (pe_fldK K (pv 1) rfl) pa_nil))) (pa_cons (pe_callB (call_max2 rfl) (by rfl) T.n_max (by decide +kernel) (pa_cons (pe_fldK K (pv 0) rfl) (pa_cons (pe_fldK K (pv 1) rfl) pa_nil))) pa_nil))))), ?_⟩
    obtain ⟨dx, ho⟩ := id hS
    obtain ⟨dy, ho'⟩ := id hR
    refine ⟨_, rfl, a, A.c_Span, dx, _, _, rfl, ho, T.cl_Span, T.no_Span_start, flds_start _ _, _, rfl, b, A.c_Span, dy, _, _, rfl, ho', T.cl_Span, T.no_Span_start, flds_start _ _, _, _, rfl, _, rfl, a, A.c_Span, dx, _, _, rfl, ho, T.cl_Span, T.no_Span_end, flds_end _ _, _, rfl, b, A.c_Span, dy, _, _, rfl, ho', T.cl_Span, T.no_Span_end, flds_end _ _, _, _, rfl, ?_⟩
    exact span_made (by split <;> omega) (by repeat (split) <;> omega) k
theorem ok_Span_bool (T : Txt K mg A) : FnOk P w K mg base CX0 1 A.f_Span_bool A.d_Span_bool ["self"] (spBool A) := by
  refine T.F_Span_bool.ok sc_Span_bool (fun vs H Q E h => ?_) (fun cdv Ar outer s H vs Q E hr h => ?_)
  · obtain ⟨a, s0, e0, rfl, _⟩ := h
    rfl
  · obtain ⟨a, s0, e0, rfl, hS, k⟩ := h
    refine ⟨_, (pss_one (ps_ret (pe_callTy call_bool1 (by rfl) T.n_bool (by decide +kernel) (pa_cons (pe_cmpR op_lt (pe_fldK K (pv 0) rfl) (pe_fldK K (pv 0) rfl) (nomark _)) pa_nil)))), ?_⟩
    obtain ⟨dx, ho⟩ := id hS
    exact ⟨_, rfl, a, A.c_Span, dx, _, _, rfl, ho, T.cl_Span, T.no_Span_start, flds_start _ _, _, rfl, a, A.c_Span, dx, _, _, rfl, ho, T.cl_Span, T.no_Span_end, flds_end _ _, _, _, rfl, rfl, .inr ⟨_, rfl, k⟩⟩
theorem ok_Span_xor (T : Txt K mg A) : FnOk P w K mg base CX0 6 A.f_Span_xor A.d_Span_xor ["self", "other"] (spXor A) := by
  refine T.F_Span_xor.ok sc_Span_xor (fun vs H Q E h => ?_) (fun cdv Ar outer s H vs Q E hr h => ?_)
  · obtain ⟨a, b, s0, e0, s1, e1, rfl, _⟩ := h
    rfl
  · obtain ⟨a, b, s0, e0, s1, e1, rfl, hS, hR, h0, k⟩ := h
    refine ⟨_, (pss_one (ps_ret (pe_callTy (call_boolOwn T.me_Span_bool (ok_Span_bool T) (hr.mono (by decide)) T.b_Span_bool pass0) (by rfl) T.n_bool (by decide +kernel) (pa_cons (pe_op (op_own T.me_Span_and T.sf_Span (ok_Span_and T) (hr.mono (by decide)) T.b_Span_and pass0) (pv 0) (pv 1)) pa_nil)))), ?_⟩
    obtain ⟨dx, ho⟩ := id hS
    obtain ⟨dy, ho'⟩ := id hR
    refine ⟨_, rfl, _, rfl, a, dx, _, b, dy, _, rfl, ho, rfl, ho', ⟨a, b, s0, e0, s1, e1, rfl, hS, hR, h0, fun x H1 sm hx => ?_⟩⟩
    obtain ⟨dz, hz⟩ := id hx
    exact ⟨_, rfl, x, dz, _, rfl, hz, ⟨x, _, _, rfl, hx, _, rfl, k H1 sm⟩⟩
theorem ok_Span_contains (T : Txt K mg A) : FnOk P w K mg base CX0 1 A.f_Span_contains A.d_Span_contains ["self", "x"] (spCon A) := by
  refine T.F_Span_contains.ok sc_Span_contains (fun vs H Q E h => ?_) (fun cdv Ar outer s H vs Q E hr h => ?_)
  · obtain ⟨a, s0, e0, hh, rfl, _⟩ := h
    rfl
  · obtain ⟨a, s0, e0, hh, rfl, hS, k⟩ := h
    refine ⟨_, (pss_one (ps_ret (pe_chain op_le op_lt (pe_fldK K (pv 0) rfl) (pv 1) (pe_fldK K (pv 0) rfl)))), ?_⟩
    obtain ⟨dx, ho⟩ := id hS
    refine ⟨_, rfl, a, A.c_Span, dx, _, _, rfl, ho, T.cl_Span, T.no_Span_start, flds_start _ _, _, rfl, _, _, rfl, rfl, _, rfl, ?_⟩
    refine iteD (fun c => ?_) (fun c => ?_)
    · refine ⟨_, rfl, a, A.c_Span, dx, _, _, rfl, ho, T.cl_Span, T.no_Span_end, flds_end _ _, _, _, rfl, rfl, ?_⟩
      exact qd ⟨fun z => z.2, fun z => ⟨c, z⟩⟩ k
    · exact qf (fun z => c z.1) k
theorem ok_Span_eq (T : Txt K mg A) : FnOk P w K mg base CX0 1 A.f_Span_eq A.d_Span_eq ["self", "other"] (spEq A) := by
  refine T.F_Span_eq.ok sc_Span_eq (fun vs H Q E h => ?_) (fun cdv Ar outer s H vs Q E hr h => ?_)
  · obtain ⟨a, b, s0, e0, s1, e1, rfl, _⟩ := h
    rfl
  · obtain ⟨a, b, s0, e0, s1, e1, rfl, hS, hR, k⟩ := h
    refine ⟨_, (pss_one (ps_ret (pe_and (pe_callB (call_isiK' K) (by rfl) T.n_isinstance (by decide +kernel) (pa_cons (pv 1) (pa_cons (pe_glob (v := .ref A.c_Span) rfl T.g_Span rfl) pa_nil))) (pe_and (pe_cmpR op_eq (pe_fldK K (pv 0) rfl) (pe_fldK K (pv 1) rfl) (nomark _)) (pe_one (pe_cmpR op_eq (pe_fldK K (pv 0) rfl) (pe_fldK K (pv 1) rfl) (nomark _))))))), ?_⟩
    obtain ⟨dx, ho⟩ := id hS
    obtain ⟨dy, ho'⟩ := id hR
    refine ⟨_, rfl, _, _, _, _, true, rfl, .own _, .base (.ins ho' T.cl_Span T.k1_Span T.kg T.kt T.k4_Span), kit_same, true, rfl, iteT ?_⟩
    refine ⟨_, rfl, a, A.c_Span, dx, _, _, rfl, ho, T.cl_Span, T.no_Span_start, flds_start _ _, _, rfl, b, A.c_Span, dy, _, _, rfl, ho', T.cl_Span, T.no_Span_start, flds_start _ _, rfl, _, rfl, ?_⟩
    refine iteD (fun c => ?_) (fun c => ?_)
    · refine ⟨_, rfl, a, A.c_Span, dx, _, _, rfl, ho, T.cl_Span, T.no_Span_end, flds_end _ _, _, rfl, b, A.c_Span, dy, _, _, rfl, ho', T.cl_Span, T.no_Span_end, flds_end _ _, rfl, ?_⟩
      injection c with c
      exact qd ⟨fun z => congrArg V.int z.2, fun z => ⟨c, by injection z⟩⟩ k
    · exact qf (fun z => c (congrArg V.int z.1)) k
theorem ok_Span_len (T : Txt K mg A) : FnOk P w K mg base CX0 1 A.f_Span_len A.d_Span_len ["self"] (spLen A) := by
  refine T.F_Span_len.ok sc_Span_len (fun vs H Q E h => ?_) (fun cdv Ar outer s H vs Q E hr h => ?_)
  · obtain ⟨a, s0, e0, rfl, _⟩ := h
    rfl
  · obtain ⟨a, s0, e0, rfl, hS, h0, h1, k⟩ := h
    refine ⟨_, (pss_one (ps_ret (pe_callB call_lenRng (by rfl) T.n_len (by decide +kernel) (pa_cons (pe_callTy cr_range2 (by rfl) T.n_range (by decide +kernel) (pa_cons (pe_fldK K (pv 0) rfl) (pa_cons (pe_fldK K (pv 0) rfl) pa_nil))) pa_nil)))), ?_⟩
    obtain ⟨dx, ho⟩ := id hS
    refine ⟨_, rfl, a, A.c_Span, dx, _, _, rfl, ho, T.cl_Span, T.no_Span_start, flds_start _ _, _, rfl, a, A.c_Span, dx, _, _, rfl, ho, T.cl_Span, T.no_Span_end, flds_end _ _, _, _, rfl, fun p hp => ⟨p, s0, e0, rfl, upd_same, h1, ?_⟩⟩
    have e : (if s0 < e0 then e0 - s0 else 0) = e0 - s0 := by split <;> omega
    rw [e]
    exact k _ (same_new hp)
theorem ok_pool (T : Txt K mg A) : FnOk P w K mg base CX0 1 A.f_pool A.d_pool ["_law_script"] (spPool K) := by
  refine T.F_pool.ok sc_pool (fun vs H Q E h => ?_) (fun cdv Ar outer s H vs Q E hr h => ?_)
  · obtain ⟨a, ns, rfl, _⟩ := h
    rfl
  · obtain ⟨a, ns, rfl, hS, hl, hb, k⟩ := h
    refine ⟨_, (pss_cons (ps_set (i := 1) sc_pool.nd rfl (Or.inl rfl) (pe_lst (pa_cons pe_int (pa_cons pe_int (pa_cons pe_int (pa_cons pe_int pa_nil))))))
        (pss_cons (ps_for PassesOwn.never rfl (pi_listK K (pv 0)) (pg_name (i := 2) sc_pool.nd rfl (Or.inl rfl))
        (pss_one (ps_if (pt_cmpR op_ge (pv 2) (pe_op op_pow pe_int pe_int) (nomark _)) (pss_one (ps_expr (pe_bm PySem.F.plainAttrs_list PySem.F.slot_list_append PySem.F.type_list_append mt_append (pv 1) (pa_cons (pv 2) pa_nil)))) (pss_cons (ps_asg (pe_op op_mod (pe_callTy call_int1 (by rfl) T.n_int (by decide +kernel) (pa_cons (pe_op op_add (pe_op op_mulX (pe_ix (ix_listK K) (pv 1) pe_int (fun _ _ => rfl)) pe_int) (pv 2)) pa_nil)) pe_int) (pg_sub (pv 1) pe_int set_list))
        (pss_cons (ps_asg (pe_op op_mod (pe_callTy call_int1 (by rfl) T.n_int (by decide +kernel) (pa_cons (pe_op op_add (pe_op op_mulX (pe_ix (ix_listK K) (pv 1) pe_int (fun _ _ => rfl)) pe_int) (pe_op op_mulX (pv 2) (pv 2))) pa_nil)) pe_int) (pg_sub (pv 1) pe_int set_list))
        (pss_one (ps_asg (pe_op op_mod (pe_callTy call_int1 (by rfl) T.n_int (by decide +kernel) (pa_cons (pe_op op_add (pe_op op_mulX (pe_ix (ix_listK K) (pv 1) pe_int (fun _ _ => rfl)) pe_int) (pe_op op_mulX (pv 2) pe_int)) pa_nil)) pe_int) (pg_sub (pv 1) pe_int set_list))))))))
        (pss_one (ps_ret (pv 1))))), ?_⟩
    refine ⟨(by show 4 ≤ sizeLine; decide), fun p hp => ?_⟩
    have sp : Same H (upd H p (.lst (poolL 1 2 3 0 []))) := same_new hp
    refine ⟨_, rfl, a, rfl, ⟨_, sp.seq hS⟩, for_list (K := K) (a := a) (xs := ns.map V.int) (fun i σ H' => ∃ v x0 x1 x2 bs, σ = [some (.ref a), some (.ref p), v] ∧ SameBut p H H' ∧ H' p = some (.lst (poolL x0 x1 x2 0 bs)) ∧ bs.length ≤ i ∧ ∀ z ∈ bs, 1 ≤ z)
      ⟨none, 1, 2, 3, [], rfl, sp.but, upd_same, Nat.le_refl _, fun z h => absurd h List.not_mem_nil⟩ (fun i σ H' _ ⟨_, _, _, _, _, _, sb, _⟩ => (same_of_but hp sb).seq hS) ?_ ?_⟩
    · rintro i y σ H' hi ⟨v, x0, x1, x2, bs, rfl, sb, hp', hbl, hz⟩
      obtain ⟨z, hzi, rfl⟩ := getMap hi
      have hil : i < ns.length := (List.getElem?_eq_some_iff.mp hzi).1
      have hbits := hb z (List.mem_of_getElem? hzi)
      refine ⟨_, rfl, _, _, rfl, rfl, ⟨by decide, by decide, by decide⟩, _, _, rfl, rfl, _, rfl, ?_⟩
      refine iteD (fun c => ?_) (fun c => ?_)
      · refine ⟨_, rfl, .inl ⟨rfl, _, SqL.of hp'⟩, _, rfl, p, _, _, rfl, rfl, hp', small1000 (by rw [pool_len]; omega), ?_⟩
        refine ⟨some (.int z), x0, x1, x2, bs ++ [z], rfl, sb.trans sameBut_upd, ?_, by rw [List.length_append]; show bs.length + 1 ≤ i + 1; omega, fun q hq => ?_⟩
        · rw [upd_same]; simp [poolL]
        · rcases List.mem_append.mp hq with h | h
          · exact hz q h
          · rw [List.mem_singleton.mp h]
            have e18 : (10 : Int) ^ (18 : Int).toNat = 1000000000000000000 := by decide
            have c' : (1000000000000000000 : Int) ≤ z := e18 ▸ c
            omega
      · refine ⟨_, rfl, p, _, 0, _, rfl, rfl, SqL.of hp', pool_at0, _, _, rfl, rfl, mulR ⟨by decide, by decide⟩, _, rfl, _, _, rfl, rfl, .inl ⟨_, rfl, _, _, rfl, rfl, (by show (0 : Int) < 101; decide), _, rfl, p, _, _, 0, rfl, rfl, hp', pool_ix 0 (by decide), ?_⟩⟩
        refine ⟨_, rfl, p, _, 1, _, rfl, rfl, SqL.of (show _ = some (.lst (poolL _ x1 x2 0 bs)) from upd_same), pool_at1, _, _, rfl, rfl, mulR ⟨by decide, by decide⟩, _, rfl, _, rfl, _, _, rfl, rfl, bitsMul hbits hbits, _, _, rfl, rfl, .inl ⟨_, rfl, _, _, rfl, rfl, (by show (0 : Int) < 103; decide), _, rfl, p, _, _, 1, rfl, rfl, (show _ = some (.lst (poolL _ x1 x2 0 bs)) from upd_same), pool_ix 1 (by decide), ?_⟩⟩
        refine ⟨_, rfl, p, _, 2, _, rfl, rfl, SqL.of (show _ = some (.lst (poolL _ _ x2 0 bs)) from upd_same), pool_at2, _, _, rfl, rfl, mulR ⟨by decide, by decide⟩, _, rfl, _, _, rfl, rfl, mulR ⟨by decide, by decide⟩, _, _, rfl, rfl, .inl ⟨_, rfl, _, _, rfl, rfl, (by show (0 : Int) < 1009; decide), _, rfl, p, _, _, 2, rfl, rfl, (show _ = some (.lst (poolL _ _ x2 0 bs)) from upd_same), pool_ix 2 (by decide), ?_⟩⟩
        exact ⟨some (.int z), _, _, _, bs, rfl, sb.trans (sameBut_upd.trans (sameBut_upd.trans sameBut_upd)), upd_same, by omega, hz⟩
    · rintro σ H' ⟨v, x0, x1, x2, bs, rfl, sb, hp', hbl, hz⟩
      rw [List.length_map] at hbl
      exact ⟨_, rfl, k p H' hp (.of hp' (by omega) hz) sb⟩
theorem ok_draw (T : Txt K mg A) : FnOk P w K mg base CX0 1 A.f_draw A.d_draw ["_law_pool_here", "_law_many"] (spDraw) := by
  refine T.F_draw.ok sc_draw (fun vs H Q E h => ?_) (fun cdv Ar outer s H vs Q E hr h => ?_)
  · obtain ⟨p, m, rfl, _⟩ := h
    rfl
  · obtain ⟨p, m, rfl, hP, h0, h1, k⟩ := h
    refine ⟨_, (pss_cons (ps_asg (pe_op op_add (pe_ix (ix_listK K) (pv 0) pe_int (fun _ _ => rfl)) pe_int) (pg_sub (pv 0) pe_int set_list))
        (pss_cons (ps_if (pt_cmpR op_gt (pe_callB (call_len_seqK K) (by rfl) T.n_len (by decide +kernel) (pa_cons (pv 0) pa_nil)) pe_int (nomark _)) (pss_cons (ps_set (i := 4) sc_draw.nd rfl (Or.inl rfl) (pe_op op_mod (pe_callTy call_int1 (by rfl) T.n_int (by decide +kernel) (pa_cons (pe_ix (ix_listK K) (pv 0) pe_int (fun _ _ => rfl)) pa_nil)) (pv 1)))
        (pss_cons (ps_asg (pe_op op_fdiv (pe_ix (ix_listK K) (pv 0) pe_int (fun _ _ => rfl)) (pv 1)) (pg_sub (pv 0) pe_int set_list))
        (pss_cons (ps_if (pt_cmpR op_eq (pe_ix (ix_listK K) (pv 0) pe_int (fun _ _ => rfl)) pe_int (nomark _)) (pss_one (ps_expr (pe_bm PySem.F.plainAttrs_list PySem.F.slot_list_pop PySem.F.type_list_pop mt_popAt (pv 0) (pa_cons pe_int pa_nil)))) pss_nil)
        (pss_one (ps_ret (pv 4)))))) pss_nil)
        (pss_cons (ps_set (i := 2) sc_draw.nd rfl (Or.inl rfl) (pe_op op_mod (pe_callTy call_int1 (by rfl) T.n_int (by decide +kernel) (pa_cons (pe_op op_add (pe_ix (ix_listK K) (pv 0) pe_int (fun _ _ => rfl)) (pe_op op_mulX pe_int (pe_ix (ix_listK K) (pv 0) pe_int (fun _ _ => rfl)))) pa_nil)) pe_int))
        (pss_cons (ps_set (i := 3) sc_draw.nd rfl (Or.inl rfl) (pe_op op_mod (pe_callTy call_int1 (by rfl) T.n_int (by decide +kernel) (pa_cons (pe_op op_add (pe_ix (ix_listK K) (pv 0) pe_int (fun _ _ => rfl)) (pe_op op_mulX (pv 2) (pv 2))) pa_nil)) pe_int))
        (pss_one (ps_ret (pe_op op_mod (pe_op op_mod (pe_callTy call_int1 (by rfl) T.n_int (by decide +kernel) (pa_cons (pe_op op_add (pe_op op_add (pe_ix (ix_listK K) (pv 0) pe_int (fun _ _ => rfl)) (pe_op op_mulX pe_int (pe_ix (ix_listK K) (pv 0) pe_int (fun _ _ => rfl)))) (pe_op op_mulX (pv 3) (pv 3))) pa_nil)) pe_int) (pv 1)))))))), ?_⟩
    obtain ⟨x0, x1, x2, n, bs, hp, hl, hz⟩ := hP
    refine ⟨_, rfl, p, _, 3, _, rfl, rfl, SqL.of hp, pool_at3, _, _, rfl, rfl, _, rfl, p, _, _, 3, rfl, rfl, hp, pool_ix 3 (by decide), ?_⟩
    have s1 : SameBut p H (upd H p (.lst (poolL x0 x1 x2 (n + 1) bs))) := sameBut_upd
    have hp1 : (upd H p (.lst (poolL x0 x1 x2 (n + 1) bs))) p = some (.lst (poolL x0 x1 x2 (n + 1) bs)) := upd_same
    refine ⟨_, rfl, p, _, rfl, .inl (SqL.of hp1), _, _, rfl, rfl, _, rfl, ?_⟩
    refine iteD (fun c => ?_) (fun c => ?_)
    · rw [pool_len] at c
      cases bs with
      | nil => exact absurd c (by decide)
      | cons b bs =>
        have hb1 := hz b List.mem_cons_self
        have hm0 : 0 ≤ b % m := Int.emod_nonneg b (by omega)
        have hm1 : b % m < m := Int.emod_lt_of_pos b (by omega)
        have hq : 0 ≤ b / m := Int.ediv_nonneg (by omega) (by omega)
        have hz' : ∀ z ∈ bs, 1 ≤ z := fun z h => hz z (List.mem_cons_of_mem _ h)
        have hl' : bs.length + 1 ≤ 63 := hl
        refine ⟨_, rfl, p, _, 4, _, rfl, rfl, SqL.of hp1, pool_at4, .inl ⟨_, rfl, _, rfl, _, _, rfl, rfl, (by show (0 : Int) < m; omega), ?_⟩⟩
        refine ⟨_, rfl, p, _, 4, _, rfl, rfl, SqL.of hp1, pool_at4, _, rfl, _, _, rfl, rfl, ⟨by omega, h1⟩, _, rfl, p, _, _, 4, rfl, rfl, hp1, pool_ix4, ?_⟩
        have hp2 : (upd (upd H p (.lst (poolL x0 x1 x2 (n + 1) (b :: bs)))) p (.lst (poolL x0 x1 x2 (n + 1) (b / m :: bs)))) p = some (.lst (poolL x0 x1 x2 (n + 1) (b / m :: bs))) := upd_same
        refine ⟨_, rfl, p, _, 4, _, rfl, rfl, SqL.of hp2, pool_at4, rfl, _, rfl, ?_⟩
        refine iteD (fun c2 => ?_) (fun c2 => ?_)
        · refine ⟨_, rfl, .inl ⟨rfl, _, SqL.of hp2⟩, p, _, 4, 4, _, rfl, rfl, hp2, by decide, by decide, pool_seq4, rfl, ?_⟩
          exact ⟨_, rfl, k _ _ hm0 hm1 (.of (bs := bs) upd_same (by omega) hz') (s1.trans (sameBut_upd.trans sameBut_upd))⟩
        · refine ⟨_, rfl, k _ _ hm0 hm1 (.of hp2 hl fun z h => ?_) (s1.trans sameBut_upd)⟩
          rcases List.mem_cons.mp h with e | h
          · rw [e]
            have : b / m ≠ 0 := fun e => c2 (by rw [e])
            omega
          · exact hz' z h
    · refine ⟨_, rfl, p, _, 0, _, rfl, rfl, SqL.of hp1, pool_at0, _, rfl, p, _, 3, _, rfl, rfl, SqL.of hp1, pool_at3, _, _, rfl, rfl, mulL ⟨by decide, by decide⟩, _, _, rfl, rfl, .inl ⟨_, rfl, _, _, rfl, rfl, (by show (0 : Int) < 101; decide), ?_⟩⟩
      have f0 : 0 ≤ (x0 + 7 * (n + 1)) % 101 := Int.emod_nonneg _ (by decide)
      have f1 : (x0 + 7 * (n + 1)) % 101 < 101 := Int.emod_lt_of_pos _ (by decide)
      generalize (x0 + 7 * (n + 1)) % 101 = fi at f0 f1
      refine ⟨_, rfl, p, _, 1, _, rfl, rfl, SqL.of hp1, pool_at1, _, rfl, _, rfl, _, _, rfl, rfl, mulL ⟨by omega, by omega⟩, _, _, rfl, rfl, .inl ⟨_, rfl, _, _, rfl, rfl, (by show (0 : Int) < 103; decide), ?_⟩⟩
      have g0 : 0 ≤ (x1 + fi * fi) % 103 := Int.emod_nonneg _ (by decide)
      have g1 : (x1 + fi * fi) % 103 < 103 := Int.emod_lt_of_pos _ (by decide)
      generalize (x1 + fi * fi) % 103 = se at g0 g1
      refine ⟨_, rfl, p, _, 2, _, rfl, rfl, SqL.of hp1, pool_at2, _, rfl, p, _, 3, _, rfl, rfl, SqL.of hp1, pool_at3, _, _, rfl, rfl, mulL ⟨by decide, by decide⟩, _, _, rfl, rfl, _, rfl, _, rfl, _, _, rfl, rfl, mulL ⟨by omega, by omega⟩, _, _, rfl, rfl, .inl ⟨_, rfl, _, _, rfl, rfl, (by show (0 : Int) < 1009; decide), _, rfl, _, _, rfl, rfl, (by show (0 : Int) < m; omega), ?_⟩⟩
      exact k _ _ (Int.emod_nonneg _ (by omega)) (Int.emod_lt_of_pos _ (by omega)) (.of hp1 hl hz) s1
theorem ok_hour (T : Txt K mg A) : FnOk P w K mg base CX0 2 A.f_hour A.d_hour ["_law_pool_here", "_law_far"] (spHour) := by
  refine T.F_hour.ok sc_hour (fun vs H Q E h => ?_) (fun cdv Ar outer s H vs Q E hr h => ?_)
  · obtain ⟨p, far, rfl, _⟩ := h
    rfl
  · obtain ⟨p, far, rfl, hP, k⟩ := h
    refine ⟨_, (pss_cons (ps_if (pt_cmpR op_eq (pv 1) pe_int (nomark _)) (pss_one (ps_ret (pe_op op_sub pe_int (pe_call (ok_draw T) (hr.mono (by decide)) rfl T.g_draw T.F_draw.kp T.b_draw .nil pass0 (pa_cons (pv 0) (pa_cons pe_int pa_nil)))))) pss_nil)
        (pss_cons (ps_if (pt_cmpR op_eq (pv 1) pe_int (nomark _)) (pss_one (ps_ret (pe_op op_add (pe_op op_mulX (pe_call (ok_draw T) (hr.mono (by decide)) rfl T.g_draw T.F_draw.kp T.b_draw .nil pass0 (pa_cons (pv 0) (pa_cons pe_int pa_nil))) pe_int) (pe_call (ok_draw T) (hr.mono (by decide)) rfl T.g_draw T.F_draw.kp T.b_draw .nil pass0 (pa_cons (pv 0) (pa_cons pe_int pa_nil)))))) pss_nil)
        (pss_one (ps_ret (pe_call (ok_draw T) (hr.mono (by decide)) rfl T.g_draw T.F_draw.kp T.b_draw .nil pass0 (pa_cons (pv 0) (pa_cons pe_int pa_nil))))))), ?_⟩
    refine ⟨_, rfl, rfl, _, rfl, ?_⟩
    refine iteD (fun c => ?_) (fun c => ?_)
    · exact ⟨_, rfl, p, 3, rfl, hP, by decide, by decide, fun r H1 r0 r1 P1 s1 => ⟨_, _, rfl, rfl, k _ H1 (by omega) (by omega) P1 s1⟩⟩
    · refine ⟨_, rfl, rfl, _, rfl, ?_⟩
      refine iteD (fun c => ?_) (fun c => ?_)
      · exact ⟨_, rfl, p, 1000, rfl, hP, by decide, by decide, fun r H1 r0 r1 P1 s1 => ⟨_, _, rfl, rfl, mulR ⟨by decide, by decide⟩, _, rfl, p, 100, rfl, P1, by decide, by decide, fun q H2 q0 q1 P2 s2 => ⟨_, _, rfl, rfl, k _ H2 (by omega) (by omega) P2 (s1.trans s2)⟩⟩⟩
      · exact ⟨_, rfl, p, 13, rfl, hP, by decide, by decide, fun r H1 r0 r1 P1 s1 => k _ H1 (by omega) (by omega) P1 s1⟩
theorem ok_ends (T : Txt K mg A) : FnOk P w K mg base CX0 3 A.f_ends A.d_ends ["_law_pool_here"] (spEnds) := by
  refine T.F_ends.ok sc_ends (fun vs H Q E h => ?_) (fun cdv Ar outer s H vs Q E hr h => ?_)
  · obtain ⟨p, rfl, _⟩ := h
    rfl
  · obtain ⟨p, rfl, hP, k⟩ := h
    refine ⟨_, (pss_cons (ps_set (i := 1) sc_ends.nd rfl (Or.inl rfl) (pe_call (ok_draw T) (hr.mono (by decide)) rfl T.g_draw T.F_draw.kp T.b_draw .nil pass0 (pa_cons (pv 0) (pa_cons pe_int pa_nil))))
        (pss_cons (ps_set (i := 2) sc_ends.nd rfl (Or.inl rfl) (pe_lst (pa_cons (pe_call (ok_hour T) (hr.mono (by decide)) rfl T.g_hour T.F_hour.kp T.b_hour .nil pass0 (pa_cons (pv 0) (pa_cons (pv 1) pa_nil))) (pa_cons (pe_call (ok_hour T) (hr.mono (by decide)) rfl T.g_hour T.F_hour.kp T.b_hour .nil pass0 (pa_cons (pv 0) (pa_cons (pv 1) pa_nil))) pa_nil))))
        (pss_one (ps_ret (pe_tup (pa_cons (pe_callB (cr_min rfl) (by rfl) T.n_min (by decide +kernel) (pa_cons (pv 2) pa_nil)) (pa_cons (pe_callB (cr_max rfl) (by rfl) T.n_max (by decide +kernel) (pa_cons (pv 2) pa_nil)) pa_nil))))))), ?_⟩
    refine ⟨_, rfl, p, 6, rfl, hP, by decide, by decide, fun f H1 f0 f1 P1 s1 => ?_⟩
    refine ⟨_, rfl, _, rfl, p, f, rfl, P1, fun r H2 r0 r1 P2 s2 => ⟨_, rfl, _, rfl, p, f, rfl, P2, fun q H3 q0 q1 P3 s3 => ⟨(by show 2 ≤ sizeLine; decide), fun l hl => ?_⟩⟩⟩
    have P4 : PoolAt (upd H3 l (.lst [.int r, .int q])) p := P3.mono (same_new hl)
    refine ⟨_, rfl, l, [r, q], rfl, SqL.of upd_same, (by show 0 < 2; decide), fun mi hmi hle => ⟨_, rfl, l, [r, q], rfl, SqL.of upd_same, (by show 0 < 2; decide), fun ma hma hge => ⟨(by show 2 ≤ sizeLine; decide), fun t ht => ?_⟩⟩⟩
    have a1 := hle r (by simp)
    have a2 := hge r (by simp)
    have b0 : 0 ≤ mi ∧ mi ≤ 100000 := by
      rcases List.mem_cons.mp hmi with e | e
      · omega
      · have := List.mem_singleton.mp e; omega
    have b1 : 0 ≤ ma ∧ ma ≤ 100000 := by
      rcases List.mem_cons.mp hma with e | e
      · omega
      · have := List.mem_singleton.mp e; omega
    exact k t mi ma _ b0.1 (by omega) b1.2 (P4.ne ht).symm (P4.mono (same_new ht)) (s1.trans (s2.trans (s3.trans ((same_new hl).but.trans (same_new ht).but)))) upd_same
theorem ok_whole (T : Txt K mg A) : FnOk P w K mg base CX0 1 A.f_whole A.d_whole ["_law_value"] (spWhole) := by
  refine T.F_whole.ok sc_whole (fun vs H Q E h => ?_) (fun cdv Ar outer s H vs Q E hr h => ?_)
  · obtain ⟨i, rfl, _⟩ := h
    rfl
  · obtain ⟨i, rfl, k⟩ := h
    refine ⟨_, (pss_one (ps_ret (pe_and (pe_callB (call_isiK' K) (by rfl) T.n_isinstance (by decide +kernel) (pa_cons (pv 0) (pa_cons (pe_bltn (v := .ty "int") (by rfl) T.n_int (by decide +kernel) rfl) pa_nil))) (pe_one (pe_not (pe_callB (call_isiK' K) (by rfl) T.n_isinstance (by decide +kernel) (pa_cons (pv 0) (pa_cons (pe_bltn (v := .ty "bool") (by rfl) T.n_bool (by decide +kernel) rfl) pa_nil)))))))), ?_⟩
    exact ⟨_, rfl, _, _, _, _, true, rfl, .ty _, .base (.int _), kit_ty (by decide +kernel), true, rfl, iteT ⟨_, rfl, _, _, _, _, false, rfl, .ty _, .base (.int _), kit_ty (by decide +kernel), false, rfl, k⟩⟩
theorem ok_has (T : Txt K mg A) : FnOk P w K mg base CX0 1 A.f_has A.d_has ["_law_ends_here", "_law_hour_here"] (spHas K) := by
  refine T.F_has.ok sc_has (fun vs H Q E h => ?_) (fun cdv Ar outer s H vs Q E hr h => ?_)
  · obtain ⟨t, a, b, hh, rfl, _⟩ := h
    rfl
  · obtain ⟨t, a, b, hh, rfl, hT, k⟩ := h
    refine ⟨_, (pss_one (ps_ret (pe_chain op_le op_lt (pe_ix (ix_tupK K) (pv 0) pe_int (fun _ _ => rfl)) (pv 1) (pe_ix (ix_tupK K) (pv 0) pe_int (fun _ _ => rfl))))), ?_⟩
    refine ⟨_, rfl, t, _, 0, _, rfl, rfl, hT, rfl, _, rfl, _, _, rfl, rfl, _, rfl, ?_⟩
    refine iteD (fun c => ?_) (fun c => ?_)
    · refine ⟨_, rfl, t, _, 1, _, rfl, rfl, hT, rfl, _, _, rfl, rfl, ?_⟩
      exact qd ⟨fun z => z.2, fun z => ⟨c, z⟩⟩ k
    · exact qf (fun z => c z.1) k
theorem ok_is (T : Txt K mg A) : FnOk P w K mg base CX0 4 A.f_is A.d_is ["_law_span", "_law_ends_here", "_law_hours"] (spIs K A) := by
  refine T.F_is.ok sc_is (fun vs H Q E h => ?_) (fun cdv Ar outer s H vs Q E hr h => ?_)
  · obtain ⟨x, t, l, a, b, ns, rfl, _⟩ := h
    rfl
  · obtain ⟨x, t, l, a, b, ns, rfl, hX, hab, hT, hL, k⟩ := h
    refine ⟨_, (pss_cons (ps_if (PW.pt (pw_or (pt_not (pt_val (pe_callB (call_isiK' K) (by rfl) T.n_isinstance (by decide +kernel) (pa_cons (pv 0) (pa_cons (pe_glob (v := .ref A.c_Span) rfl T.g_Span rfl) pa_nil))) (by intro _; rfl))) (pw_or (pt_not (pt_val (pe_call (ok_whole T) (hr.mono (by decide)) rfl T.g_whole T.F_whole.kp T.b_whole .nil pass0 (pa_cons (pe_fldK K (pv 0) rfl) pa_nil)) (by intro _; rfl))) (pw_or1 (pt_not (pt_val (pe_call (ok_whole T) (hr.mono (by decide)) rfl T.g_whole T.F_whole.kp T.b_whole .nil pass0 (pa_cons (pe_fldK K (pv 0) rfl) pa_nil)) (by intro _; rfl))))))) (pss_one (ps_ret pe_bl)) pss_nil)
        (pss_cons (ps_if (PW.pt (pw_or (pt_cmpR op_ne (pe_fldK K (pv 0) rfl) (pe_ix (ix_tupK K) (pv 1) pe_int (fun _ _ => rfl)) (nomark _)) (pw_or1 (pt_cmpR op_ne (pe_fldK K (pv 0) rfl) (pe_ix (ix_tupK K) (pv 1) pe_int (fun _ _ => rfl)) (nomark _))))) (pss_one (ps_ret pe_bl)) pss_nil)
        (pss_cons (ps_if (PW.pt (pw_and (pt_cmpR op_le (pe_op op_sub (pe_ix (ix_tupK K) (pv 1) pe_int (fun _ _ => rfl)) (pe_ix (ix_tupK K) (pv 1) pe_int (fun _ _ => rfl))) pe_int (nomark _)) (pw_and1 (pt_cmpR op_ne (pe_callB (call_lenOwn T.me_Span_len (ok_Span_len T) (hr.mono (by decide)) T.b_Span_len pass0) (by rfl) T.n_len (by decide +kernel) (pa_cons (pv 0) pa_nil)) (pe_op op_sub (pe_ix (ix_tupK K) (pv 1) pe_int (fun _ _ => rfl)) (pe_ix (ix_tupK K) (pv 1) pe_int (fun _ _ => rfl))) (nomark _))))) (pss_one (ps_ret pe_bl)) pss_nil)
        (pss_cons (ps_if (pt_cmpR op_ne (pe_callTy (call_boolOwn T.me_Span_bool (ok_Span_bool T) (hr.mono (by decide)) T.b_Span_bool pass0) (by rfl) T.n_bool (by decide +kernel) (pa_cons (pv 0) pa_nil)) (pe_cmpR op_lt (pe_ix (ix_tupK K) (pv 1) pe_int (fun _ _ => rfl)) (pe_ix (ix_tupK K) (pv 1) pe_int (fun _ _ => rfl)) (nomark _)) (nomark _)) (pss_one (ps_ret pe_bl)) pss_nil)
        (pss_cons (ps_for PassesOwn.never rfl (pi_listK K (pv 2)) (pg_name (i := 3) sc_is.nd rfl (Or.inl rfl))
        (pss_one (ps_if (pt_cmpR op_ne (pe_cmpR (op_inOwn T.me_Span_contains (ok_Span_contains T) (hr.mono (by decide)) T.b_Span_contains pass0) (pv 3) (pv 0) (by rfl)) (pe_call (ok_has T) (hr.mono (by decide)) rfl T.g_has T.F_has.kp T.b_has .nil pass0 (pa_cons (pv 1) (pa_cons (pv 3) pa_nil))) (nomark _)) (pss_one (ps_ret pe_bl)) pss_nil)))
        (pss_one (ps_ret pe_bl))))))), ?_⟩
    obtain ⟨dx, ho⟩ := id hX
    refine ⟨_, rfl, _, _, _, _, true, rfl, .own _, .base (.ins ho T.cl_Span T.k1_Span T.kg T.kt T.k4_Span), kit_same, true, rfl, iteF ⟨_, rfl, x, A.c_Span, dx, _, _, rfl, ho, T.cl_Span, T.no_Span_start, flds_start _ _, a, rfl, true, rfl, iteF ⟨_, rfl, x, A.c_Span, dx, _, _, rfl, ho, T.cl_Span, T.no_Span_end, flds_end _ _, b, rfl, true, rfl, iteF ?_⟩⟩⟩
    refine ⟨_, rfl, x, A.c_Span, dx, _, _, rfl, ho, T.cl_Span, T.no_Span_start, flds_start _ _, _, rfl, t, _, 0, _, rfl, rfl, hT, rfl, rfl, _, rfl, iteNS rfl ⟨_, rfl, x, A.c_Span, dx, _, _, rfl, ho, T.cl_Span, T.no_Span_end, flds_end _ _, _, rfl, t, _, 1, _, rfl, rfl, hT, rfl, rfl, _, rfl, iteNS rfl ?_⟩⟩
    refine ⟨_, rfl, t, _, 1, _, rfl, rfl, hT, rfl, _, rfl, t, _, 0, _, rfl, rfl, hT, rfl, _, _, rfl, rfl, _, _, rfl, rfl, _, rfl, ?_⟩
    refine iteD (fun c => ?_) (fun c => iteF ?_)
    · refine ⟨_, rfl, x, dx, _, rfl, ho, ⟨x, a, b, rfl, hX, hab, by omega, fun H1 s1 => ⟨_, rfl, by omega, by omega, _, rfl, t, _, 1, _, rfl, rfl, (s1.seqT hT), rfl, _, rfl, t, _, 0, _, rfl, rfl, (s1.seqT hT), rfl, _, _, rfl, rfl, rfl, _, rfl, iteNS rfl ?_⟩⟩⟩
      obtain ⟨dw, hw⟩ := hX.mono s1
      refine ⟨_, rfl, _, rfl, x, dw, _, rfl, hw, ⟨x, a, b, rfl, hX.mono s1, _, rfl, _, rfl, t, _, 0, _, rfl, rfl, (s1.seqT hT), rfl, _, rfl, t, _, 1, _, rfl, rfl, (s1.seqT hT), rfl, _, _, rfl, rfl, rfl, _, rfl, iteNS rfl ?_⟩⟩
      refine ⟨_, rfl, l, rfl, ⟨_, s1.seq hL⟩, for_list (K := K) (a := l) (xs := ns.map V.int) (fun i σ H' => ∃ v, σ = [some (.ref x), some (.ref t), some (.ref l), v] ∧ Same H H') ⟨none, rfl, s1⟩ (fun i σ H' _ ⟨_, _, s⟩ => s.seq hL) ?_ ?_⟩
      · rintro i y σ H' hi ⟨v, rfl, s2⟩
        obtain ⟨z, _, rfl⟩ := getMap hi
        obtain ⟨dz, hz⟩ := hX.mono s2
        exact ⟨_, rfl, _, rfl, x, dz, _, rfl, hz, ⟨x, a, b, z, rfl, hX.mono s2, _, rfl, _, rfl, _, rfl, t, a, b, z, rfl, s2.seqT hT, rfl, _, rfl, iteNS rfl ⟨some (.int z), rfl, s2⟩⟩⟩
      · rintro σ H' ⟨v, rfl, s2⟩
        exact k H' s2
    · have s1 := Same.refl H
      obtain ⟨dw, hw⟩ := hX.mono s1
      refine ⟨_, rfl, _, rfl, x, dw, _, rfl, hw, ⟨x, a, b, rfl, hX.mono s1, _, rfl, _, rfl, t, _, 0, _, rfl, rfl, (s1.seqT hT), rfl, _, rfl, t, _, 1, _, rfl, rfl, (s1.seqT hT), rfl, _, _, rfl, rfl, rfl, _, rfl, iteNS rfl ?_⟩⟩
      refine ⟨_, rfl, l, rfl, ⟨_, s1.seq hL⟩, for_list (K := K) (a := l) (xs := ns.map V.int) (fun i σ H' => ∃ v, σ = [some (.ref x), some (.ref t), some (.ref l), v] ∧ Same H H') ⟨none, rfl, s1⟩ (fun i σ H' _ ⟨_, _, s⟩ => s.seq hL) ?_ ?_⟩
      · rintro i y σ H' hi ⟨v, rfl, s2⟩
        obtain ⟨z, _, rfl⟩ := getMap hi
        obtain ⟨dz, hz⟩ := hX.mono s2
        exact ⟨_, rfl, _, rfl, x, dz, _, rfl, hz, ⟨x, a, b, z, rfl, hX.mono s2, _, rfl, _, rfl, _, rfl, t, a, b, z, rfl, s2.seqT hT, rfl, _, rfl, iteNS rfl ⟨some (.int z), rfl, s2⟩⟩⟩
      · rintro σ H' ⟨v, rfl, s2⟩
        exact k H' s2
theorem ok_refused (T : Txt K mg A) : FnOk P w K mg base CX0 5 A.f_refused A.d_refused ["_law_pair"] (spRef K) := by
  refine T.F_refused.ok sc_refused (fun vs H Q E h => ?_) (fun cdv Ar outer s H vs Q E hr h => ?_)
  · obtain ⟨t, a, b, rfl, _⟩ := h
    rfl
  · obtain ⟨t, a, b, rfl, hT, hn, k⟩ := h
    refine ⟨_, (pss_cons (ps_try_as (i := 1) rfl rfl sc_refused.nd rfl rfl ⟨rfl, by decide, Or.inl T.g_GangError⟩ takes0 (fun W pn xe tk _ => (pss_one (ps_expr (pe_makeS T.mk_Span (ok_Span_init T) (hr.mono (by decide)) rfl T.g_Span T.b_Span_init (fun σ => passAt tk σ) (pa_cons (pe_ix (ix_tupK K) (pv 0) pe_int (fun _ _ => rfl)) (pa_cons (pe_ix (ix_tupK K) (pv 0) pe_int (fun _ _ => rfl)) pa_nil)))))) (fun a oe cls d pn hz hf => (pss_cons (ps_if (PW.pt (pw_or (pt_not (pt_val (pe_callB (call_isX hz hf) (by rfl) T.n_isinstance (by decide +kernel) (pa_cons (pv 1) (pa_cons (pe_glob (v := .ref A.c_BadSpan) rfl T.g_BadSpan rfl) pa_nil))) (by intro _; rfl))) (pw_or1 (pt_not (pt_val (pe_callB (call_isX hz hf) (by rfl) T.n_isinstance (by decide +kernel) (pa_cons (pv 1) (pa_cons (pe_bltn (v := .ty "ValueError") (by rfl) T.n_ValueError (by decide +kernel) rfl) pa_nil))) (by intro _; rfl)))))) (pss_one (ps_ret pe_bl)) pss_nil)
        (pss_one (ps_ret (pe_and (pe_cmpR (op_eqDK K hr.units) (pe_xf T.xf_BadSpan T.x_BadSpan.noS hz hf (pv 1)) (pv 0) (nomark _)) (pe_and (pe_not (pe_callB (call_isX hz hf) (by rfl) T.n_isinstance (by decide +kernel) (pa_cons (pv 1) (pa_cons (pe_glob (v := .ref A.c_BadHour) rfl T.g_BadHour rfl) pa_nil)))) (pe_one (pe_not (pe_callB (call_isX hz hf) (by rfl) T.n_isinstance (by decide +kernel) (pa_cons (pv 1) (pa_cons (pe_glob (v := .ref A.c_BadAmounts) rfl T.g_BadAmounts rfl) pa_nil))))))))))))
        (pss_one (ps_ret pe_bl))), ?_⟩
    refine ⟨_, rfl, t, _, 0, _, rfl, rfl, (SqT.of hT), rfl, _, rfl, t, _, 1, _, rfl, rfl, (SqT.of hT), rfl, fun x dx hx hd hne => ⟨x, dx, a, b, rfl, upd_same, fun c => absurd c hn, fun _ t2 d H' sm e1 e2 => ?_⟩⟩
    have sm' : Same H H' := ((same_new hd).trans (same_new (by rw [upd_ne hne.symm]; exact hx))).trans sm
    refine ⟨true, T.xm_BadSpan, fun _ ex hex => ?_, fun q => nomatch q⟩
    refine ⟨_, rfl, _, _, true, _, d, _, rfl, (fun u r => r), rfl, T.xc_BadSpan, rfl, e2, T.kt_BadSpan_BadSpan, true, rfl, iteF ⟨_, rfl, _, _, true, _, d, _, rfl, (fun u r => r), rfl, T.xc_BadSpan, rfl, e2, T.kt_BadSpan_ValueError, true, rfl, iteF ?_⟩⟩
    refine ⟨_, rfl, rfl, rfl, d, _, .ref t2, rfl, e2, by simp [List.lookup], _, rfl, _, _, dp2 (SqT.of e1), dp2 (SqT.of (sm' _ _ hT)), rfl, rfl, ?_⟩
    rw [eqv2]
    refine ⟨true, rfl, iteT ⟨_, rfl, _, _, false, _, d, _, rfl, (fun u r => r), rfl, T.xc_BadSpan, rfl, e2, T.kt_BadSpan_BadHour, false, rfl, _, rfl, iteT ⟨_, rfl, _, _, false, _, d, _, rfl, (fun u r => r), rfl, T.xc_BadSpan, rfl, e2, T.kt_BadSpan_BadAmounts, false, rfl, ?_⟩⟩⟩
    exact k H' sm'
theorem ok_earlier (T : Txt K mg A) : FnOk P w K mg base CX0 6 A.f_earlier A.d_earlier ["_law_span", "_law_ends_here", "_law_many", "_law_hours"] (spEarly K A) := by
  refine T.F_earlier.ok sc_earlier (fun vs H Q E h => ?_) (fun cdv Ar outer s H vs Q E hr h => ?_)
  · obtain ⟨x, t, l, a, b, n, ns, rfl, _⟩ := h
    rfl
  · obtain ⟨x, t, l, a, b, n, ns, rfl, hX, hab, hT, hL, k⟩ := h
    refine ⟨_, (pss_cons (ps_set (i := 4) sc_earlier.nd rfl (Or.inl rfl) (pe_tup (pa_cons (pe_op op_sub (pe_ix (ix_tupK K) (pv 1) pe_int (fun _ _ => rfl)) (pv 2)) (pa_cons (pe_op op_sub (pe_ix (ix_tupK K) (pv 1) pe_int (fun _ _ => rfl)) (pv 2)) pa_nil))))
        (pss_cons (ps_try_as (i := 6) rfl rfl sc_earlier.nd rfl rfl ⟨rfl, by decide, Or.inl T.g_GangError⟩ takes0 (fun W pn xe tk _ => (pss_one (ps_set (i := 5) sc_earlier.nd rfl (Or.inl rfl) (pe_opS T.me_Span_lshift T.sf_Span T.i_Span_lshift (ok_Span_lshift T) (hr.mono (by decide)) T.b_Span_lshift (fun σ => passAt tk σ) (pv 0) (pv 2))))) (fun a oe cls d pn hz hf => (pss_one (ps_ret (pe_and (pe_cmpR op_lt (pe_ix (ix_tupK K) (pv 4) pe_int (fun _ _ => rfl)) pe_int (nomark _)) (pe_and (pe_callB (call_isX hz hf) (by rfl) T.n_isinstance (by decide +kernel) (pa_cons (pv 6) (pa_cons (pe_glob (v := .ref A.c_BadSpan) rfl T.g_BadSpan rfl) pa_nil))) (pe_and (pe_not (pe_callB (call_isX hz hf) (by rfl) T.n_isinstance (by decide +kernel) (pa_cons (pv 6) (pa_cons (pe_glob (v := .ref A.c_BadHour) rfl T.g_BadHour rfl) pa_nil)))) (pe_one (pe_cmpR (op_eqDK K hr.units) (pe_xf T.xf_BadSpan T.x_BadSpan.noS hz hf (pv 6)) (pv 4) (nomark _))))))))))
        (pss_one (ps_ret (pe_and (pe_cmpR op_ge (pe_ix (ix_tupK K) (pv 4) pe_int (fun _ _ => rfl)) pe_int (nomark _)) (pe_one (pe_call (ok_is T) (hr.mono (by decide)) rfl T.g_is T.F_is.kp T.b_is .nil pass0 (pa_cons (pv 5) (pa_cons (pv 4) (pa_cons (pv 3) pa_nil)))))))))), ?_⟩
    refine ⟨_, rfl, t, _, 0, _, rfl, rfl, hT, rfl, _, rfl, _, _, rfl, rfl, _, rfl, t, _, 1, _, rfl, rfl, hT, rfl, _, rfl, _, _, rfl, rfl, (by show 2 ≤ sizeLine; decide), fun q hq => ?_⟩
    have s0 : Same H (upd H q (.tup [.int (a - n), .int (b - n)])) := same_new hq
    have hq' : (upd H q (.tup [.int (a - n), .int (b - n)])) q = some (.tup [.int (a - n), .int (b - n)]) := upd_same
    obtain ⟨dx, ho⟩ := hX.mono s0
    refine ⟨_, rfl, _, rfl, x, dx, _, rfl, ho, .inr ⟨n, rfl⟩, ⟨x, a, b, n, rfl, ⟨dx, ho⟩, hab, fun c y H1 sm hy => ?_, fun c t2 d H' sm e1 e2 => ?_⟩⟩
    · refine ⟨_, rfl, q, _, 0, _, rfl, rfl, SqT.of (sm _ _ hq'), rfl, _, _, rfl, rfl, _, rfl, ?_⟩
      refine iteD (fun _ => ?_) (fun z => absurd c z)
      exact ⟨_, rfl, _, rfl, _, rfl, y, q, l, a - n, b - n, ns, rfl, hy, by omega, SqT.of (sm _ _ hq'), sm.seq (s0.seq hL), fun H' s' => k H' (s0.trans (sm.trans s'))⟩
    · refine ⟨true, T.xm_BadSpan, fun _ ex hex => ?_, fun q => nomatch q⟩
      refine ⟨_, rfl, q, _, 0, _, rfl, rfl, SqT.of (sm _ _ hq'), rfl, _, _, rfl, rfl, _, rfl, ?_⟩
      refine iteD (fun _ => ?_) (fun z => absurd c z)
      refine ⟨_, rfl, _, _, true, _, d, _, rfl, (fun u r => r), rfl, T.xc_BadSpan, rfl, e2, T.kt_BadSpan_BadSpan, true, rfl, iteT ⟨_, rfl, _, _, false, _, d, _, rfl, (fun u r => r), rfl, T.xc_BadSpan, rfl, e2, T.kt_BadSpan_BadHour, false, rfl, _, rfl, iteT ⟨_, rfl, rfl, rfl, d, _, .ref t2, rfl, e2, by simp [List.lookup], _, rfl, _, _, dp2 (SqT.of e1), dp2 (SqT.of (sm _ _ hq')), rfl, rfl, ?_⟩⟩⟩
      rw [eqv2]
      exact k H' (s0.trans sm)
theorem ok_both (T : Txt K mg A) : FnOk P w K mg base CX0 7 A.f_both A.d_both ["_law_one", "_law_a", "_law_other", "_law_b", "_law_hours"] (spBoth K A) := by
  refine T.F_both.ok sc_both (fun vs H Q E h => ?_) (fun cdv Ar outer s H vs Q E hr h => ?_)
  · obtain ⟨x, t, y, u, l, a, b, c, d, ns, rfl, _⟩ := h
    rfl
  · obtain ⟨x, t, y, u, l, a, b, c, d, ns, rfl, hX, hY, h0, h1, h2, h3, hT, hU, hL, k⟩ := h
    refine ⟨_, (pss_cons (ps_set (i := 5) sc_both.nd rfl (Or.inl rfl) (pe_callB (call_max2 rfl) (by rfl) T.n_max (by decide +kernel) (pa_cons (pe_ix (ix_tupK K) (pv 1) pe_int (fun _ _ => rfl)) (pa_cons (pe_ix (ix_tupK K) (pv 3) pe_int (fun _ _ => rfl)) pa_nil))))
        (pss_cons (ps_set (i := 6) sc_both.nd rfl (Or.inl rfl) (pe_and (pe_call (ok_has T) (hr.mono (by decide)) rfl T.g_has T.F_has.kp T.b_has .nil pass0 (pa_cons (pv 1) (pa_cons (pv 5) pa_nil))) (pe_one (pe_call (ok_has T) (hr.mono (by decide)) rfl T.g_has T.F_has.kp T.b_has .nil pass0 (pa_cons (pv 3) (pa_cons (pv 5) pa_nil))))))
        (pss_cons (ps_if (pt_not (pt_val (pe_call (ok_is T) (hr.mono (by decide)) rfl T.g_is T.F_is.kp T.b_is .nil pass0 (pa_cons (pe_op (op_own T.me_Span_and T.sf_Span (ok_Span_and T) (hr.mono (by decide)) T.b_Span_and pass0) (pv 0) (pv 2)) (pa_cons (pe_tup (pa_cons (pv 5) (pa_cons (pe_callB (call_max2 rfl) (by rfl) T.n_max (by decide +kernel) (pa_cons (pv 5) (pa_cons (pe_callB (call_min2 rfl) (by rfl) T.n_min (by decide +kernel) (pa_cons (pe_ix (ix_tupK K) (pv 1) pe_int (fun _ _ => rfl)) (pa_cons (pe_ix (ix_tupK K) (pv 3) pe_int (fun _ _ => rfl)) pa_nil))) pa_nil))) pa_nil))) (pa_cons (pv 4) pa_nil)))) (by intro _; rfl))) (pss_one (ps_ret pe_bl)) pss_nil)
        (pss_cons (ps_if (pt_not (pt_val (pe_call (ok_is T) (hr.mono (by decide)) rfl T.g_is T.F_is.kp T.b_is .nil pass0 (pa_cons (pe_op (op_own T.me_Span_or T.sf_Span (ok_Span_or T) (hr.mono (by decide)) T.b_Span_or pass0) (pv 0) (pv 2)) (pa_cons (pe_tup (pa_cons (pe_callB (call_min2 rfl) (by rfl) T.n_min (by decide +kernel) (pa_cons (pe_ix (ix_tupK K) (pv 1) pe_int (fun _ _ => rfl)) (pa_cons (pe_ix (ix_tupK K) (pv 3) pe_int (fun _ _ => rfl)) pa_nil))) (pa_cons (pe_callB (call_max2 rfl) (by rfl) T.n_max (by decide +kernel) (pa_cons (pe_ix (ix_tupK K) (pv 1) pe_int (fun _ _ => rfl)) (pa_cons (pe_ix (ix_tupK K) (pv 3) pe_int (fun _ _ => rfl)) pa_nil))) pa_nil))) (pa_cons (pv 4) pa_nil)))) (by intro _; rfl))) (pss_one (ps_ret pe_bl)) pss_nil)
        (pss_cons (ps_set (i := 7) sc_both.nd rfl (Or.inl rfl) (pe_op (op_own T.me_Span_xor T.sf_Span (ok_Span_xor T) (hr.mono (by decide)) T.b_Span_xor pass0) (pv 0) (pv 2)))
        (pss_one (ps_ret (pe_and (pe_callB (call_isiK' K) (by rfl) T.n_isinstance (by decide +kernel) (pa_cons (pv 7) (pa_cons (pe_bltn (v := .ty "bool") (by rfl) T.n_bool (by decide +kernel) rfl) pa_nil))) (pe_and (pe_cmpR op_eq (pv 7) (pv 6) (nomark _)) (pe_one (pe_cmpR op_eq (pe_callTy call_bool1 (by rfl) T.n_bool (by decide +kernel) (pa_cons (pe_cmpR (op_eqOwn T.me_Span_eq (ok_Span_eq T) (hr.mono (by decide)) T.b_Span_eq pass0) (pv 0) (pv 2) (nomark _)) pa_nil)) (pe_cmpR (op_eqDK K hr.units) (pv 1) (pv 3) (nomark _)) (nomark _)))))))))))), ?_⟩
    obtain ⟨dx, hx⟩ := id hX
    obtain ⟨dy, hy⟩ := id hY
    refine ⟨_, rfl, t, _, 0, _, rfl, rfl, (SqT.of hT), rfl, _, rfl, u, _, 0, _, rfl, rfl, (SqT.of hU), rfl, _, _, rfl, ?_⟩
    refine ⟨_, rfl, _, rfl, t, a, b, mx a c, rfl, SqT.of hT, _, rfl, andV_two (q := c ≤ mx a c ∧ mx a c < d) (fun z => ⟨_, rfl, _, rfl, u, c, d, mx a c, rfl, SqT.of hU, z⟩) ?_⟩
    refine ⟨_, rfl, _, rfl, x, dx, _, y, dy, _, rfl, hx, rfl, hy, ⟨x, y, a, b, c, d, rfl, hX, hY, h0, fun z H1 s1 hz => ⟨_, rfl, _, rfl, _, rfl, t, _, 1, _, rfl, rfl, (SqT.of (s1 _ _ hT)), rfl, _, rfl, u, _, 1, _, rfl, rfl, (SqT.of (s1 _ _ hU)), rfl, _, _, rfl, _, _, rfl, (by show 2 ≤ sizeLine; decide), fun q hq => ⟨_, rfl, z, q, l, mx a c, mx (mx a c) (mn b d), ns, rfl, hz.mono (same_new hq), ?_, SqT.of upd_same, (s1.trans (same_new hq)).seq hL, fun H2 s2 => ⟨true, rfl, iteF ?_⟩⟩⟩⟩⟩
    · show mx a c ≤ mx (mx a c) (mn b d)
      exact le_mx _ _
    have s : Same H H2 := s1.trans ((same_new hq).trans s2)
    obtain ⟨dx1, hx1⟩ := hX.mono s
    obtain ⟨dy1, hy1⟩ := hY.mono s
    refine ⟨_, rfl, _, rfl, x, dx1, _, y, dy1, _, rfl, hx1, rfl, hy1, ⟨x, y, a, b, c, d, rfl, hX.mono s, hY.mono s, h0, h2, h1, fun z3 H3 s3 hz3 => ⟨_, rfl, t, _, 0, _, rfl, rfl, (SqT.of ((s.trans s3) _ _ hT)), rfl, _, rfl, u, _, 0, _, rfl, rfl, (SqT.of ((s.trans s3) _ _ hU)), rfl, _, _, rfl, _, rfl, t, _, 1, _, rfl, rfl, (SqT.of ((s.trans s3) _ _ hT)), rfl, _, rfl, u, _, 1, _, rfl, rfl, (SqT.of ((s.trans s3) _ _ hU)), rfl, _, _, rfl, (by show 2 ≤ sizeLine; decide), fun q3 hq3 => ⟨_, rfl, z3, q3, l, mn a c, mx b d, ns, rfl, hz3.mono (same_new hq3), ?_, SqT.of upd_same, (s.trans (s3.trans (same_new hq3))).seq hL, fun H4 s4 => ⟨true, rfl, iteF ?_⟩⟩⟩⟩⟩
    · unfold mn mx; split <;> split <;> omega
    have s' : Same H H4 := s.trans (s3.trans ((same_new hq3).trans s4))
    obtain ⟨dx2, hx2⟩ := hX.mono s'
    obtain ⟨dy2, hy2⟩ := hY.mono s'
    refine ⟨_, rfl, _, rfl, x, dx2, _, y, dy2, _, rfl, hx2, rfl, hy2, ⟨x, y, a, b, c, d, rfl, hX.mono s', hY.mono s', h0, fun H5 s5 => ?_⟩⟩
    have t' : Same H H5 := s'.trans s5
    obtain ⟨dx3, hx3⟩ := hX.mono t'
    obtain ⟨dy3, hy3⟩ := hY.mono t'
    refine ⟨_, rfl, _, _, _, _, true, rfl, .ty _, .base (.bl _), kit_ty (by decide +kernel), true, rfl, iteT ⟨_, rfl, _, rfl, rfl, _, rfl, ?_⟩⟩
    refine iteD (fun _ => ?_) (fun z => absurd (congrArg V.bl (common_eq a b c d h1 h3)) z)
    refine ⟨_, rfl, _, rfl, x, dx3, _, _, rfl, hx3, .base (.ins hy3 T.cl_Span T.k1_Span T.kg T.kt T.k4_Span), notFirst_self, ⟨x, y, a, b, c, d, rfl, hX.mono t', hY.mono t', .inr ⟨_, rfl, _, rfl, _, rfl, _, _, dp2 (SqT.of (t' _ _ hT)), dp2 (SqT.of (t' _ _ hU)), rfl, rfl, rfl, ?_⟩⟩⟩
    rw [eqv22, decide_eq_true rfl]
    exact k H5 t'
theorem ok_law (T : Txt K mg A) : FnOk P w K mg base CX0 8 A.f_law A.d_law ["_law_script"] (spLaw K) := by
  refine T.F_law.ok sc_law (fun vs H Q E h => ?_) (fun cdv Ar outer s H vs Q E hr h => ?_)
  · obtain ⟨sc, ns, rfl, _⟩ := h
    rfl
  · obtain ⟨sc, ns, rfl, hS, hl, hb, k⟩ := h
    refine ⟨_, (pss_cons (ps_set (i := 1) sc_law.nd rfl (Or.inr rfl) (pe_call (ok_pool T) (hr.mono (by decide)) rfl T.g_pool T.F_pool.kp T.b_pool .nil pass0 (pa_cons (pv 0) pa_nil)))
        (pss_cons (ps_setLc (i := 2) (own := [("_law_k", 16)]) (g := gName 16) (tt := tYes) rfl sc_law.nd rfl rfl (sw_true rfl rfl rfl (by decide +kernel)) (pi_range1 rfl T.n_range (pa_cons pe_int pa_nil)) (blkOk_by (N := ["_law_script", "_law_pool_here", "_law_rows", "_law_many", "_law_spans", "_law_hours", "_law_start", "_law_end", "_law_turn", "_law_at", "_law_one", "_law_a", "_law_by", "_law_late", "_law_early", "_law_pair", "_law_k", "_law_ends_here"]) (sc := defScope s_law) (by decide +kernel)) (fun _ _ _ _ _ => (pg_name (i := 16) sc_law.nd rfl (Or.inl rfl))) (fun _ _ _ _ _ => pts_nil) (fun _ _ _ _ _ => (pe_call (ok_ends T) (hr.mono (by decide)) rfl T.g_ends T.F_ends.kp T.b_ends .nil pass0 (pa_cons (pv 1) pa_nil))))
        (pss_cons (ps_set (i := 3) sc_law.nd rfl (Or.inl rfl) (pe_call (ok_hour T) (hr.mono (by decide)) rfl T.g_hour T.F_hour.kp T.b_hour .nil pass0 (pa_cons (pv 1) (pa_cons (pe_call (ok_draw T) (hr.mono (by decide)) rfl T.g_draw T.F_draw.kp T.b_draw .nil pass0 (pa_cons (pv 1) (pa_cons pe_int pa_nil))) pa_nil))))
        (pss_cons (ps_setLc (i := 4) (own := [("_law_ends_here", 17)]) (g := gName 17) (tt := tYes) rfl sc_law.nd rfl rfl (sw_true rfl rfl rfl (by decide +kernel)) (pi_listK K (pv 2)) (blkOk_by (N := ["_law_script", "_law_pool_here", "_law_rows", "_law_many", "_law_spans", "_law_hours", "_law_start", "_law_end", "_law_turn", "_law_at", "_law_one", "_law_a", "_law_by", "_law_late", "_law_early", "_law_pair", "_law_k", "_law_ends_here"]) (sc := defScope s_law) (by decide +kernel)) (fun _ _ _ _ _ => (pg_name (i := 17) sc_law.nd rfl (Or.inl rfl))) (fun _ _ _ _ _ => pts_nil) (fun _ _ _ _ _ => (pe_make T.mk_Span (ok_Span_init T) (hr.mono (by decide)) rfl T.g_Span T.b_Span_init .nil passL (pa_cons (pe_ix (ix_tupK K) (pv 17) pe_int (fun _ _ => rfl)) (pa_cons (pe_ix (ix_tupK K) (pv 17) pe_int (fun _ _ => rfl)) pa_nil)))))
        (pss_cons (ps_set (i := 5) sc_law.nd rfl (Or.inl rfl) (pe_listRg rfl (by rfl) T.n_list (prg_2 (by rfl) T.n_range (pe_un un_neg pe_int) pe_int)))
        (pss_cons (ps_for PassesOwn.never rfl (pi_listK K (pv 2)) (pg_tup rfl (pgs_cons (pg_name (i := 6) sc_law.nd rfl (Or.inl rfl)) (pgs_cons (pg_name (i := 7) sc_law.nd rfl (Or.inl rfl)) pgs_nil)))
        (pss_one (ps_set (i := 5) sc_law.nd rfl (Or.inl rfl) (pe_op op_cat (pv 5) (pe_lst (pa_cons (pe_op op_sub (pv 6) pe_int) (pa_cons (pv 6) (pa_cons (pe_op op_sub (pv 7) pe_int) (pa_cons (pv 7) pa_nil)))))))))
        (pss_cons (ps_for PassesOwn.never rfl (pi_range1 rfl T.n_range (pa_cons pe_int pa_nil)) (pg_name (i := 8) sc_law.nd rfl (Or.inl rfl))
        (pss_one (ps_for PassesOwn.never rfl (pi_range1 rfl T.n_range (pa_cons pe_int pa_nil)) (pg_name (i := 9) sc_law.nd rfl (Or.inl rfl))
        (pss_cons (ps_set (i := 10) sc_law.nd rfl (Or.inl rfl) (pe_ix (ix_listK K) (pv 4) (pv 9) (fun _ _ => rfl)))
        (pss_cons (ps_set (i := 11) sc_law.nd rfl (Or.inl rfl) (pe_ix (ix_listK K) (pv 2) (pv 9) (fun _ _ => rfl)))
        (pss_cons (ps_if (PW.pt (pw_or (pt_not (pt_val (pe_call (ok_is T) (hr.mono (by decide)) rfl T.g_is T.F_is.kp T.b_is .nil pass0 (pa_cons (pv 10) (pa_cons (pv 11) (pa_cons (pv 5) pa_nil)))) (by intro _; rfl))) (pw_or1 (pt_not (pt_val (pe_callTy call_bool1 (by rfl) T.n_bool (by decide +kernel) (pa_cons (pe_cmpR (op_eqOwn T.me_Span_eq (ok_Span_eq T) (hr.mono (by decide)) T.b_Span_eq pass0) (pv 10) (pe_make T.mk_Span (ok_Span_init T) (hr.mono (by decide)) rfl T.g_Span T.b_Span_init .nil passL (pa_cons (pe_ix (ix_tupK K) (pv 11) pe_int (fun _ _ => rfl)) (pa_cons (pe_ix (ix_tupK K) (pv 11) pe_int (fun _ _ => rfl)) pa_nil))) (nomark _)) pa_nil)) (by intro _; rfl)))))) (pss_one (ps_ret pe_bl)) pss_nil)
        (pss_cons (ps_for PassesOwn.never rfl (pi_range1 rfl T.n_range (pa_cons pe_int pa_nil)) (pg_name (i := 12) sc_law.nd rfl (Or.inl rfl))
        (pss_one (ps_if (pt_not (pt_val (pe_call (ok_both T) (hr.mono (by decide)) rfl T.g_both T.F_both.kp T.b_both .nil pass0 (pa_cons (pv 10) (pa_cons (pv 11) (pa_cons (pe_ix (ix_listK K) (pv 4) (pv 12) (fun _ _ => rfl)) (pa_cons (pe_ix (ix_listK K) (pv 2) (pv 12) (fun _ _ => rfl)) (pa_cons (pv 5) pa_nil)))))) (by intro _; rfl))) (pss_one (ps_ret pe_bl)) pss_nil)))
        (pss_cons (ps_set (i := 13) sc_law.nd rfl (Or.inl rfl) (pe_callB (call_min2 rfl) (by rfl) T.n_min (by decide +kernel) (pa_cons (pv 3) (pa_cons (pe_op op_sub pe_int (pe_ix (ix_tupK K) (pv 11) pe_int (fun _ _ => rfl))) pa_nil))))
        (pss_cons (ps_if (pt_not (pt_val (pe_call (ok_is T) (hr.mono (by decide)) rfl T.g_is T.F_is.kp T.b_is .nil pass0 (pa_cons (pe_op (op_ownI T.me_Span_rshift T.sf_Span T.i_Span_rshift (ok_Span_rshift T) (hr.mono (by decide)) T.b_Span_rshift pass0) (pv 10) (pv 13)) (pa_cons (pe_tup (pa_cons (pe_op op_add (pe_ix (ix_tupK K) (pv 11) pe_int (fun _ _ => rfl)) (pv 13)) (pa_cons (pe_op op_add (pe_ix (ix_tupK K) (pv 11) pe_int (fun _ _ => rfl)) (pv 13)) pa_nil))) (pa_cons (pv 5) pa_nil)))) (by intro _; rfl))) (pss_one (ps_ret pe_bl)) pss_nil)
        (pss_cons (ps_for PassesOwn.never rfl (pi_tupK K (pe_tup (pa_cons (pv 3) (pa_cons (pe_ix (ix_tupK K) (pv 11) pe_int (fun _ _ => rfl)) (pa_cons (pe_callB (call_min2 rfl) (by rfl) T.n_min (by decide +kernel) (pa_cons (pe_op op_add (pe_ix (ix_tupK K) (pv 11) pe_int (fun _ _ => rfl)) pe_int) (pa_cons pe_int pa_nil))) (pa_cons pe_int pa_nil)))))) (pg_name (i := 14) sc_law.nd rfl (Or.inl rfl))
        (pss_one (ps_if (pt_not (pt_val (pe_call (ok_earlier T) (hr.mono (by decide)) rfl T.g_earlier T.F_earlier.kp T.b_earlier .nil pass0 (pa_cons (pv 10) (pa_cons (pv 11) (pa_cons (pv 14) (pa_cons (pv 5) pa_nil))))) (by intro _; rfl))) (pss_one (ps_ret pe_bl)) pss_nil)))
        (pss_cons (ps_for PassesOwn.never rfl (pi_tupK K (pe_tup (pa_cons (pe_tup (pa_cons (pe_ix (ix_tupK K) (pv 11) pe_int (fun _ _ => rfl)) (pa_cons (pe_op op_sub (pe_ix (ix_tupK K) (pv 11) pe_int (fun _ _ => rfl)) pe_int) pa_nil))) (pa_cons (pe_tup (pa_cons (pe_un un_neg pe_int) (pa_cons (pe_ix (ix_tupK K) (pv 11) pe_int (fun _ _ => rfl)) pa_nil))) (pa_cons (pe_tup (pa_cons (pe_op op_sub (pe_un un_neg pe_int) (pv 3)) (pa_cons (pe_un un_neg pe_int) pa_nil))) pa_nil))))) (pg_name (i := 15) sc_law.nd rfl (Or.inl rfl))
        (pss_one (ps_if (pt_not (pt_val (pe_call (ok_refused T) (hr.mono (by decide)) rfl T.g_refused T.F_refused.kp T.b_refused .nil pass0 (pa_cons (pv 15) pa_nil)) (by intro _; rfl))) (pss_one (ps_ret pe_bl)) pss_nil)))
        (pss_one (ps_if (PW.pt (pw_and (pt_cmpR op_lt (pe_ix (ix_tupK K) (pv 11) pe_int (fun _ _ => rfl)) (pe_ix (ix_tupK K) (pv 11) pe_int (fun _ _ => rfl)) (nomark _)) (pw_and1 (pt_not (pt_val (pe_call (ok_refused T) (hr.mono (by decide)) rfl T.g_refused T.F_refused.kp T.b_refused .nil pass0 (pa_cons (pe_tup (pa_cons (pe_ix (ix_tupK K) (pv 11) pe_int (fun _ _ => rfl)) (pa_cons (pe_ix (ix_tupK K) (pv 11) pe_int (fun _ _ => rfl)) pa_nil))) pa_nil)) (by intro _; rfl)))))) (pss_one (ps_ret pe_bl)) pss_nil)))))))))))))
        (pss_one (ps_ret pe_bl))))))))), ?_⟩
    refine ⟨_, rfl, sc, ns, rfl, hS, hl, hb, fun p H1 hp P1 s1 => ?_⟩
    -- rows
    refine ⟨3, rfl, by decide, by decide, fun D hD => lc_range (lo := 0) (n := 3) (fun i H' => ∃ ts : List Addr, H' D = some (.lst (ts.map V.ref)) ∧ ts.length = i ∧ PoolAt H' p ∧ ∀ t ∈ ts, TupOk H' t)
      ⟨[], upd_same, rfl, P1.mono (same_new hD), fun t h => absurd h List.not_mem_nil⟩ ?_ ?_⟩
    · rintro i H' hi ⟨ts, hD', hlt, P2, hts⟩
      have hpD : D ≠ p := (P1.ne hD).symm
      refine ⟨rfl, ?_⟩
      refine ⟨_, rfl, p, rfl, P2, fun t a b H4 a0 ab b1 tp P4 s4 e4 => ⟨_, s4 D _ hpD hD', small1000 (by rw [List.length_map]; omega), ts ++ [t], ?_, by rw [List.length_append]; show ts.length + 1 = i + 1; omega, ?_, ?_⟩⟩
      · rw [upd_same, List.map_append]; rfl
      · obtain ⟨q1, q2, q3, q4, q5, e, l5, z5⟩ := P4
        exact .of (by rw [upd_ne hpD.symm]; exact e) l5 z5
      · intro t' ht'
        rcases List.mem_append.mp ht' with h | h
        · obtain ⟨a', b', c1, c2, c3, e⟩ := hts t' h
          have n1 : t' ≠ p := fun z => by obtain ⟨q1, q2, q3, q4, q5, e', _⟩ := P2; rw [z, e'] at e; cases e
          have n2 : t' ≠ D := fun z => by rw [z, hD'] at e; cases e
          exact ⟨a', b', c1, c2, c3, by rw [upd_ne n2]; exact s4 t' _ n1 e⟩
        · rw [List.mem_singleton.mp h]
          have n2 : t ≠ D := fun z => by rw [z, s4 D _ hpD hD'] at e4; cases e4
          exact ⟨a, b, a0, ab, b1, by rw [upd_ne n2]; exact e4⟩
    rintro H2 ⟨ts, hD2, hlt, P2, hts⟩
    -- many
    refine ⟨_, rfl, _, rfl, p, 6, rfl, P2, by decide, by decide, fun f H3 f0 f1 P3 s3 => ⟨p, f, rfl, P3, fun m H4 m0 m1 P4 s4 => ?_⟩⟩
    have hpD : D ≠ p := (P1.ne hD).symm
    have hD4 : H4 D = some (.lst (ts.map V.ref)) := s4 _ _ hpD (s3 _ _ hpD hD2)
    have hts4 : ∀ t ∈ ts, TupOk H4 t := fun t h => by
      obtain ⟨a', b', c1, c2, c3, e⟩ := hts t h
      have n1 : t ≠ p := fun z => by obtain ⟨q1, q2, q3, q4, q5, e', _⟩ := P2; rw [z, e'] at e; cases e
      exact ⟨a', b', c1, c2, c3, s4 _ _ n1 (s3 _ _ n1 e)⟩
    clear hts hD2 P2 P3 s3 s4 P4 hpD
    -- spans
    refine ⟨_, rfl, D, rfl, ⟨_, SqL.of hD4⟩, fun S hS' => lc_list (K := K) (a := D) (xs := ts.map V.ref) (fun i H' => ∃ xs : List Addr, H' S = some (.lst (xs.map V.ref)) ∧ xs.length = i ∧ Same H4 H' ∧ ∀ j t x, j < i → ts[j]? = some t → xs[j]? = some x → ∃ a b, Good A H' t x a b)
      ⟨[], upd_same, rfl, same_new hS', fun j t x h => absurd h (Nat.not_lt_zero _)⟩ (fun i H' _ ⟨_, _, _, s, _⟩ => SqL.of (s _ _ hD4)) ?_ ?_⟩
    · rintro i y H' hy ⟨xs, hS2, hlx, s5, hok⟩
      obtain ⟨t, ht, rfl⟩ := getMapR hy
      have hi3 : i < ts.length := (List.getElem?_eq_some_iff.mp ht).1
      obtain ⟨a, b, a0, ab, b1, e⟩ := hts4 t (List.mem_of_getElem? ht)
      have e5 := s5 _ _ e
      refine ⟨rfl, ?_⟩
      refine ⟨_, rfl, t, _, 0, _, rfl, rfl, (SqT.of e5), rfl, _, rfl, t, _, 1, _, rfl, rfl, (SqT.of e5), rfl, ?_⟩
      intro x dz hxn hdn hne
      refine ⟨x, dz, a, b, rfl, upd_same, fun _ => ⟨rfl, ?_⟩, fun c => absurd ⟨a0, ab⟩ c⟩
      have s6 := span_same (A := A) (s := a) (e := b) hxn hdn hne
      have hx : SpanAt A (upd (upd (upd H' dz (.own x)) x (.ins A.c_Span dz [])) x (.ins A.c_Span dz (flds a b))) x a b := ⟨dz, upd_same⟩
      generalize upd (upd (upd H' dz (.own x)) x (.ins A.c_Span dz [])) x (.ins A.c_Span dz (flds a b)) = H6 at s6 hx ⊢
      refine ⟨_, s6 _ _ hS2, small1000 (by rw [List.length_map]; omega), xs ++ [x], ?_, by rw [List.length_append]; show xs.length + 1 = i + 1; omega, ?_, ?_⟩
      · rw [upd_same, List.map_append]; rfl
      · intro b' o h'
        have n1 : b' ≠ S := ne_of_none h' hS'
        rw [upd_ne n1]; exact s6 _ _ (s5 _ _ h')
      · have up : Same H4 H6 := s5.trans s6
        have keep : ∀ {y : V} {t x : Addr} {a b : Int}, Good A H6 t x a b → Good A (upd H6 S (.lst ((xs.map V.ref) ++ [y]))) t x a b := by
          intro y t x a b g
          obtain ⟨dx, hx'⟩ := g.2.1
          have n1 : t ≠ S := fun z => by have := g.1; rw [z, s6 _ _ hS2] at this; cases this
          have n2 : x ≠ S := fun z => by rw [z, s6 _ _ hS2] at hx'; cases hx'
          exact ⟨by rw [upd_ne n1]; exact g.1, ⟨dx, by rw [upd_ne n2]; exact hx'⟩, g.2.2⟩
        intro j t' x' hj h1 h2
        by_cases hji : j < i
        · rw [List.getElem?_append_left (by omega)] at h2
          obtain ⟨a', b', g⟩ := hok j t' x' hji h1 h2
          exact ⟨a', b', keep (g.mono s6)⟩
        · have hj' : j = xs.length := by omega
          rw [hj', List.getElem?_append_right (Nat.le_refl _), Nat.sub_self] at h2
          have hx' : x = x' := Option.some.inj h2
          have ht' : t = t' := by rw [hj', hlx, ht] at h1; exact Option.some.inj h1
          subst hx' ht'
          exact ⟨a, b, keep ⟨s6 _ _ e5, hx, a0, ab, b1⟩⟩
    rintro H5 ⟨xs, hS5, hlx, s5, hok⟩
    rw [List.length_map, hlt] at hlx hok
    have sit5 : Sit A H5 D S ts xs := ⟨s5 _ _ hD4, hS5, hlt, hlx, fun j t x h1 h2 => hok j t x (by have := (List.getElem?_eq_some_iff.mp h1).1; omega) h1 h2⟩
    -- hours
    refine ⟨_, rfl, _, _, rfl, rfl, ⟨by decide, by decide, by decide, by decide, by decide⟩, fun L0 hL0 => ?_⟩
    rw [rg_map]
    generalize hns : ((List.range (14 - -1 : Int).toNat).map fun i => (-1 + (i : Nat) : Int)) = ns0
    have hln : ns0.length = 15 := by rw [← hns]; rfl
    refine ⟨_, rfl, D, rfl, ⟨_, SqL.of (same_new hL0 _ _ sit5.r)⟩, for_list (K := K) (a := D) (xs := ts.map V.ref) (fun i σ H' => ∃ (L : Addr) (hs : List Int) (v6 v7 v8 v9 v10 v11 v12 v13 v14 v15 v16 v17 : Option V), σ = [some (.ref sc), some (.ref p), some (.ref D), some (.int m), some (.ref S), some (.ref L), v6, v7, v8, v9, v10, v11, v12, v13, v14, v15, v16, v17] ∧ Same H5 H' ∧ H' L = some (.lst (hs.map V.int)) ∧ hs.length ≤ 15 + 4 * i)
      ⟨L0, ns0, none, none, none, none, none, none, none, none, none, none, none, none, rfl, same_new hL0, upd_same, by omega⟩ (fun i σ H' _ ⟨_, _, _, _, _, _, _, _, _, _, _, _, _, _, _, s, _⟩ => SqL.of (s _ _ sit5.r)) ?_ ?_⟩
    · rintro i y σ H' hy ⟨L, hs, v6, v7, v8, v9, v10, v11, v12, v13, v14, v15, v16, v17, rfl, s6, hL, hll⟩
      obtain ⟨t, ht, rfl⟩ := getMapR hy
      have hi3 : i < ts.length := (List.getElem?_eq_some_iff.mp ht).1
      obtain ⟨a, b, _, _, _, e⟩ := hts4 t (List.mem_of_getElem? ht)
      have e6 := s6 _ _ (s5 _ _ e)
      refine ⟨t, _, rfl, SqT.of e6, rfl, _, _, rfl, _, _, rfl, rfl, ?_⟩
      refine ⟨_, rfl, _, rfl, _, _, rfl, rfl, _, rfl, _, rfl, _, _, rfl, rfl, _, rfl, (by show 4 ≤ sizeLine; decide), fun l hl' => ?_⟩
      refine ⟨L, l, _, _, rfl, rfl, same_new hl' _ _ hL, upd_same, Nat.le_of_lt (small1000 (by rw [List.length_map]; show hs.length + 4 ≤ 1000; omega)), fun l2 hl2 => ?_⟩
      exact ⟨l2, hs ++ [a - 1, a, b - 1, b], _, _, _, _, _, _, _, _, _, _, _, _, rfl, s6.trans ((same_new hl').trans (same_new hl2)), by rw [upd_same, List.map_append]; rfl, by rw [List.length_append]; show hs.length + 4 ≤ _; omega⟩
    rintro σ H8 ⟨L, hs, v6, v7, v8, v9, v10, v11, v12, v13, v14, v15, v16, v17, rfl, s8, hL, _⟩
    have sit := sit5.mono s8
    clear s8 sit5 hok hS5 hts4 hD4 s5
    refine ⟨2, rfl, by decide, by decide, for_range (lo := 0) (n := 2) (fun i σ H9 => ∃ (v6 v7 v8 v9 v10 v11 v12 v13 v14 v15 v16 v17 : Option V), σ = [some (.ref sc), some (.ref p), some (.ref D), some (.int m), some (.ref S), some (.ref L), v6, v7, v8, v9, v10, v11, v12, v13, v14, v15, v16, v17] ∧ Same H8 H9) ⟨_, _, _, _, _, _, _, _, _, _, _, _, rfl, Same.refl _⟩ ?_ ?_⟩
    · rintro i1 σ H9 hi1 ⟨v6, v7, v8, v9, v10, v11, v12, v13, v14, v15, v16, v17, rfl, s9⟩
      refine ⟨3, rfl, by decide, by decide, for_range (lo := 0) (n := 3) (fun i σ H9 => ∃ (v6 v7 v8 v9 v10 v11 v12 v13 v14 v15 v16 v17 : Option V), σ = [some (.ref sc), some (.ref p), some (.ref D), some (.int m), some (.ref S), some (.ref L), v6, v7, v8, v9, v10, v11, v12, v13, v14, v15, v16, v17] ∧ Same H8 H9) ⟨_, _, _, _, _, _, _, _, _, _, _, _, rfl, s9⟩ ?_ ?_⟩
      · clear s9 H9
        rintro i2 σ H9 hi2 ⟨v6, v7, v8, v9, v10, v11, v12, v13, v14, v15, v16, v17, rfl, s9⟩
        have sit9 := sit.mono s9
        obtain ⟨t, x, a, b, ax, at', g⟩ := sit9.get hi2
        have hL9 := s9 _ _ hL
        obtain ⟨hT, hX, a0, ab, b1⟩ := g
        obtain ⟨dx, hx⟩ := id hX
        refine ⟨_, rfl, _, rfl, S, _, _, _, rfl, rfl, SqL.of sit9.s, ax, ?_⟩
        refine ⟨_, rfl, _, rfl, D, _, _, _, rfl, rfl, SqL.of sit9.r, at', ?_⟩
        -- not is(one, a, hours) or not bool(one == Span(..))
        refine ⟨_, rfl, _, rfl, _, rfl, x, t, L, a, b, hs, rfl, hX, ab, SqT.of hT, SqL.of hL9, fun Ha sa => ⟨true, rfl, iteF ?_⟩⟩
        have hTa := sa _ _ hT
        obtain ⟨dxa, hxa⟩ := hX.mono sa
        refine ⟨_, rfl, _, rfl, t, _, 0, _, rfl, rfl, (SqT.of hTa), rfl, _, rfl, t, _, 1, _, rfl, rfl, (SqT.of hTa), rfl, ?_⟩
        intro x2 dz hxn hdn hne
        refine ⟨x2, dz, a, b, rfl, upd_same, fun _ => ⟨rfl, ?_⟩, fun c => absurd ⟨a0, ab⟩ c⟩
        have sb := span_same (A := A) (s := a) (e := b) hxn hdn hne
        have hx2 : SpanAt A (upd (upd (upd Ha dz (.own x2)) x2 (.ins A.c_Span dz [])) x2 (.ins A.c_Span dz (flds a b))) x2 a b := ⟨dz, upd_same⟩
        generalize upd (upd (upd Ha dz (.own x2)) x2 (.ins A.c_Span dz [])) x2 (.ins A.c_Span dz (flds a b)) = Hb at sb hx2 ⊢
        obtain ⟨dx2, hxb⟩ := id hx2
        have sab := sa.trans sb
        obtain ⟨dxb, hxbb⟩ := hX.mono sab
        refine ⟨x, dxb, _, _, rfl, hxbb, .base (.ins hxb T.cl_Span T.k1_Span T.kg T.kt T.k4_Span), notFirst_self, ⟨x, x2, a, b, a, b, rfl, hX.mono sab, hx2, .inr ⟨_, rfl, _, rfl, iteNS ⟨rfl, rfl⟩ ?_⟩⟩⟩
        have s10 : Same H8 Hb := s9.trans sab
        have hXb := hX.mono sab
        have hTb := sab _ _ hT
        clear sa hTa hxa sb hx2 hxb hxbb hx s9 sit9 hL9 hX hT
        -- for by in range(3)
        refine ⟨3, rfl, by decide, by decide, for_range (lo := 0) (n := 3) (fun i σ H9 => ∃ (v6 v7 v8 v9 v12 v13 v14 v15 v16 v17 : Option V), σ = [some (.ref sc), some (.ref p), some (.ref D), some (.int m), some (.ref S), some (.ref L), v6, v7, v8, v9, some (.ref x), some (.ref t), v12, v13, v14, v15, v16, v17] ∧ Same H8 H9 ∧ Same Hb H9)
          ⟨_, _, _, _, _, _, _, _, _, _, rfl, s10, Same.refl _⟩ ?_ ?_⟩
        · rintro i3 σ Hc hi3 ⟨v6, v7, v8, v9, v12, v13, v14, v15, v16, v17, rfl, sc1, sc2⟩
          have sitc := sit.mono sc1
          obtain ⟨u, y, c, d, ay, au, hU, hY, c0, cd, d1⟩ := sitc.get hi3
          refine ⟨_, rfl, _, rfl, _, rfl, _, rfl, S, _, _, _, rfl, rfl, SqL.of sitc.s, ay, _, rfl, _, rfl, D, _, _, _, rfl, rfl, SqL.of sitc.r, au, _, rfl, x, t, y, u, L, a, b, c, d, hs, rfl, hXb.mono sc2, hY, a0, ab, c0, cd, sc2 _ _ hTb, hU, SqL.of (sc1 _ _ hL), fun Hd sd => ⟨true, rfl, iteF ?_⟩⟩
          exact ⟨_, _, _, _, _, _, _, _, _, _, rfl, sc1.trans sd, sc2.trans sd⟩
        rintro σ Hc ⟨v6, v7, v8, v9, v12, v13, v14, v15, v16, v17, rfl, sc1, sc2⟩
        have hTc := sc2 _ _ hTb
        have hXc := hXb.mono sc2
        obtain ⟨dxc, hxc⟩ := id hXc
        -- late
        refine ⟨_, rfl, _, rfl, t, _, 1, _, rfl, rfl, (SqT.of hTc), rfl, _, _, rfl, rfl, _, _, rfl, ?_⟩
        have hlate : ∀ q : Int, q = (if 100000 - b < m then 100000 - b else m) → 0 ≤ q := fun q e => by split at e <;> omega
        refine ⟨_, rfl, _, rfl, x, dxc, _, _, rfl, hxc, rfl, ⟨x, a, b, _, rfl, hXc, a0, ab, hlate _ rfl, fun z Hd sd hz => ⟨_, rfl, t, _, 0, _, rfl, rfl, (SqT.of (sd _ _ hTc)), rfl, _, rfl, _, _, rfl, rfl, _, rfl, t, _, 1, _, rfl, rfl, (SqT.of (sd _ _ hTc)), rfl, _, rfl, _, _, rfl, rfl, (by show 2 ≤ sizeLine; decide), fun q hq => ⟨_, rfl, z, q, L, _, _, hs, rfl, hz.mono (same_new hq), by omega, SqT.of upd_same, SqL.of ((sc1.trans (sd.trans (same_new hq))) _ _ hL), fun He se => ⟨true, rfl, iteF ?_⟩⟩⟩⟩⟩
        have sce : Same Hc He := sd.trans ((same_new hq).trans se)
        have se1 := sc1.trans sce
        have hTe := sce _ _ hTc
        have hXe := hXc.mono sce
        generalize (if 100000 - b < m then 100000 - b else m) = late
        clear hlate sce se hz sd hxc hTc hXc sc1 sc2 hTb hXb s10 hq
        -- for early in (..)
        refine ⟨_, rfl, _, rfl, t, _, 0, _, rfl, rfl, (SqT.of hTe), rfl, _, rfl, t, _, 0, _, rfl, rfl, (SqT.of hTe), rfl, _, _, rfl, rfl, _, _, rfl, (by show 4 ≤ sizeLine; decide), fun T4 hT4 => ?_⟩
        refine ⟨T4, rfl, ⟨_, SqT.of upd_same⟩, for_tup (K := K) (a := T4) (xs := ([m, a, (if 100000 < a + 1 then 100000 else a + 1), 0] : List Int).map V.int) (fun i σ H9 => ∃ (v6 v7 v8 v9 v12 v13 v14 v15 v16 v17 : Option V), σ = [some (.ref sc), some (.ref p), some (.ref D), some (.int m), some (.ref S), some (.ref L), v6, v7, v8, v9, some (.ref x), some (.ref t), v12, v13, v14, v15, v16, v17] ∧ Same He H9 ∧ H9 T4 = some (.tup (([m, a, (if 100000 < a + 1 then 100000 else a + 1), 0] : List Int).map V.int)))
          ⟨_, _, _, _, _, _, _, _, _, _, rfl, same_new hT4, upd_same⟩ (fun i σ H9 _ ⟨_, _, _, _, _, _, _, _, _, _, _, _, h⟩ => SqT.of h) ?_ ?_⟩
        · rintro i3 y σ Hf hy ⟨v6, v7, v8, v9, v12, v13, v14, v15, v16, v17, rfl, sf, h4⟩
          obtain ⟨e, _, rfl⟩ := getMap hy
          refine ⟨_, rfl, _, rfl, _, rfl, _, rfl, x, t, L, a, b, e, hs, rfl, hXe.mono sf, ab, SqT.of (sf _ _ hTe), SqL.of ((se1.trans sf) _ _ hL), fun Hg sg => ⟨true, rfl, iteF ?_⟩⟩
          exact ⟨_, _, _, _, _, _, _, _, _, _, rfl, sf.trans sg, sg _ _ h4⟩
        rintro σ Hf ⟨v6, v7, v8, v9, v12, v13, v14, v15, v16, v17, rfl, sf, _⟩
        have sf1 := se1.trans sf
        have hTf := sf _ _ hTe
        have hXf := hXe.mono sf
        clear sf hTe hXe se1
        -- for pair in (..)
        refine ⟨_, rfl, t, _, 0, _, rfl, rfl, (SqT.of hTf), rfl, _, rfl, t, _, 0, _, rfl, rfl, (SqT.of hTf), rfl, _, _, rfl, rfl, (by show 2 ≤ sizeLine; decide), fun q1 hq1 => ?_⟩
        refine ⟨_, rfl, _, rfl, t, _, 1, _, rfl, rfl, (SqT.of (same_new hq1 _ _ hTf)), rfl, (by show 2 ≤ sizeLine; decide), fun q2 hq2 => ?_⟩
        refine ⟨_, rfl, _, rfl, _, _, rfl, rfl, _, rfl, (by show 2 ≤ sizeLine; decide), fun q3 hq3 => ⟨(by show 3 ≤ sizeLine; decide), fun q4 hq4 => ?_⟩⟩
        have k1 := same_new (o := .tup [.int a, .int (a - 1)]) hq1
        have k2 := same_new (o := .tup [.int (-1), .int b]) hq2
        have k3 := same_new (o := .tup [.int (-1 - m), .int (-1)]) hq3
        have k4 := same_new (o := .tup [.ref q1, .ref q2, .ref q3]) hq4
        refine ⟨q4, rfl, ⟨_, SqT.of upd_same⟩, for_tup (K := K) (a := q4) (xs := [.ref q1, .ref q2, .ref q3]) (fun i σ H9 => ∃ (v6 v7 v8 v9 v12 v13 v14 v15 v16 v17 : Option V), σ = [some (.ref sc), some (.ref p), some (.ref D), some (.int m), some (.ref S), some (.ref L), v6, v7, v8, v9, some (.ref x), some (.ref t), v12, v13, v14, v15, v16, v17] ∧ Same Hf H9 ∧ H9 q1 = some (.tup [.int a, .int (a - 1)]) ∧ H9 q2 = some (.tup [.int (-1), .int b]) ∧ H9 q3 = some (.tup [.int (-1 - m), .int (-1)]) ∧ H9 q4 = some (.tup [.ref q1, .ref q2, .ref q3]))
          ⟨_, _, _, _, _, _, _, _, _, _, rfl, k1.trans (k2.trans (k3.trans k4)), k4 _ _ (k3 _ _ (k2 _ _ upd_same)), k4 _ _ (k3 _ _ upd_same), k4 _ _ upd_same, upd_same⟩ (fun i σ H9 _ ⟨_, _, _, _, _, _, _, _, _, _, _, _, _, _, _, h⟩ => SqT.of h) ?_ ?_⟩
        · rintro i3 y σ Hg hy ⟨v6, v7, v8, v9, v12, v13, v14, v15, v16, v17, rfl, sg, e1, e2, e3, e4⟩
          have hy' : ∃ (q : Addr) (c d : Int), y = .ref q ∧ Hg q = some (.tup [.int c, .int d]) ∧ ¬ (0 ≤ c ∧ c ≤ d) := by
            rcases i3 with _ | _ | _ | i3
            · exact ⟨q1, _, _, (Option.some.inj hy).symm, e1, by omega⟩
            · exact ⟨q2, _, _, (Option.some.inj hy).symm, e2, by omega⟩
            · exact ⟨q3, _, _, (Option.some.inj hy).symm, e3, by omega⟩
            · exact absurd hy (by simp)
          obtain ⟨q, c, d, rfl, hq, hcd⟩ := hy'
          refine ⟨_, rfl, q, c, d, rfl, hq, hcd, fun Hh sh => ⟨true, rfl, iteF ?_⟩⟩
          exact ⟨_, _, _, _, _, _, _, _, _, _, rfl, sg.trans sh, sh _ _ e1, sh _ _ e2, sh _ _ e3, sh _ _ e4⟩
        rintro σ Hg ⟨v6, v7, v8, v9, v12, v13, v14, v15, v16, v17, rfl, sg, _⟩
        have sg1 := sf1.trans sg
        have hTg := sg _ _ hTf
        -- if a[0] < a[1] and not refused(..)
        refine ⟨_, rfl, t, _, 0, _, rfl, rfl, (SqT.of hTg), rfl, _, rfl, t, _, 1, _, rfl, rfl, (SqT.of hTg), rfl, _, _, rfl, rfl, _, rfl, ?_⟩
        refine iteD (fun c => ?_) (fun c => iteF ?_)
        · refine ⟨_, rfl, t, _, 1, _, rfl, rfl, (SqT.of hTg), rfl, _, rfl, t, _, 0, _, rfl, rfl, (SqT.of hTg), rfl, (by show 2 ≤ sizeLine; decide), fun q hq => ⟨q, b, a, rfl, upd_same, by omega, fun Hh sh => ⟨true, rfl, iteF ?_⟩⟩⟩
          exact ⟨_, _, _, _, _, _, _, _, _, _, _, _, rfl, sg1.trans ((same_new hq).trans sh)⟩
        · exact ⟨_, _, _, _, _, _, _, _, _, _, _, _, rfl, sg1⟩
      · rintro σ H10 ⟨v6, v7, v8, v9, v10, v11, v12, v13, v14, v15, v16, v17, rfl, s10⟩
        exact ⟨_, _, _, _, _, _, _, _, _, _, _, _, rfl, s10⟩
    · rintro σ H10 ⟨v6, v7, v8, v9, v10, v11, v12, v13, v14, v15, v16, v17, rfl, s10⟩
      exact k H10
end
theorem all_mk {P : Program} {w : World} {K : PySem.W.Frag} {h : Heap} {mg : Str → Option Value} {fa : Addr} (X : K.In h) (G : h.Ns mainGlobals mg) (hfa : mg "law" = some (.ref fa))
    {c_Span c_GangError c_BadAmounts c_BadSpan c_BadHour f_GangError_init f_Span_init f_Span_rshift f_Span_lshift f_Span_and f_Span_or f_Span_bool f_Span_xor f_Span_contains f_Span_eq f_Span_len f_pool f_draw f_hour f_ends f_whole f_has f_is f_refused f_earlier f_both f_law : Addr}
    {od_GangError_init an_GangError_init : Option Addr} {sl_GangError_init : Array (Option Value)} {oc_GangError_init kV_GangError_init dc_GangError_init pm_GangError_init cd_GangError_init ct_GangError_init : Value}
    {od_Span_init an_Span_init : Option Addr} {sl_Span_init : Array (Option Value)} {oc_Span_init kV_Span_init dc_Span_init pm_Span_init cd_Span_init ct_Span_init : Value}
    {od_Span_rshift an_Span_rshift : Option Addr} {sl_Span_rshift : Array (Option Value)} {oc_Span_rshift kV_Span_rshift dc_Span_rshift pm_Span_rshift cd_Span_rshift ct_Span_rshift : Value}
    {od_Span_lshift an_Span_lshift : Option Addr} {sl_Span_lshift : Array (Option Value)} {oc_Span_lshift kV_Span_lshift dc_Span_lshift pm_Span_lshift cd_Span_lshift ct_Span_lshift : Value}
    {od_Span_and an_Span_and : Option Addr} {sl_Span_and : Array (Option Value)} {oc_Span_and kV_Span_and dc_Span_and pm_Span_and cd_Span_and ct_Span_and : Value}
    {od_Span_or an_Span_or : Option Addr} {sl_Span_or : Array (Option Value)} {oc_Span_or kV_Span_or dc_Span_or pm_Span_or cd_Span_or ct_Span_or : Value}
    {od_Span_bool an_Span_bool : Option Addr} {sl_Span_bool : Array (Option Value)} {oc_Span_bool kV_Span_bool dc_Span_bool pm_Span_bool cd_Span_bool ct_Span_bool : Value}
    {od_Span_xor an_Span_xor : Option Addr} {sl_Span_xor : Array (Option Value)} {oc_Span_xor kV_Span_xor dc_Span_xor pm_Span_xor cd_Span_xor ct_Span_xor : Value}
    {od_Span_contains an_Span_contains : Option Addr} {sl_Span_contains : Array (Option Value)} {oc_Span_contains kV_Span_contains dc_Span_contains pm_Span_contains cd_Span_contains ct_Span_contains : Value}
    {od_Span_eq an_Span_eq : Option Addr} {sl_Span_eq : Array (Option Value)} {oc_Span_eq kV_Span_eq dc_Span_eq pm_Span_eq cd_Span_eq ct_Span_eq : Value}
    {od_Span_len an_Span_len : Option Addr} {sl_Span_len : Array (Option Value)} {oc_Span_len kV_Span_len dc_Span_len pm_Span_len cd_Span_len ct_Span_len : Value}
    {od_pool an_pool : Option Addr} {sl_pool : Array (Option Value)} {oc_pool kV_pool dc_pool pm_pool cd_pool ct_pool : Value}
    {od_draw an_draw : Option Addr} {sl_draw : Array (Option Value)} {oc_draw kV_draw dc_draw pm_draw cd_draw ct_draw : Value}
    {od_hour an_hour : Option Addr} {sl_hour : Array (Option Value)} {oc_hour kV_hour dc_hour pm_hour cd_hour ct_hour : Value}
    {od_ends an_ends : Option Addr} {sl_ends : Array (Option Value)} {oc_ends kV_ends dc_ends pm_ends cd_ends ct_ends : Value}
    {od_whole an_whole : Option Addr} {sl_whole : Array (Option Value)} {oc_whole kV_whole dc_whole pm_whole cd_whole ct_whole : Value}
    {od_has an_has : Option Addr} {sl_has : Array (Option Value)} {oc_has kV_has dc_has pm_has cd_has ct_has : Value}
    {od_is an_is : Option Addr} {sl_is : Array (Option Value)} {oc_is kV_is dc_is pm_is cd_is ct_is : Value}
    {od_refused an_refused : Option Addr} {sl_refused : Array (Option Value)} {oc_refused kV_refused dc_refused pm_refused cd_refused ct_refused : Value}
    {od_earlier an_earlier : Option Addr} {sl_earlier : Array (Option Value)} {oc_earlier kV_earlier dc_earlier pm_earlier cd_earlier ct_earlier : Value}
    {od_both an_both : Option Addr} {sl_both : Array (Option Value)} {oc_both kV_both dc_both pm_both cd_both ct_both : Value}
    {od_law an_law : Option Addr} {sl_law : Array (Option Value)} {oc_law kV_law dc_law pm_law cd_law ct_law : Value}
    {rc_Span_rshift fo_Span_rshift ro_Span_rshift : Option Value}
    {rc_Span_lshift fo_Span_lshift ro_Span_lshift : Option Value}
    {nm_GangError q_GangError : Str} {N_GangError : Addr} {bs_GangError bm_GangError : List Value} {sn_GangError : List Str} {sub_GangError : List Value} {ab_GangError : Bool} {col_GangError : Option Bool} {dd_GangError : Option Addr} {m0_GangError m1_GangError m2_GangError m3_GangError m5_GangError : Option Value}
    {nm_BadAmounts q_BadAmounts : Str} {N_BadAmounts : Addr} {bs_BadAmounts bm_BadAmounts : List Value} {sn_BadAmounts : List Str} {sub_BadAmounts : List Value} {ab_BadAmounts : Bool} {col_BadAmounts : Option Bool} {dd_BadAmounts : Option Addr} {m0_BadAmounts m1_BadAmounts m2_BadAmounts m3_BadAmounts m5_BadAmounts : Option Value}
    {nm_BadSpan q_BadSpan : Str} {N_BadSpan : Addr} {bs_BadSpan bm_BadSpan : List Value} {sn_BadSpan : List Str} {sub_BadSpan : List Value} {ab_BadSpan : Bool} {col_BadSpan : Option Bool} {dd_BadSpan : Option Addr} {m0_BadSpan m1_BadSpan m2_BadSpan m3_BadSpan m5_BadSpan : Option Value}
    {nm_BadHour q_BadHour : Str} {N_BadHour : Addr} {bs_BadHour bm_BadHour : List Value} {sn_BadHour : List Str} {sub_BadHour : List Value} {ab_BadHour : Bool} {col_BadHour : Option Bool} {dd_BadHour : Option Addr} {m0_BadHour m1_BadHour m2_BadHour m3_BadHour m5_BadHour : Option Value}
    (nb_ValueError : PySem.W.nsIn K mainGlobals "ValueError" = some none)
    (nb_bool : PySem.W.nsIn K mainGlobals "bool" = some none)
    (nb_int : PySem.W.nsIn K mainGlobals "int" = some none)
    (nb_isinstance : PySem.W.nsIn K mainGlobals "isinstance" = some none)
    (nb_len : PySem.W.nsIn K mainGlobals "len" = some none)
    (nb_list : PySem.W.nsIn K mainGlobals "list" = some none)
    (nb_max : PySem.W.nsIn K mainGlobals "max" = some none)
    (nb_min : PySem.W.nsIn K mainGlobals "min" = some none)
    (nb_range : PySem.W.nsIn K mainGlobals "range" = some none)
    (ag_Span : PySem.W.nsIn K mainGlobals "Span" = some (some (.ref c_Span)))
    (ag_GangError : PySem.W.nsIn K mainGlobals "GangError" = some (some (.ref c_GangError)))
    (ag_BadAmounts : PySem.W.nsIn K mainGlobals "BadAmounts" = some (some (.ref c_BadAmounts)))
    (ag_BadSpan : PySem.W.nsIn K mainGlobals "BadSpan" = some (some (.ref c_BadSpan)))
    (ag_BadHour : PySem.W.nsIn K mainGlobals "BadHour" = some (some (.ref c_BadHour)))
    (at_GangError_init : PySem.W.findIn K (.ref c_GangError) "__init__" = some (some (.ref f_GangError_init)))
    (lk_GangError_init : K.lookup f_GangError_init = some ⟨oc_GangError_init, od_GangError_init, .func (PySem.W.fnOf "__init__" "GangError.__init__" (defArgs s_GangError_init) (defBody s_GangError_init) (defScope s_GangError_init) .none kV_GangError_init dc_GangError_init pm_GangError_init an_GangError_init cd_GangError_init ct_GangError_init), sl_GangError_init⟩)
    (co_GangError_init : PySem.W.codeIn K cd_GangError_init "GangError.__init__" = true)
    (ke_GangError_init : PySem.W.keepIn K (.ref f_GangError_init) = true)
    (fn_GangError_init : PySem.W.isFn K (.ref f_GangError_init) = true)
    (at_Span_init : PySem.W.findIn K (.ref c_Span) "__init__" = some (some (.ref f_Span_init)))
    (lk_Span_init : K.lookup f_Span_init = some ⟨oc_Span_init, od_Span_init, .func (PySem.W.fnOf "__init__" "Span.__init__" (defArgs s_Span_init) (defBody s_Span_init) (defScope s_Span_init) .none kV_Span_init dc_Span_init pm_Span_init an_Span_init cd_Span_init ct_Span_init), sl_Span_init⟩)
    (co_Span_init : PySem.W.codeIn K cd_Span_init "Span.__init__" = true)
    (ke_Span_init : PySem.W.keepIn K (.ref f_Span_init) = true)
    (fn_Span_init : PySem.W.isFn K (.ref f_Span_init) = true)
    (at_Span_rshift : PySem.W.findIn K (.ref c_Span) "__rshift__" = some (some (.ref f_Span_rshift)))
    (lk_Span_rshift : K.lookup f_Span_rshift = some ⟨oc_Span_rshift, od_Span_rshift, .func (PySem.W.fnOf "__rshift__" "Span.__rshift__" (defArgs s_Span_rshift) (defBody s_Span_rshift) (defScope s_Span_rshift) .none kV_Span_rshift dc_Span_rshift pm_Span_rshift an_Span_rshift cd_Span_rshift ct_Span_rshift), sl_Span_rshift⟩)
    (co_Span_rshift : PySem.W.codeIn K cd_Span_rshift "Span.__rshift__" = true)
    (ke_Span_rshift : PySem.W.keepIn K (.ref f_Span_rshift) = true)
    (fn_Span_rshift : PySem.W.isFn K (.ref f_Span_rshift) = true)
    (at_Span_lshift : PySem.W.findIn K (.ref c_Span) "__lshift__" = some (some (.ref f_Span_lshift)))
    (lk_Span_lshift : K.lookup f_Span_lshift = some ⟨oc_Span_lshift, od_Span_lshift, .func (PySem.W.fnOf "__lshift__" "Span.__lshift__" (defArgs s_Span_lshift) (defBody s_Span_lshift) (defScope s_Span_lshift) .none kV_Span_lshift dc_Span_lshift pm_Span_lshift an_Span_lshift cd_Span_lshift ct_Span_lshift), sl_Span_lshift⟩)
    (co_Span_lshift : PySem.W.codeIn K cd_Span_lshift "Span.__lshift__" = true)
    (ke_Span_lshift : PySem.W.keepIn K (.ref f_Span_lshift) = true)
    (fn_Span_lshift : PySem.W.isFn K (.ref f_Span_lshift) = true)
    (at_Span_and : PySem.W.findIn K (.ref c_Span) "__and__" = some (some (.ref f_Span_and)))
    (lk_Span_and : K.lookup f_Span_and = some ⟨oc_Span_and, od_Span_and, .func (PySem.W.fnOf "__and__" "Span.__and__" (defArgs s_Span_and) (defBody s_Span_and) (defScope s_Span_and) .none kV_Span_and dc_Span_and pm_Span_and an_Span_and cd_Span_and ct_Span_and), sl_Span_and⟩)
    (co_Span_and : PySem.W.codeIn K cd_Span_and "Span.__and__" = true)
    (ke_Span_and : PySem.W.keepIn K (.ref f_Span_and) = true)
    (fn_Span_and : PySem.W.isFn K (.ref f_Span_and) = true)
    (at_Span_or : PySem.W.findIn K (.ref c_Span) "__or__" = some (some (.ref f_Span_or)))
    (lk_Span_or : K.lookup f_Span_or = some ⟨oc_Span_or, od_Span_or, .func (PySem.W.fnOf "__or__" "Span.__or__" (defArgs s_Span_or) (defBody s_Span_or) (defScope s_Span_or) .none kV_Span_or dc_Span_or pm_Span_or an_Span_or cd_Span_or ct_Span_or), sl_Span_or⟩)
    (co_Span_or : PySem.W.codeIn K cd_Span_or "Span.__or__" = true)
    (ke_Span_or : PySem.W.keepIn K (.ref f_Span_or) = true)
    (fn_Span_or : PySem.W.isFn K (.ref f_Span_or) = true)
    (at_Span_bool : PySem.W.findIn K (.ref c_Span) "__bool__" = some (some (.ref f_Span_bool)))
    (lk_Span_bool : K.lookup f_Span_bool = some ⟨oc_Span_bool, od_Span_bool, .func (PySem.W.fnOf "__bool__" "Span.__bool__" (defArgs s_Span_bool) (defBody s_Span_bool) (defScope s_Span_bool) .none kV_Span_bool dc_Span_bool pm_Span_bool an_Span_bool cd_Span_bool ct_Span_bool), sl_Span_bool⟩)
    (co_Span_bool : PySem.W.codeIn K cd_Span_bool "Span.__bool__" = true)
    (ke_Span_bool : PySem.W.keepIn K (.ref f_Span_bool) = true)
    (fn_Span_bool : PySem.W.isFn K (.ref f_Span_bool) = true)
    (at_Span_xor : PySem.W.findIn K (.ref c_Span) "__xor__" = some (some (.ref f_Span_xor)))
    (lk_Span_xor : K.lookup f_Span_xor = some ⟨oc_Span_xor, od_Span_xor, .func (PySem.W.fnOf "__xor__" "Span.__xor__" (defArgs s_Span_xor) (defBody s_Span_xor) (defScope s_Span_xor) .none kV_Span_xor dc_Span_xor pm_Span_xor an_Span_xor cd_Span_xor ct_Span_xor), sl_Span_xor⟩)
    (co_Span_xor : PySem.W.codeIn K cd_Span_xor "Span.__xor__" = true)
    (ke_Span_xor : PySem.W.keepIn K (.ref f_Span_xor) = true)
    (fn_Span_xor : PySem.W.isFn K (.ref f_Span_xor) = true)
    (at_Span_contains : PySem.W.findIn K (.ref c_Span) "__contains__" = some (some (.ref f_Span_contains)))
    (lk_Span_contains : K.lookup f_Span_contains = some ⟨oc_Span_contains, od_Span_contains, .func (PySem.W.fnOf "__contains__" "Span.__contains__" (defArgs s_Span_contains) (defBody s_Span_contains) (defScope s_Span_contains) .none kV_Span_contains dc_Span_contains pm_Span_contains an_Span_contains cd_Span_contains ct_Span_contains), sl_Span_contains⟩)
    (co_Span_contains : PySem.W.codeIn K cd_Span_contains "Span.__contains__" = true)
    (ke_Span_contains : PySem.W.keepIn K (.ref f_Span_contains) = true)
    (fn_Span_contains : PySem.W.isFn K (.ref f_Span_contains) = true)
    (at_Span_eq : PySem.W.findIn K (.ref c_Span) "__eq__" = some (some (.ref f_Span_eq)))
    (lk_Span_eq : K.lookup f_Span_eq = some ⟨oc_Span_eq, od_Span_eq, .func (PySem.W.fnOf "__eq__" "Span.__eq__" (defArgs s_Span_eq) (defBody s_Span_eq) (defScope s_Span_eq) .none kV_Span_eq dc_Span_eq pm_Span_eq an_Span_eq cd_Span_eq ct_Span_eq), sl_Span_eq⟩)
    (co_Span_eq : PySem.W.codeIn K cd_Span_eq "Span.__eq__" = true)
    (ke_Span_eq : PySem.W.keepIn K (.ref f_Span_eq) = true)
    (fn_Span_eq : PySem.W.isFn K (.ref f_Span_eq) = true)
    (at_Span_len : PySem.W.findIn K (.ref c_Span) "__len__" = some (some (.ref f_Span_len)))
    (lk_Span_len : K.lookup f_Span_len = some ⟨oc_Span_len, od_Span_len, .func (PySem.W.fnOf "__len__" "Span.__len__" (defArgs s_Span_len) (defBody s_Span_len) (defScope s_Span_len) .none kV_Span_len dc_Span_len pm_Span_len an_Span_len cd_Span_len ct_Span_len), sl_Span_len⟩)
    (co_Span_len : PySem.W.codeIn K cd_Span_len "Span.__len__" = true)
    (ke_Span_len : PySem.W.keepIn K (.ref f_Span_len) = true)
    (fn_Span_len : PySem.W.isFn K (.ref f_Span_len) = true)
    (at_pool : PySem.W.nsIn K mainGlobals "_law_pool" = some (some (.ref f_pool)))
    (lk_pool : K.lookup f_pool = some ⟨oc_pool, od_pool, .func (PySem.W.fnOf "_law_pool" "_law_pool" (defArgs s_pool) (defBody s_pool) (defScope s_pool) .none kV_pool dc_pool pm_pool an_pool cd_pool ct_pool), sl_pool⟩)
    (co_pool : PySem.W.codeIn K cd_pool "_law_pool" = true)
    (ke_pool : PySem.W.keepIn K (.ref f_pool) = true)
    (at_draw : PySem.W.nsIn K mainGlobals "_law_draw" = some (some (.ref f_draw)))
    (lk_draw : K.lookup f_draw = some ⟨oc_draw, od_draw, .func (PySem.W.fnOf "_law_draw" "_law_draw" (defArgs s_draw) (defBody s_draw) (defScope s_draw) .none kV_draw dc_draw pm_draw an_draw cd_draw ct_draw), sl_draw⟩)
    (co_draw : PySem.W.codeIn K cd_draw "_law_draw" = true)
    (ke_draw : PySem.W.keepIn K (.ref f_draw) = true)
    (at_hour : PySem.W.nsIn K mainGlobals "_law_hour" = some (some (.ref f_hour)))
    (lk_hour : K.lookup f_hour = some ⟨oc_hour, od_hour, .func (PySem.W.fnOf "_law_hour" "_law_hour" (defArgs s_hour) (defBody s_hour) (defScope s_hour) .none kV_hour dc_hour pm_hour an_hour cd_hour ct_hour), sl_hour⟩)
    (co_hour : PySem.W.codeIn K cd_hour "_law_hour" = true)
    (ke_hour : PySem.W.keepIn K (.ref f_hour) = true)
    (at_ends : PySem.W.nsIn K mainGlobals "_law_ends" = some (some (.ref f_ends)))
    (lk_ends : K.lookup f_ends = some ⟨oc_ends, od_ends, .func (PySem.W.fnOf "_law_ends" "_law_ends" (defArgs s_ends) (defBody s_ends) (defScope s_ends) .none kV_ends dc_ends pm_ends an_ends cd_ends ct_ends), sl_ends⟩)
    (co_ends : PySem.W.codeIn K cd_ends "_law_ends" = true)
    (ke_ends : PySem.W.keepIn K (.ref f_ends) = true)
    (at_whole : PySem.W.nsIn K mainGlobals "_law_whole" = some (some (.ref f_whole)))
    (lk_whole : K.lookup f_whole = some ⟨oc_whole, od_whole, .func (PySem.W.fnOf "_law_whole" "_law_whole" (defArgs s_whole) (defBody s_whole) (defScope s_whole) .none kV_whole dc_whole pm_whole an_whole cd_whole ct_whole), sl_whole⟩)
    (co_whole : PySem.W.codeIn K cd_whole "_law_whole" = true)
    (ke_whole : PySem.W.keepIn K (.ref f_whole) = true)
    (at_has : PySem.W.nsIn K mainGlobals "_law_has" = some (some (.ref f_has)))
    (lk_has : K.lookup f_has = some ⟨oc_has, od_has, .func (PySem.W.fnOf "_law_has" "_law_has" (defArgs s_has) (defBody s_has) (defScope s_has) .none kV_has dc_has pm_has an_has cd_has ct_has), sl_has⟩)
    (co_has : PySem.W.codeIn K cd_has "_law_has" = true)
    (ke_has : PySem.W.keepIn K (.ref f_has) = true)
    (at_is : PySem.W.nsIn K mainGlobals "_law_is" = some (some (.ref f_is)))
    (lk_is : K.lookup f_is = some ⟨oc_is, od_is, .func (PySem.W.fnOf "_law_is" "_law_is" (defArgs s_is) (defBody s_is) (defScope s_is) .none kV_is dc_is pm_is an_is cd_is ct_is), sl_is⟩)
    (co_is : PySem.W.codeIn K cd_is "_law_is" = true)
    (ke_is : PySem.W.keepIn K (.ref f_is) = true)
    (at_refused : PySem.W.nsIn K mainGlobals "_law_refused" = some (some (.ref f_refused)))
    (lk_refused : K.lookup f_refused = some ⟨oc_refused, od_refused, .func (PySem.W.fnOf "_law_refused" "_law_refused" (defArgs s_refused) (defBody s_refused) (defScope s_refused) .none kV_refused dc_refused pm_refused an_refused cd_refused ct_refused), sl_refused⟩)
    (co_refused : PySem.W.codeIn K cd_refused "_law_refused" = true)
    (ke_refused : PySem.W.keepIn K (.ref f_refused) = true)
    (at_earlier : PySem.W.nsIn K mainGlobals "_law_earlier" = some (some (.ref f_earlier)))
    (lk_earlier : K.lookup f_earlier = some ⟨oc_earlier, od_earlier, .func (PySem.W.fnOf "_law_earlier" "_law_earlier" (defArgs s_earlier) (defBody s_earlier) (defScope s_earlier) .none kV_earlier dc_earlier pm_earlier an_earlier cd_earlier ct_earlier), sl_earlier⟩)
    (co_earlier : PySem.W.codeIn K cd_earlier "_law_earlier" = true)
    (ke_earlier : PySem.W.keepIn K (.ref f_earlier) = true)
    (at_both : PySem.W.nsIn K mainGlobals "_law_both" = some (some (.ref f_both)))
    (lk_both : K.lookup f_both = some ⟨oc_both, od_both, .func (PySem.W.fnOf "_law_both" "_law_both" (defArgs s_both) (defBody s_both) (defScope s_both) .none kV_both dc_both pm_both an_both cd_both ct_both), sl_both⟩)
    (co_both : PySem.W.codeIn K cd_both "_law_both" = true)
    (ke_both : PySem.W.keepIn K (.ref f_both) = true)
    (at_law : PySem.W.nsIn K mainGlobals "law" = some (some (.ref f_law)))
    (lk_law : K.lookup f_law = some ⟨oc_law, od_law, .func (PySem.W.fnOf "law" "law" (defArgs s_law) (defBody s_law) (defScope s_law) .none kV_law dc_law pm_law an_law cd_law ct_law), sl_law⟩)
    (co_law : PySem.W.codeIn K cd_law "law" = true)
    (ke_law : PySem.W.keepIn K (.ref f_law) = true)
    (pg_Span : PySem.W.plainGet K c_Span Str.empty = true)
    (hd_Span : PySem.W.hasDictIn K c_Span = true)
    (po_Span : PySem.W.plainOver K c_Span = true)
    (sa_Span : PySem.W.findIn K (.ref c_Span) "__setattr__" = some (some (.builtin "object.__setattr__")))
    (mk_Span : PySem.W.makesIn K c_Span = true)
    (kp_Span : PySem.W.keepIn K (.ref c_Span) = true)
    (sf_Span : PySem.W.selfFirst K c_Span = true)
    (k1_Span : PySem.W.findIn K (.ref c_Span) "__class__" = some (some (.builtin "object.__class__")))
    (k4_Span : PySem.W.mroIn K c_Span (.type "object") = some true)
    (no_Span_start : PySem.W.findIn K (.ref c_Span) "start" = some none)
    (no_Span_end : PySem.W.findIn K (.ref c_Span) "end" = some none)
    (ir_Span_rshift : PySem.W.findIn K (.ref c_Span) "__rrshift__" = some rc_Span_rshift)
    (iz_Span_rshift : (rc_Span_rshift = none ∨ ∃ g : Addr, rc_Span_rshift = some (.ref g)))
    (i1_Span_rshift : PySem.W.findIn K (.type "int") "__rshift__" = some fo_Span_rshift)
    (i2_Span_rshift : PySem.W.findIn K (.type "int") "__rrshift__" = some ro_Span_rshift)
    (is_Span_rshift : PySem.W.subIn K (.type "int") (.ref c_Span) = some false)
    (ir_Span_lshift : PySem.W.findIn K (.ref c_Span) "__rlshift__" = some rc_Span_lshift)
    (iz_Span_lshift : (rc_Span_lshift = none ∨ ∃ g : Addr, rc_Span_lshift = some (.ref g)))
    (i1_Span_lshift : PySem.W.findIn K (.type "int") "__lshift__" = some fo_Span_lshift)
    (i2_Span_lshift : PySem.W.findIn K (.type "int") "__rlshift__" = some ro_Span_lshift)
    (is_Span_lshift : PySem.W.subIn K (.type "int") (.ref c_Span) = some false)
    (kg : PySem.W.specialIn K (.builtin "object.__class__") "__get__" = some (some (.builtin "getset_descriptor.__get__")))
    (kt : PySem.W.takesIn K (.builtin "object.__class__") = some true)
    (xl_GangError : K.lookup c_GangError = some (excClassObj nm_GangError q_GangError c_GangError N_GangError bs_GangError bm_GangError true sn_GangError sub_GangError ab_GangError col_GangError dd_GangError m0_GangError m1_GangError m2_GangError m3_GangError m5_GangError "ValueError.__new__"))
    (xr_GangError : PySem.HandSPX.refsVE bm_GangError = true)
    (xsa_GangError : PySem.W.findIn K (.ref c_GangError) "__setattr__" = some (some (.builtin "object.__setattr__")))
    (xex_GangError : PySem.W.subIn K (.ref c_GangError) (.type "BaseException") = some true)
    (xty_GangError : PySem.W.typeIn K (.ref c_GangError) = some (.type "type"))
    (xkp_GangError : PySem.W.keepIn K (.ref c_GangError) = true)
    (xin_GangError : PySem.W.findIn K (.ref c_GangError) "__init__" = some (some (.ref f_GangError_init)))
    (xno_GangError : PySem.W.findIn K (.ref c_GangError) "subject" = some none)
    (xga_GangError : PySem.W.findIn K (.ref c_GangError) "__getattribute__" = some (some (.builtin "BaseException.__getattribute__")))
    (xgg_GangError : PySem.W.findIn K (.ref c_GangError) "__getattr__" = some none)
    (xhd_GangError : PySem.W.hasDictIn K c_GangError = true)
    (xk1_GangError : PySem.W.findIn K (.ref c_GangError) "__class__" = some (some (.builtin "object.__class__")))
    (xk4_GangError : PySem.W.mroIn K c_GangError (.type "object") = some true)
    (xem_GangError : PySem.W.subIn K (.ref c_GangError) (.ref c_GangError) = some true)
    (xl_BadAmounts : K.lookup c_BadAmounts = some (excClassObj nm_BadAmounts q_BadAmounts c_BadAmounts N_BadAmounts bs_BadAmounts bm_BadAmounts true sn_BadAmounts sub_BadAmounts ab_BadAmounts col_BadAmounts dd_BadAmounts m0_BadAmounts m1_BadAmounts m2_BadAmounts m3_BadAmounts m5_BadAmounts "ValueError.__new__"))
    (xr_BadAmounts : PySem.HandSPX.refsVE bm_BadAmounts = true)
    (xsa_BadAmounts : PySem.W.findIn K (.ref c_BadAmounts) "__setattr__" = some (some (.builtin "object.__setattr__")))
    (xex_BadAmounts : PySem.W.subIn K (.ref c_BadAmounts) (.type "BaseException") = some true)
    (xty_BadAmounts : PySem.W.typeIn K (.ref c_BadAmounts) = some (.type "type"))
    (xkp_BadAmounts : PySem.W.keepIn K (.ref c_BadAmounts) = true)
    (xin_BadAmounts : PySem.W.findIn K (.ref c_BadAmounts) "__init__" = some (some (.ref f_GangError_init)))
    (xno_BadAmounts : PySem.W.findIn K (.ref c_BadAmounts) "subject" = some none)
    (xga_BadAmounts : PySem.W.findIn K (.ref c_BadAmounts) "__getattribute__" = some (some (.builtin "BaseException.__getattribute__")))
    (xgg_BadAmounts : PySem.W.findIn K (.ref c_BadAmounts) "__getattr__" = some none)
    (xhd_BadAmounts : PySem.W.hasDictIn K c_BadAmounts = true)
    (xk1_BadAmounts : PySem.W.findIn K (.ref c_BadAmounts) "__class__" = some (some (.builtin "object.__class__")))
    (xk4_BadAmounts : PySem.W.mroIn K c_BadAmounts (.type "object") = some true)
    (xem_BadAmounts : PySem.W.subIn K (.ref c_BadAmounts) (.ref c_GangError) = some true)
    (xl_BadSpan : K.lookup c_BadSpan = some (excClassObj nm_BadSpan q_BadSpan c_BadSpan N_BadSpan bs_BadSpan bm_BadSpan true sn_BadSpan sub_BadSpan ab_BadSpan col_BadSpan dd_BadSpan m0_BadSpan m1_BadSpan m2_BadSpan m3_BadSpan m5_BadSpan "ValueError.__new__"))
    (xr_BadSpan : PySem.HandSPX.refsVE bm_BadSpan = true)
    (xsa_BadSpan : PySem.W.findIn K (.ref c_BadSpan) "__setattr__" = some (some (.builtin "object.__setattr__")))
    (xex_BadSpan : PySem.W.subIn K (.ref c_BadSpan) (.type "BaseException") = some true)
    (xty_BadSpan : PySem.W.typeIn K (.ref c_BadSpan) = some (.type "type"))
    (xkp_BadSpan : PySem.W.keepIn K (.ref c_BadSpan) = true)
    (xin_BadSpan : PySem.W.findIn K (.ref c_BadSpan) "__init__" = some (some (.ref f_GangError_init)))
    (xno_BadSpan : PySem.W.findIn K (.ref c_BadSpan) "subject" = some none)
    (xga_BadSpan : PySem.W.findIn K (.ref c_BadSpan) "__getattribute__" = some (some (.builtin "BaseException.__getattribute__")))
    (xgg_BadSpan : PySem.W.findIn K (.ref c_BadSpan) "__getattr__" = some none)
    (xhd_BadSpan : PySem.W.hasDictIn K c_BadSpan = true)
    (xk1_BadSpan : PySem.W.findIn K (.ref c_BadSpan) "__class__" = some (some (.builtin "object.__class__")))
    (xk4_BadSpan : PySem.W.mroIn K c_BadSpan (.type "object") = some true)
    (xem_BadSpan : PySem.W.subIn K (.ref c_BadSpan) (.ref c_GangError) = some true)
    (xl_BadHour : K.lookup c_BadHour = some (excClassObj nm_BadHour q_BadHour c_BadHour N_BadHour bs_BadHour bm_BadHour true sn_BadHour sub_BadHour ab_BadHour col_BadHour dd_BadHour m0_BadHour m1_BadHour m2_BadHour m3_BadHour m5_BadHour "ValueError.__new__"))
    (xr_BadHour : PySem.HandSPX.refsVE bm_BadHour = true)
    (xsa_BadHour : PySem.W.findIn K (.ref c_BadHour) "__setattr__" = some (some (.builtin "object.__setattr__")))
    (xex_BadHour : PySem.W.subIn K (.ref c_BadHour) (.type "BaseException") = some true)
    (xty_BadHour : PySem.W.typeIn K (.ref c_BadHour) = some (.type "type"))
    (xkp_BadHour : PySem.W.keepIn K (.ref c_BadHour) = true)
    (xin_BadHour : PySem.W.findIn K (.ref c_BadHour) "__init__" = some (some (.ref f_GangError_init)))
    (xno_BadHour : PySem.W.findIn K (.ref c_BadHour) "subject" = some none)
    (xga_BadHour : PySem.W.findIn K (.ref c_BadHour) "__getattribute__" = some (some (.builtin "BaseException.__getattribute__")))
    (xgg_BadHour : PySem.W.findIn K (.ref c_BadHour) "__getattr__" = some none)
    (xhd_BadHour : PySem.W.hasDictIn K c_BadHour = true)
    (xk1_BadHour : PySem.W.findIn K (.ref c_BadHour) "__class__" = some (some (.builtin "object.__class__")))
    (xk4_BadHour : PySem.W.mroIn K c_BadHour (.type "object") = some true)
    (xem_BadHour : PySem.W.subIn K (.ref c_BadHour) (.ref c_GangError) = some true)
    (tI_GangError : PySem.W.typeIn K (.ref f_GangError_init) = some (.type "function"))
    (ss_BadSpan : PySem.W.subIn K (.ref c_BadSpan) (.ref c_BadSpan) = some true)
    (su_BadSpan_BadSpan : PySem.W.subIn K (.ref c_BadSpan) (.ref c_BadSpan) = some true)
    (su_BadSpan_ValueError : PySem.W.subIn K (.ref c_BadSpan) (.type "ValueError") = some true)
    (ss_BadHour : PySem.W.subIn K (.ref c_BadHour) (.ref c_BadHour) = some true)
    (su_BadSpan_BadHour : PySem.W.subIn K (.ref c_BadSpan) (.ref c_BadHour) = some false)
    (ss_BadAmounts : PySem.W.subIn K (.ref c_BadAmounts) (.ref c_BadAmounts) = some true)
    (su_BadSpan_BadAmounts : PySem.W.subIn K (.ref c_BadSpan) (.ref c_BadAmounts) = some false)
    : ∃ fd : FuncData, (∀ (s : Shared) (v : Value), BindsTo s fd ⟨[v], []⟩ [("_law_script", v)]) ∧ ∀ base : Heap, K.In base → base.Ns mainGlobals mg → FnOk P w K mg base CX0 8 fa fd ["_law_script"] (spLaw K) := by
  have e := hfa.symm.trans (PySem.W.mg_of X G at_law)
  cases e
  let A : Adr := { c_Span := c_Span, c_GangError := c_GangError, c_BadAmounts := c_BadAmounts, c_BadSpan := c_BadSpan, c_BadHour := c_BadHour, f_GangError_init := f_GangError_init, d_GangError_init := PySem.W.fnOf "__init__" "GangError.__init__" (defArgs s_GangError_init) (defBody s_GangError_init) (defScope s_GangError_init) .none kV_GangError_init dc_GangError_init pm_GangError_init an_GangError_init cd_GangError_init ct_GangError_init, f_Span_init := f_Span_init, d_Span_init := PySem.W.fnOf "__init__" "Span.__init__" (defArgs s_Span_init) (defBody s_Span_init) (defScope s_Span_init) .none kV_Span_init dc_Span_init pm_Span_init an_Span_init cd_Span_init ct_Span_init, f_Span_rshift := f_Span_rshift, d_Span_rshift := PySem.W.fnOf "__rshift__" "Span.__rshift__" (defArgs s_Span_rshift) (defBody s_Span_rshift) (defScope s_Span_rshift) .none kV_Span_rshift dc_Span_rshift pm_Span_rshift an_Span_rshift cd_Span_rshift ct_Span_rshift, f_Span_lshift := f_Span_lshift, d_Span_lshift := PySem.W.fnOf "__lshift__" "Span.__lshift__" (defArgs s_Span_lshift) (defBody s_Span_lshift) (defScope s_Span_lshift) .none kV_Span_lshift dc_Span_lshift pm_Span_lshift an_Span_lshift cd_Span_lshift ct_Span_lshift, f_Span_and := f_Span_and, d_Span_and := PySem.W.fnOf "__and__" "Span.__and__" (defArgs s_Span_and) (defBody s_Span_and) (defScope s_Span_and) .none kV_Span_and dc_Span_and pm_Span_and an_Span_and cd_Span_and ct_Span_and, f_Span_or := f_Span_or, d_Span_or := PySem.W.fnOf "__or__" "Span.__or__" (defArgs s_Span_or) (defBody s_Span_or) (defScope s_Span_or) .none kV_Span_or dc_Span_or pm_Span_or an_Span_or cd_Span_or ct_Span_or, f_Span_bool := f_Span_bool, d_Span_bool := PySem.W.fnOf "__bool__" "Span.__bool__" (defArgs s_Span_bool) (defBody s_Span_bool) (defScope s_Span_bool) .none kV_Span_bool dc_Span_bool pm_Span_bool an_Span_bool cd_Span_bool ct_Span_bool, f_Span_xor := f_Span_xor, d_Span_xor := PySem.W.fnOf "__xor__" "Span.__xor__" (defArgs s_Span_xor) (defBody s_Span_xor) (defScope s_Span_xor) .none kV_Span_xor dc_Span_xor pm_Span_xor an_Span_xor cd_Span_xor ct_Span_xor, f_Span_contains := f_Span_contains, d_Span_contains := PySem.W.fnOf "__contains__" "Span.__contains__" (defArgs s_Span_contains) (defBody s_Span_contains) (defScope s_Span_contains) .none kV_Span_contains dc_Span_contains pm_Span_contains an_Span_contains cd_Span_contains ct_Span_contains, f_Span_eq := f_Span_eq, d_Span_eq := PySem.W.fnOf "__eq__" "Span.__eq__" (defArgs s_Span_eq) (defBody s_Span_eq) (defScope s_Span_eq) .none kV_Span_eq dc_Span_eq pm_Span_eq an_Span_eq cd_Span_eq ct_Span_eq, f_Span_len := f_Span_len, d_Span_len := PySem.W.fnOf "__len__" "Span.__len__" (defArgs s_Span_len) (defBody s_Span_len) (defScope s_Span_len) .none kV_Span_len dc_Span_len pm_Span_len an_Span_len cd_Span_len ct_Span_len, f_pool := f_pool, d_pool := PySem.W.fnOf "_law_pool" "_law_pool" (defArgs s_pool) (defBody s_pool) (defScope s_pool) .none kV_pool dc_pool pm_pool an_pool cd_pool ct_pool, f_draw := f_draw, d_draw := PySem.W.fnOf "_law_draw" "_law_draw" (defArgs s_draw) (defBody s_draw) (defScope s_draw) .none kV_draw dc_draw pm_draw an_draw cd_draw ct_draw, f_hour := f_hour, d_hour := PySem.W.fnOf "_law_hour" "_law_hour" (defArgs s_hour) (defBody s_hour) (defScope s_hour) .none kV_hour dc_hour pm_hour an_hour cd_hour ct_hour, f_ends := f_ends, d_ends := PySem.W.fnOf "_law_ends" "_law_ends" (defArgs s_ends) (defBody s_ends) (defScope s_ends) .none kV_ends dc_ends pm_ends an_ends cd_ends ct_ends, f_whole := f_whole, d_whole := PySem.W.fnOf "_law_whole" "_law_whole" (defArgs s_whole) (defBody s_whole) (defScope s_whole) .none kV_whole dc_whole pm_whole an_whole cd_whole ct_whole, f_has := f_has, d_has := PySem.W.fnOf "_law_has" "_law_has" (defArgs s_has) (defBody s_has) (defScope s_has) .none kV_has dc_has pm_has an_has cd_has ct_has, f_is := f_is, d_is := PySem.W.fnOf "_law_is" "_law_is" (defArgs s_is) (defBody s_is) (defScope s_is) .none kV_is dc_is pm_is an_is cd_is ct_is, f_refused := f_refused, d_refused := PySem.W.fnOf "_law_refused" "_law_refused" (defArgs s_refused) (defBody s_refused) (defScope s_refused) .none kV_refused dc_refused pm_refused an_refused cd_refused ct_refused, f_earlier := f_earlier, d_earlier := PySem.W.fnOf "_law_earlier" "_law_earlier" (defArgs s_earlier) (defBody s_earlier) (defScope s_earlier) .none kV_earlier dc_earlier pm_earlier an_earlier cd_earlier ct_earlier, f_both := f_both, d_both := PySem.W.fnOf "_law_both" "_law_both" (defArgs s_both) (defBody s_both) (defScope s_both) .none kV_both dc_both pm_both an_both cd_both ct_both, f_law := fa, d_law := PySem.W.fnOf "law" "law" (defArgs s_law) (defBody s_law) (defScope s_law) .none kV_law dc_law pm_law an_law cd_law ct_law }
  have T : Txt K mg A := {
    n_ValueError := PySem.W.mg_none_of X G nb_ValueError
    n_bool := PySem.W.mg_none_of X G nb_bool
    n_int := PySem.W.mg_none_of X G nb_int
    n_isinstance := PySem.W.mg_none_of X G nb_isinstance
    n_len := PySem.W.mg_none_of X G nb_len
    n_list := PySem.W.mg_none_of X G nb_list
    n_max := PySem.W.mg_none_of X G nb_max
    n_min := PySem.W.mg_none_of X G nb_min
    n_range := PySem.W.mg_none_of X G nb_range
    g_Span := PySem.W.mg_of X G ag_Span
    g_GangError := PySem.W.mg_of X G ag_GangError
    g_BadAmounts := PySem.W.mg_of X G ag_BadAmounts
    g_BadSpan := PySem.W.mg_of X G ag_BadSpan
    g_BadHour := PySem.W.mg_of X G ag_BadHour
    F_GangError_init := fun_mk (st := s_GangError_init) lk_GangError_init co_GangError_init ke_GangError_init
    b_GangError_init := (fun_mk (st := s_GangError_init) lk_GangError_init co_GangError_init ke_GangError_init).binds (ps := ["self", "subject"]) fun _ _ _ _ _ _ us hl => match us, hl with | [_, _], _ => rfl
    me_GangError_init := ⟨at_GangError_init, fn_GangError_init, ke_GangError_init⟩
    F_Span_init := fun_mk (st := s_Span_init) lk_Span_init co_Span_init ke_Span_init
    b_Span_init := (fun_mk (st := s_Span_init) lk_Span_init co_Span_init ke_Span_init).binds (ps := ["self", "start", "end"]) fun _ _ _ _ _ _ us hl => match us, hl with | [_, _, _], _ => rfl
    me_Span_init := ⟨at_Span_init, fn_Span_init, ke_Span_init⟩
    F_Span_rshift := fun_mk (st := s_Span_rshift) lk_Span_rshift co_Span_rshift ke_Span_rshift
    b_Span_rshift := (fun_mk (st := s_Span_rshift) lk_Span_rshift co_Span_rshift ke_Span_rshift).binds (ps := ["self", "other"]) fun _ _ _ _ _ _ us hl => match us, hl with | [_, _], _ => rfl
    me_Span_rshift := ⟨at_Span_rshift, fn_Span_rshift, ke_Span_rshift⟩
    F_Span_lshift := fun_mk (st := s_Span_lshift) lk_Span_lshift co_Span_lshift ke_Span_lshift
    b_Span_lshift := (fun_mk (st := s_Span_lshift) lk_Span_lshift co_Span_lshift ke_Span_lshift).binds (ps := ["self", "other"]) fun _ _ _ _ _ _ us hl => match us, hl with | [_, _], _ => rfl
    me_Span_lshift := ⟨at_Span_lshift, fn_Span_lshift, ke_Span_lshift⟩
    F_Span_and := fun_mk (st := s_Span_and) lk_Span_and co_Span_and ke_Span_and
    b_Span_and := (fun_mk (st := s_Span_and) lk_Span_and co_Span_and ke_Span_and).binds (ps := ["self", "other"]) fun _ _ _ _ _ _ us hl => match us, hl with | [_, _], _ => rfl
    me_Span_and := ⟨at_Span_and, fn_Span_and, ke_Span_and⟩
    F_Span_or := fun_mk (st := s_Span_or) lk_Span_or co_Span_or ke_Span_or
    b_Span_or := (fun_mk (st := s_Span_or) lk_Span_or co_Span_or ke_Span_or).binds (ps := ["self", "other"]) fun _ _ _ _ _ _ us hl => match us, hl with | [_, _], _ => rfl
    me_Span_or := ⟨at_Span_or, fn_Span_or, ke_Span_or⟩
    F_Span_bool := fun_mk (st := s_Span_bool) lk_Span_bool co_Span_bool ke_Span_bool
    b_Span_bool := (fun_mk (st := s_Span_bool) lk_Span_bool co_Span_bool ke_Span_bool).binds (ps := ["self"]) fun _ _ _ _ _ _ us hl => match us, hl with | [_], _ => rfl
    me_Span_bool := ⟨at_Span_bool, fn_Span_bool, ke_Span_bool⟩
    F_Span_xor := fun_mk (st := s_Span_xor) lk_Span_xor co_Span_xor ke_Span_xor
    b_Span_xor := (fun_mk (st := s_Span_xor) lk_Span_xor co_Span_xor ke_Span_xor).binds (ps := ["self", "other"]) fun _ _ _ _ _ _ us hl => match us, hl with | [_, _], _ => rfl
    me_Span_xor := ⟨at_Span_xor, fn_Span_xor, ke_Span_xor⟩
    F_Span_contains := fun_mk (st := s_Span_contains) lk_Span_contains co_Span_contains ke_Span_contains
    b_Span_contains := (fun_mk (st := s_Span_contains) lk_Span_contains co_Span_contains ke_Span_contains).binds (ps := ["self", "x"]) fun _ _ _ _ _ _ us hl => match us, hl with | [_, _], _ => rfl
    me_Span_contains := ⟨at_Span_contains, fn_Span_contains, ke_Span_contains⟩
    F_Span_eq := fun_mk (st := s_Span_eq) lk_Span_eq co_Span_eq ke_Span_eq
    b_Span_eq := (fun_mk (st := s_Span_eq) lk_Span_eq co_Span_eq ke_Span_eq).binds (ps := ["self", "other"]) fun _ _ _ _ _ _ us hl => match us, hl with | [_, _], _ => rfl
    me_Span_eq := ⟨at_Span_eq, fn_Span_eq, ke_Span_eq⟩
    F_Span_len := fun_mk (st := s_Span_len) lk_Span_len co_Span_len ke_Span_len
    b_Span_len := (fun_mk (st := s_Span_len) lk_Span_len co_Span_len ke_Span_len).binds (ps := ["self"]) fun _ _ _ _ _ _ us hl => match us, hl with | [_], _ => rfl
    me_Span_len := ⟨at_Span_len, fn_Span_len, ke_Span_len⟩
    F_pool := fun_mk (st := s_pool) lk_pool co_pool ke_pool
    b_pool := (fun_mk (st := s_pool) lk_pool co_pool ke_pool).binds (ps := ["_law_script"]) fun _ _ _ _ _ _ us hl => match us, hl with | [_], _ => rfl
    g_pool := PySem.W.mg_of X G at_pool
    F_draw := fun_mk (st := s_draw) lk_draw co_draw ke_draw
    b_draw := (fun_mk (st := s_draw) lk_draw co_draw ke_draw).binds (ps := ["_law_pool_here", "_law_many"]) fun _ _ _ _ _ _ us hl => match us, hl with | [_, _], _ => rfl
    g_draw := PySem.W.mg_of X G at_draw
    F_hour := fun_mk (st := s_hour) lk_hour co_hour ke_hour
    b_hour := (fun_mk (st := s_hour) lk_hour co_hour ke_hour).binds (ps := ["_law_pool_here", "_law_far"]) fun _ _ _ _ _ _ us hl => match us, hl with | [_, _], _ => rfl
    g_hour := PySem.W.mg_of X G at_hour
    F_ends := fun_mk (st := s_ends) lk_ends co_ends ke_ends
    b_ends := (fun_mk (st := s_ends) lk_ends co_ends ke_ends).binds (ps := ["_law_pool_here"]) fun _ _ _ _ _ _ us hl => match us, hl with | [_], _ => rfl
    g_ends := PySem.W.mg_of X G at_ends
    F_whole := fun_mk (st := s_whole) lk_whole co_whole ke_whole
    b_whole := (fun_mk (st := s_whole) lk_whole co_whole ke_whole).binds (ps := ["_law_value"]) fun _ _ _ _ _ _ us hl => match us, hl with | [_], _ => rfl
    g_whole := PySem.W.mg_of X G at_whole
    F_has := fun_mk (st := s_has) lk_has co_has ke_has
    b_has := (fun_mk (st := s_has) lk_has co_has ke_has).binds (ps := ["_law_ends_here", "_law_hour_here"]) fun _ _ _ _ _ _ us hl => match us, hl with | [_, _], _ => rfl
    g_has := PySem.W.mg_of X G at_has
    F_is := fun_mk (st := s_is) lk_is co_is ke_is
    b_is := (fun_mk (st := s_is) lk_is co_is ke_is).binds (ps := ["_law_span", "_law_ends_here", "_law_hours"]) fun _ _ _ _ _ _ us hl => match us, hl with | [_, _, _], _ => rfl
    g_is := PySem.W.mg_of X G at_is
    F_refused := fun_mk (st := s_refused) lk_refused co_refused ke_refused
    b_refused := (fun_mk (st := s_refused) lk_refused co_refused ke_refused).binds (ps := ["_law_pair"]) fun _ _ _ _ _ _ us hl => match us, hl with | [_], _ => rfl
    g_refused := PySem.W.mg_of X G at_refused
    F_earlier := fun_mk (st := s_earlier) lk_earlier co_earlier ke_earlier
    b_earlier := (fun_mk (st := s_earlier) lk_earlier co_earlier ke_earlier).binds (ps := ["_law_span", "_law_ends_here", "_law_many", "_law_hours"]) fun _ _ _ _ _ _ us hl => match us, hl with | [_, _, _, _], _ => rfl
    g_earlier := PySem.W.mg_of X G at_earlier
    F_both := fun_mk (st := s_both) lk_both co_both ke_both
    b_both := (fun_mk (st := s_both) lk_both co_both ke_both).binds (ps := ["_law_one", "_law_a", "_law_other", "_law_b", "_law_hours"]) fun _ _ _ _ _ _ us hl => match us, hl with | [_, _, _, _, _], _ => rfl
    g_both := PySem.W.mg_of X G at_both
    F_law := fun_mk (st := s_law) lk_law co_law ke_law
    b_law := (fun_mk (st := s_law) lk_law co_law ke_law).binds (ps := ["_law_script"]) fun _ _ _ _ _ _ us hl => match us, hl with | [_], _ => rfl
    g_law := PySem.W.mg_of X G at_law
    cl_Span := ⟨pg_Span, hd_Span, po_Span, sa_Span⟩
    mk_Span := ⟨mk_Span, at_Span_init, fn_Span_init, kp_Span⟩
    sf_Span := sf_Span
    k1_Span := k1_Span
    k4_Span := k4_Span
    no_Span_start := no_Span_start
    no_Span_end := no_Span_end
    i_Span_rshift := ⟨⟨_, ir_Span_rshift, iz_Span_rshift⟩, ⟨_, i1_Span_rshift⟩, ⟨_, i2_Span_rshift⟩, is_Span_rshift⟩
    i_Span_lshift := ⟨⟨_, ir_Span_lshift, iz_Span_lshift⟩, ⟨_, i1_Span_lshift⟩, ⟨_, i2_Span_lshift⟩, is_Span_lshift⟩
    kg := kg
    kt := kt
    x_GangError := ⟨⟨⟨_, _, _, _, _, _, _, _, _, _, _, _, _, _, _, xl_GangError, xr_GangError⟩, xsa_GangError, xex_GangError, xty_GangError, xkp_GangError⟩, xin_GangError, tI_GangError, xno_GangError⟩
    xf_GangError := ⟨xga_GangError, xgg_GangError, xex_GangError, xhd_GangError⟩
    xc_GangError := ⟨xga_GangError, xgg_GangError, xex_GangError, xhd_GangError, xk1_GangError, kg, kt, xk4_GangError⟩
    xm_GangError := PySem.W.exm_ref xex_GangError xhd_GangError xty_GangError xem_GangError
    x_BadAmounts := ⟨⟨⟨_, _, _, _, _, _, _, _, _, _, _, _, _, _, _, xl_BadAmounts, xr_BadAmounts⟩, xsa_BadAmounts, xex_BadAmounts, xty_BadAmounts, xkp_BadAmounts⟩, xin_BadAmounts, tI_GangError, xno_BadAmounts⟩
    xf_BadAmounts := ⟨xga_BadAmounts, xgg_BadAmounts, xex_BadAmounts, xhd_BadAmounts⟩
    xc_BadAmounts := ⟨xga_BadAmounts, xgg_BadAmounts, xex_BadAmounts, xhd_BadAmounts, xk1_BadAmounts, kg, kt, xk4_BadAmounts⟩
    xm_BadAmounts := PySem.W.exm_ref xex_GangError xhd_GangError xty_GangError xem_BadAmounts
    x_BadSpan := ⟨⟨⟨_, _, _, _, _, _, _, _, _, _, _, _, _, _, _, xl_BadSpan, xr_BadSpan⟩, xsa_BadSpan, xex_BadSpan, xty_BadSpan, xkp_BadSpan⟩, xin_BadSpan, tI_GangError, xno_BadSpan⟩
    xf_BadSpan := ⟨xga_BadSpan, xgg_BadSpan, xex_BadSpan, xhd_BadSpan⟩
    xc_BadSpan := ⟨xga_BadSpan, xgg_BadSpan, xex_BadSpan, xhd_BadSpan, xk1_BadSpan, kg, kt, xk4_BadSpan⟩
    xm_BadSpan := PySem.W.exm_ref xex_GangError xhd_GangError xty_GangError xem_BadSpan
    x_BadHour := ⟨⟨⟨_, _, _, _, _, _, _, _, _, _, _, _, _, _, _, xl_BadHour, xr_BadHour⟩, xsa_BadHour, xex_BadHour, xty_BadHour, xkp_BadHour⟩, xin_BadHour, tI_GangError, xno_BadHour⟩
    xf_BadHour := ⟨xga_BadHour, xgg_BadHour, xex_BadHour, xhd_BadHour⟩
    xc_BadHour := ⟨xga_BadHour, xgg_BadHour, xex_BadHour, xhd_BadHour, xk1_BadHour, kg, kt, xk4_BadHour⟩
    xm_BadHour := PySem.W.exm_ref xex_GangError xhd_GangError xty_GangError xem_BadHour
    kt_BadSpan_BadSpan := kit_sub xhd_BadSpan xty_BadSpan ss_BadSpan su_BadSpan_BadSpan
    kt_BadSpan_ValueError := kit_base (by decide +kernel) su_BadSpan_ValueError
    kt_BadSpan_BadHour := kit_sub xhd_BadHour xty_BadHour ss_BadHour su_BadSpan_BadHour
    kt_BadSpan_BadAmounts := kit_sub xhd_BadAmounts xty_BadAmounts ss_BadAmounts su_BadSpan_BadAmounts
  }
  exact ⟨A.d_law, fun s v => .of_eq rfl, fun base _ _ => ok_law (base := base) T⟩
theorem walk {l : PySem.W.OpenLaw} {q : Program} {loose : List Str} {XP : (Str → Option Value) → Heap → Prop} {YP : World → Heap → Prop} {d : DefRec} {K : Params → PySem.W.Frag} (hn : l.most = some 63) (hdf : d.params.defaults = [])
    (hY : ∀ (w : World) (h : Heap), YP w h → (K w.params).In h)
    (F : ∀ (w : World) (mg : Str → Option Value) (fa : Addr) (h : Heap), (K w.params).In h → h.Ns mainGlobals mg → mg d.name = some (.ref fa) →
      ∃ fd : FuncData, (∀ (s : Shared) (u : Value), BindsTo s fd ⟨[u], []⟩ [("_law_script", u)]) ∧ ∀ base : Heap, (K w.params).In base → base.Ns mainGlobals mg → FnOk l.prog w (K w.params) mg base CX0 lawLvl fa fd ["_law_script"] (spLaw (K w.params))) :
    PySem.W.WalkO q loose XP YP l.row.toRowW d [] (fun f vs => PySem.call f vs) :=
  L2.walk_ofB (n := 63) (k := lawLvl) (x := "_law_script") (CX := fun _ => CX0) (sp := fun w => spLaw (K w.params)) hn (by decide) hdf ⟨rfl, by decide, by decide⟩ hY F (fun _ _ a ns hl hb _ hS => ⟨a, ns, rfl, hS, hl, hb, fun _ => rfl⟩) fun _ _ _ _ _ z => z
end LW
open PySem PySem.W PyProof.Rows
set_option maxRecDepth 100000 in
set_option maxHeartbeats 0 in
theorem PySem.Challenge.cw_gangbooks_k06_spans_by_hours_holds : PySem.Challenge.rw_gangbooks_k06_spans_by_hours.Holds := by
  w_on; o_law; k_head; (case hw => w_witness2)
  k_fill
  refine LW.walk (l := PySem.Challenge.rw_gangbooks_k06_spans_by_hours) rfl rfl (fun w h Y => PySem.W.kIn_of Y) ?F
  case F =>
    intro w mg fa h KX G hmg
    refine' LW.all_mk KX G hmg ?nb_ValueError ?nb_bool ?nb_int ?nb_isinstance ?nb_len ?nb_list ?nb_max ?nb_min ?nb_range ?ag_Span ?ag_GangError ?ag_BadAmounts ?ag_BadSpan ?ag_BadHour ?at_GangError_init ?lk_GangError_init ?co_GangError_init ?ke_GangError_init ?fn_GangError_init ?at_Span_init ?lk_Span_init ?co_Span_init ?ke_Span_init ?fn_Span_init ?at_Span_rshift ?lk_Span_rshift ?co_Span_rshift ?ke_Span_rshift ?fn_Span_rshift ?at_Span_lshift ?lk_Span_lshift ?co_Span_lshift ?ke_Span_lshift ?fn_Span_lshift ?at_Span_and ?lk_Span_and ?co_Span_and ?ke_Span_and ?fn_Span_and ?at_Span_or ?lk_Span_or ?co_Span_or ?ke_Span_or ?fn_Span_or ?at_Span_bool ?lk_Span_bool ?co_Span_bool ?ke_Span_bool ?fn_Span_bool ?at_Span_xor ?lk_Span_xor ?co_Span_xor ?ke_Span_xor ?fn_Span_xor ?at_Span_contains ?lk_Span_contains ?co_Span_contains ?ke_Span_contains ?fn_Span_contains ?at_Span_eq ?lk_Span_eq ?co_Span_eq ?ke_Span_eq ?fn_Span_eq ?at_Span_len ?lk_Span_len ?co_Span_len ?ke_Span_len ?fn_Span_len ?at_pool ?lk_pool ?co_pool ?ke_pool ?at_draw ?lk_draw ?co_draw ?ke_draw ?at_hour ?lk_hour ?co_hour ?ke_hour ?at_ends ?lk_ends ?co_ends ?ke_ends ?at_whole ?lk_whole ?co_whole ?ke_whole ?at_has ?lk_has ?co_has ?ke_has ?at_is ?lk_is ?co_is ?ke_is ?at_refused ?lk_refused ?co_refused ?ke_refused ?at_earlier ?lk_earlier ?co_earlier ?ke_earlier ?at_both ?lk_both ?co_both ?ke_both ?at_law ?lk_law ?co_law ?ke_law ?pg_Span ?hd_Span ?po_Span ?sa_Span ?mk_Span ?kp_Span ?sf_Span ?k1_Span ?k4_Span ?no_Span_start ?no_Span_end ?ir_Span_rshift ?iz_Span_rshift ?i1_Span_rshift ?i2_Span_rshift ?is_Span_rshift ?ir_Span_lshift ?iz_Span_lshift ?i1_Span_lshift ?i2_Span_lshift ?is_Span_lshift ?kg ?kt ?xl_GangError ?xr_GangError ?xsa_GangError ?xex_GangError ?xty_GangError ?xkp_GangError ?xin_GangError ?xno_GangError ?xga_GangError ?xgg_GangError ?xhd_GangError ?xk1_GangError ?xk4_GangError ?xem_GangError ?xl_BadAmounts ?xr_BadAmounts ?xsa_BadAmounts ?xex_BadAmounts ?xty_BadAmounts ?xkp_BadAmounts ?xin_BadAmounts ?xno_BadAmounts ?xga_BadAmounts ?xgg_BadAmounts ?xhd_BadAmounts ?xk1_BadAmounts ?xk4_BadAmounts ?xem_BadAmounts ?xl_BadSpan ?xr_BadSpan ?xsa_BadSpan ?xex_BadSpan ?xty_BadSpan ?xkp_BadSpan ?xin_BadSpan ?xno_BadSpan ?xga_BadSpan ?xgg_BadSpan ?xhd_BadSpan ?xk1_BadSpan ?xk4_BadSpan ?xem_BadSpan ?xl_BadHour ?xr_BadHour ?xsa_BadHour ?xex_BadHour ?xty_BadHour ?xkp_BadHour ?xin_BadHour ?xno_BadHour ?xga_BadHour ?xgg_BadHour ?xhd_BadHour ?xk1_BadHour ?xk4_BadHour ?xem_BadHour ?tI_GangError ?ss_BadSpan ?su_BadSpan_BadSpan ?su_BadSpan_ValueError ?ss_BadHour ?su_BadSpan_BadHour ?ss_BadAmounts ?su_BadSpan_BadAmounts
    (case nb_ValueError => k_is)
    (case nb_bool => k_is)
    (case nb_int => k_is)
    (case nb_isinstance => k_is)
    (case nb_len => k_is)
    (case nb_list => k_is)
    (case nb_max => k_is)
    (case nb_min => k_is)
    (case nb_range => k_is)
    (case ag_Span => k_is)
    (case ag_GangError => k_is)
    (case ag_BadAmounts => k_is)
    (case ag_BadSpan => k_is)
    (case ag_BadHour => k_is)
    (case at_GangError_init => k_is)
    (case lk_GangError_init => k_is)
    (case co_GangError_init => k_is)
    (case ke_GangError_init => k_is)
    (case fn_GangError_init => k_is)
    (case at_Span_init => k_is)
    (case lk_Span_init => k_is)
    (case co_Span_init => k_is)
    (case ke_Span_init => k_is)
    (case fn_Span_init => k_is)
    (case at_Span_rshift => k_is)
    (case lk_Span_rshift => k_is)
    (case co_Span_rshift => k_is)
    (case ke_Span_rshift => k_is)
    (case fn_Span_rshift => k_is)
    (case at_Span_lshift => k_is)
    (case lk_Span_lshift => k_is)
    (case co_Span_lshift => k_is)
    (case ke_Span_lshift => k_is)
    (case fn_Span_lshift => k_is)
    (case at_Span_and => k_is)
    (case lk_Span_and => k_is)
    (case co_Span_and => k_is)
    (case ke_Span_and => k_is)
    (case fn_Span_and => k_is)
    (case at_Span_or => k_is)
    (case lk_Span_or => k_is)
    (case co_Span_or => k_is)
    (case ke_Span_or => k_is)
    (case fn_Span_or => k_is)
    (case at_Span_bool => k_is)
    (case lk_Span_bool => k_is)
    (case co_Span_bool => k_is)
    (case ke_Span_bool => k_is)
    (case fn_Span_bool => k_is)
    (case at_Span_xor => k_is)
    (case lk_Span_xor => k_is)
    (case co_Span_xor => k_is)
    (case ke_Span_xor => k_is)
    (case fn_Span_xor => k_is)
    (case at_Span_contains => k_is)
    (case lk_Span_contains => k_is)
    (case co_Span_contains => k_is)
    (case ke_Span_contains => k_is)
    (case fn_Span_contains => k_is)
    (case at_Span_eq => k_is)
    (case lk_Span_eq => k_is)
    (case co_Span_eq => k_is)
    (case ke_Span_eq => k_is)
    (case fn_Span_eq => k_is)
    (case at_Span_len => k_is)
    (case lk_Span_len => k_is)
    (case co_Span_len => k_is)
    (case ke_Span_len => k_is)
    (case fn_Span_len => k_is)
    (case at_pool => k_is)
    (case lk_pool => k_is)
    (case co_pool => k_is)
    (case ke_pool => k_is)
    (case at_draw => k_is)
    (case lk_draw => k_is)
    (case co_draw => k_is)
    (case ke_draw => k_is)
    (case at_hour => k_is)
    (case lk_hour => k_is)
    (case co_hour => k_is)
    (case ke_hour => k_is)
    (case at_ends => k_is)
    (case lk_ends => k_is)
    (case co_ends => k_is)
    (case ke_ends => k_is)
    (case at_whole => k_is)
    (case lk_whole => k_is)
    (case co_whole => k_is)
    (case ke_whole => k_is)
    (case at_has => k_is)
    (case lk_has => k_is)
    (case co_has => k_is)
    (case ke_has => k_is)
    (case at_is => k_is)
    (case lk_is => k_is)
    (case co_is => k_is)
    (case ke_is => k_is)
    (case at_refused => k_is)
    (case lk_refused => k_is)
    (case co_refused => k_is)
    (case ke_refused => k_is)
    (case at_earlier => k_is)
    (case lk_earlier => k_is)
    (case co_earlier => k_is)
    (case ke_earlier => k_is)
    (case at_both => k_is)
    (case lk_both => k_is)
    (case co_both => k_is)
    (case ke_both => k_is)
    (case at_law => k_is)
    (case lk_law => k_is)
    (case co_law => k_is)
    (case ke_law => k_is)
    (case pg_Span => k_is)
    (case hd_Span => k_is)
    (case po_Span => k_is)
    (case sa_Span => k_is)
    (case mk_Span => k_is)
    (case kp_Span => k_is)
    (case sf_Span => k_is)
    (case k1_Span => k_is)
    (case k4_Span => k_is)
    (case no_Span_start => k_is)
    (case no_Span_end => k_is)
    (case ir_Span_rshift => k_is)
    (case iz_Span_rshift => first | exact .inl rfl | exact .inr ⟨_, rfl⟩)
    (case i1_Span_rshift => k_is)
    (case i2_Span_rshift => k_is)
    (case is_Span_rshift => k_is)
    (case ir_Span_lshift => k_is)
    (case iz_Span_lshift => first | exact .inl rfl | exact .inr ⟨_, rfl⟩)
    (case i1_Span_lshift => k_is)
    (case i2_Span_lshift => k_is)
    (case is_Span_lshift => k_is)
    (case kg => k_is)
    (case kt => k_is)
    (case xl_GangError => k_is)
    (case xr_GangError => first | rfl | decide +kernel)
    (case xsa_GangError => k_is)
    (case xex_GangError => k_is)
    (case xty_GangError => k_is)
    (case xkp_GangError => k_is)
    (case xin_GangError => k_is)
    (case xno_GangError => k_is)
    (case xga_GangError => k_is)
    (case xgg_GangError => k_is)
    (case xhd_GangError => k_is)
    (case xk1_GangError => k_is)
    (case xk4_GangError => k_is)
    (case xem_GangError => first | rfl | k_is)
    (case xl_BadAmounts => k_is)
    (case xr_BadAmounts => first | rfl | decide +kernel)
    (case xsa_BadAmounts => k_is)
    (case xex_BadAmounts => k_is)
    (case xty_BadAmounts => k_is)
    (case xkp_BadAmounts => k_is)
    (case xin_BadAmounts => k_is)
    (case xno_BadAmounts => k_is)
    (case xga_BadAmounts => k_is)
    (case xgg_BadAmounts => k_is)
    (case xhd_BadAmounts => k_is)
    (case xk1_BadAmounts => k_is)
    (case xk4_BadAmounts => k_is)
    (case xem_BadAmounts => first | rfl | k_is)
    (case xl_BadSpan => k_is)
    (case xr_BadSpan => first | rfl | decide +kernel)
    (case xsa_BadSpan => k_is)
    (case xex_BadSpan => k_is)
    (case xty_BadSpan => k_is)
    (case xkp_BadSpan => k_is)
    (case xin_BadSpan => k_is)
    (case xno_BadSpan => k_is)
    (case xga_BadSpan => k_is)
    (case xgg_BadSpan => k_is)
    (case xhd_BadSpan => k_is)
    (case xk1_BadSpan => k_is)
    (case xk4_BadSpan => k_is)
    (case xem_BadSpan => first | rfl | k_is)
    (case xl_BadHour => k_is)
    (case xr_BadHour => first | rfl | decide +kernel)
    (case xsa_BadHour => k_is)
    (case xex_BadHour => k_is)
    (case xty_BadHour => k_is)
    (case xkp_BadHour => k_is)
    (case xin_BadHour => k_is)
    (case xno_BadHour => k_is)
    (case xga_BadHour => k_is)
    (case xgg_BadHour => k_is)
    (case xhd_BadHour => k_is)
    (case xk1_BadHour => k_is)
    (case xk4_BadHour => k_is)
    (case xem_BadHour => first | rfl | k_is)
    (case tI_GangError => k_is)
    (case ss_BadSpan => first | rfl | k_is)
    (case su_BadSpan_BadSpan => first | rfl | k_is)
    (case su_BadSpan_ValueError => first | rfl | k_is)
    (case ss_BadHour => first | rfl | k_is)
    (case su_BadSpan_BadHour => first | rfl | k_is)
    (case ss_BadAmounts => first | rfl | k_is)
    (case su_BadSpan_BadAmounts => first | rfl | k_is)
