import PyProof.Rows.All
import Wide.All
import OpenK.AllK
import Wide.FinOn
import PyProof.EqAt
import PyProof.EqKinds
import PyProof.TupleCall
import HandS.Base
import HandS.Call
import HandS.List
import HandS.Exc
import HandS.IsInst
import HandS.ExcOwn
import HandS.ExcInit
import HandS.ExcField
import HandS.ExcIs
import HandS.TryOnly
import HandS.CallSlots
import HandS.Words
import HandS.WordsExc
import KE.KExcIs
import HandS.Sort
import PyProof.Rows.RuleN_abs
import HandS.Comp
import HandS.Conv
import HandS.EndBits
import HandS.Gcd
import HandS.Property
import HandS.Defaults
import HandS.Wide
import PySem.Challenge.RW_gangbooks_k00_share_lowest
set_option Elab.async false
set_option linter.all false
set_option maxRecDepth 100000
set_option maxHeartbeats 4000000
/-! own operators over the layer -/
namespace L2
open PySem PySem.Spec PyProof.Rows
theorem cmpBack_of {Q : Value → Shared → Prop} {v : V} {u : Value} {s : Shared} (r : RelV v u) (q : Q u s) : PySem.W.CmpBack Q u s := by
  cases v with
  | non => cases (show u = Value.none from r); exact q
  | bl b => cases (show u = Value.bool b from r); exact q
  | int i => obtain ⟨t, e⟩ := (show ∃ t, u = Value.int i t from r); cases e; exact q
  | str x => obtain ⟨t, e⟩ := (show ∃ t, u = Value.str x t from r); cases e; exact q
  | byt x => obtain ⟨t, e⟩ := (show ∃ t, u = Value.bytes x t from r); cases e; exact q
  | flt x => obtain ⟨t, e⟩ := (show ∃ t, u = Value.float x t from r); cases e; exact q
  | ref a => cases (show u = Value.ref a from r); exact q
  | ty n => cases (show u = Value.type n from r); exact q
section
variable {X : Cx} {pins : List (Addr × Obj)} {σ : St} {H : Hp} {s : Shared} {a C dx : Addr} {fs : List (Str × V)}
theorem Inv.instAt (I : Inv X pins σ H s) (e : H a = some (.ins C dx fs)) : ∃ od, PySem.W.InstAt s.heap a (PySem.W.instObj C dx) C (some od) := by
  obtain ⟨mA, J, _⟩ := ins_get I.hok e
  obtain ⟨od, h, _⟩ := J.look
  exact ⟨od, h⟩
end
section
variable {X : Cx} {CX : CXT} {k : Nat} {f C : Addr} {fd : FuncData} {ps : List Str} {sp : Sp} {dvs : List V} {ds : List Value} {E : XK}
/-- the callee runs, within some units of the C stack -/
theorem run_fnA {A : Around} {pins : List (Addr × Obj)} {σ : St} {H : Hp} {s : Shared} {Q : VK} {us : List Value} {vs : List V} (hfA : A.frames = X.A.frames) (F : FnOk X.prog X.w X.K X.mg X.base CX k f fd ps sp) (hr : Room k A) (hb : Binds X.K fd ps ds) (hd : Vals dvs ds) (hx : Passes CX X E)
    (I : Inv X pins σ H s) (r : Vals vs us) (h : sp (vs ++ dvs) H Q E) : wpAny (model X.prog X.w) A (call (.ref f) us) (EP X pins σ Q) X.xe s := by
  have r2 : Vals (vs ++ dvs) (us ++ ds) := r.append hd
  have hl : (us ++ ds).length = ps.length := by rw [← r2.length]; exact F.len _ _ _ _ h
  have e0 := I.env0
  have e1 : Env0 X.prog X.w X.K X.mg X.base A X.stack s H := ⟨hfA.trans e0.frames, e0.mod, e0.bs, e0.bsz, e0.funs, e0.frf, e0.hok, e0.bare⟩
  refine wpAny_call (codeAny_mono (F.run A X.stack s H ⟨us, []⟩ (us ++ ds) (vs ++ dvs) Q E hr e1 (hb s us I.kIn hl) r2 h) fun r s' hq => ?_)
  cases r with
  | error e => exact hx pins σ H s e s' I hq
  | ok fl =>
    cases fl with
    | ret u => exact I.after hq
    | next => exact False.elim hq
    | brk => exact False.elim hq
    | cont => exact False.elim hq
/-- x op y, both of the class at C -/
def rOwn (C : Addr) (sp : Sp) (E : XK) : R2 := fun x y H Q => ∃ a dx fs b dy gs, x = .ref a ∧ H a = some (.ins C dx fs) ∧ y = .ref b ∧ H b = some (.ins C dy gs) ∧ sp [x, y] H Q E
theorem op_own {op : Operator} (hm : Meth X.K C (PySem.dunder op.info.2) f) (hc : PySem.W.selfFirst X.K C = true) (F : FnOk X.prog X.w X.K X.mg X.base CX k f fd ps sp) (hr : Room k X.A) (hb : Binds X.K fd ps []) (hx : Passes CX X E) :
    OpR X (binaryOp op) (rOwn C sp E) := by
  intro pins s σ H x y v u Q I rx ry h
  obtain ⟨a, dx, fs, b, dy, gs, rfl, ea, rfl, eb, h⟩ := h
  obtain rfl : v = Value.ref a := rx
  obtain rfl : u = Value.ref b := ry
  obtain ⟨od, J⟩ := I.instAt ea
  obtain ⟨od', J'⟩ := I.instAt eb
  obtain ⟨m, fr⟩ := I.fr
  refine PySem.W.binop_K fr I.ok.mod.kin J J'.type hc hm.at_ hm.fn (thn (run_fnA (us := [.ref a, .ref b]) (vs := [.ref a, .ref b]) (dvs := []) rfl F hr hb .nil hx I (.cons rfl (.cons rfl .nil)) h) fun w s' q => ?_)
  obtain ⟨v', H', I', rv, q⟩ := q
  exact cmpBack_of rv ⟨v', H', I', rv, q⟩
/-- x op i, an int on the right -/
def rOwnI (C : Addr) (sp : Sp) (E : XK) : R2 := fun x y H Q => ∃ a dx fs i, x = .ref a ∧ H a = some (.ins C dx fs) ∧ y = .int i ∧ sp [x, y] H Q E
structure OwnI (K : PySem.W.Frag) (C : Addr) (op : Operator) : Prop where
  r : ∃ rc, PySem.W.findIn K (.ref C) (dunderR op.info.2) = some rc ∧ (rc = none ∨ ∃ g : Addr, rc = some (.ref g))
  i1 : ∃ fo, PySem.W.findIn K (.type "int") (PySem.dunder op.info.2) = some fo
  i2 : ∃ ro, PySem.W.findIn K (.type "int") (dunderR op.info.2) = some ro
  sub : PySem.W.subIn K (.type "int") (.ref C) = some false
theorem op_ownI {op : Operator} (hm : Meth X.K C (PySem.dunder op.info.2) f) (hc : PySem.W.selfFirst X.K C = true) (hi : OwnI X.K C op) (F : FnOk X.prog X.w X.K X.mg X.base CX k f fd ps sp) (hr : Room k X.A) (hb : Binds X.K fd ps []) (hx : Passes CX X E) :
    OpR X (binaryOp op) (rOwnI C sp E) := by
  intro pins s σ H x y v u Q I rx ry h
  obtain ⟨a, dx, fs, i, rfl, ea, rfl, h⟩ := h
  obtain rfl : v = Value.ref a := rx
  obtain ⟨t, rfl⟩ := (show ∃ t, u = Value.int i t from ry)
  obtain ⟨od, J⟩ := I.instAt ea
  obtain ⟨m, fr⟩ := I.fr
  obtain ⟨⟨rc, h1, h2⟩, ⟨fo, h3⟩, ⟨ro, h4⟩, h5⟩ := hi
  refine PySem.W.ksp_binT (T := "int") fr I.ok.mod.kin J rfl hc hm.at_ hm.fn h1 h2 h3 h4 h5 (thn (run_fnA (us := [.ref a, .int i t]) (vs := [.ref a, .int i]) (dvs := []) rfl F hr hb .nil hx I (.cons rfl (.cons ⟨t, rfl⟩ .nil)) h) fun w s' q => ?_)
  obtain ⟨v', H', I', rv, q⟩ := q
  exact cmpBack_of rv ⟨v', H', I', rv, q⟩
/-- -x -/
def rOwn1 (C : Addr) (sp : Sp) (E : XK) : V → Hp → VK → Prop := fun x H Q => ∃ a dx fs, x = .ref a ∧ H a = some (.ins C dx fs) ∧ sp [x] H Q E
theorem un_own (hm : Meth X.K C "__neg__" f) (F : FnOk X.prog X.w X.K X.mg X.base CX k f fd ps sp) (hr : Room k X.A) (hb : Binds X.K fd ps []) (hx : Passes CX X E) :
    UnR X (unaryOp .USub) (rOwn1 C sp E) := by
  intro pins s σ H x v Q I rx h
  obtain ⟨a, dx, fs, rfl, ea, h⟩ := h
  obtain rfl : v = Value.ref a := rx
  obtain ⟨od, J⟩ := I.instAt ea
  obtain ⟨m, fr⟩ := I.fr
  exact PySem.W.ksp_neg fr I.ok.mod.kin J hm.at_ hm.fn (run_fnA (us := [.ref a]) (vs := [.ref a]) (dvs := []) rfl F hr hb .nil hx I (.cons rfl .nil) h)
/-- truth by an own __bool__ -/
def rOwnT (C : Addr) (sp : Sp) (E : XK) : V → Hp → (Bool → Hp → Prop) → Prop := fun x H Q => ∃ a dx fs, x = .ref a ∧ H a = some (.ins C dx fs) ∧ sp [x] H (fun v H' => ∃ b, v = .bl b ∧ Q b H') E
theorem tru_ownA {A : Around} (hfA : A.frames = X.A.frames) (hm : Meth X.K C "__bool__" f) (F : FnOk X.prog X.w X.K X.mg X.base CX k f fd ps sp) (hr : Room k A) (hb : Binds X.K fd ps []) (hx : Passes CX X E) {pins : List (Addr × Obj)} {s : Shared} {σ : St} {H : Hp} {x : V} {v : Value} {Q : Bool → Hp → Prop}
    (I : Inv X pins σ H s) (rx : RelV x v) (h : rOwnT C sp E x H Q) : wpAny (model X.prog X.w) A (truthy v) (TP X pins σ Q) X.xe s := by
  obtain ⟨a, dx, fs, rfl, ea, h⟩ := h
  obtain rfl : v = Value.ref a := rx
  obtain ⟨od, J⟩ := I.instAt ea
  obtain ⟨m, fr⟩ := I.fr
  refine PySem.W.truthy_K fr I.ok.mod.kin J hm.at_ hm.fn (thn (run_fnA (us := [.ref a]) (vs := [.ref a]) (dvs := []) hfA F hr hb .nil hx I (.cons rfl .nil) h) fun w s' q => ?_)
  obtain ⟨v', H', I', rv, b, rfl, q⟩ := q
  obtain rfl : w = Value.bool b := rv
  exact ⟨H', I', q⟩
theorem tru_own (hm : Meth X.K C "__bool__" f) (F : FnOk X.prog X.w X.K X.mg X.base CX k f fd ps sp) (hr : Room k X.A) (hb : Binds X.K fd ps []) (hx : Passes CX X E) : TruR X (rOwnT C sp E) :=
  fun _ _ _ _ _ _ _ I rx h => tru_ownA rfl hm F hr hb hx I rx h
/-- v in x, by an own __contains__ that hands back a bool -/
def rOwnIn (C : Addr) (sp : Sp) (E : XK) : R2 := fun y x H Q => ∃ a dx fs, x = .ref a ∧ H a = some (.ins C dx fs) ∧ sp [x, y] H (fun v H' => ∃ b, v = .bl b ∧ Q (.bl b) H') E
theorem op_inOwn (hm : Meth X.K C "__contains__" f) (F : FnOk X.prog X.w X.K X.mg X.base CX k f fd ps sp) (hr : Room k X.A) (hb : Binds X.K fd ps []) (hx : Passes CX X E) : OpR X (compareOp .In) (rOwnIn C sp E) := by
  intro pins s σ H y x v u Q I ry rx h
  obtain ⟨a, dx, fs, rfl, ea, h⟩ := h
  obtain rfl : u = Value.ref a := rx
  obtain ⟨od, J⟩ := I.instAt ea
  obtain ⟨m, fr⟩ := I.fr
  refine PySem.W.in_K fr I.ok.mod.kin J hm.at_ hm.fn (thn (run_fnA (us := [.ref a, v]) (vs := [.ref a, y]) (dvs := []) rfl F hr hb .nil hx I (.cons rfl (.cons ry .nil)) h) fun w s' q => ?_)
  obtain ⟨v', H', I', rv, b, rfl, q⟩ := q
  obtain rfl : w = Value.bool b := rv
  exact wpAny_truthy_bool ⟨.bl b, H', I', rfl, q⟩
/-- len(x) by an own __len__ -/
def rOwnLen (C : Addr) (sp : Sp) (E : XK) : List V → Hp → VK → Prop := fun xs H Q => ∃ a dx fs, xs = [.ref a] ∧ H a = some (.ins C dx fs) ∧ sp [.ref a] H (fun v H' => ∃ n : Int, v = .int n ∧ 0 ≤ n ∧ n < 2 ^ 63 ∧ Q (.int n) H') E
theorem call_lenOwn (hm : Meth X.K C "__len__" f) (F : FnOk X.prog X.w X.K X.mg X.base CX k f fd ps sp) (hr : Room (k + 1) X.A) (hb : Binds X.K fd ps []) (hx : Passes CX X E) : CallR X (.builtin "len") (rOwnLen C sp E) := by
  intro pins s σ H xs us Q I r h
  obtain ⟨a, dx, fs, rfl, ea, h⟩ := h
  obtain ⟨u, rfl, ru⟩ := vals1 r
  obtain rfl : u = Value.ref a := ru
  obtain ⟨od, J⟩ := I.instAt ea
  obtain ⟨m, fr⟩ := I.fr
  refine PySem.W.len_K fr I.ok.mod.kin J hm.at_ hm.fn (thn (run_fnA (A := X.A.in1) (us := [.ref a]) (vs := [.ref a]) (dvs := []) rfl F hr.in1 hb .nil hx I (.cons rfl .nil) h) fun w s' q => ?_)
  obtain ⟨v', H', I', rv, n, rfl, h0, h1, q⟩ := q
  obtain ⟨t, rfl⟩ := (show ∃ t, w = Value.int n t from rv)
  exact ⟨⟨h0, h1⟩, .int n, H', I'.tok _, ⟨_, rfl⟩, q⟩
end
end L2

namespace L2
open PySem PySem.Spec PyProof.Rows
section
variable {X : Cx} {CX : CXT} {k : Nat} {f C : Addr} {fd : FuncData} {ps : List Str} {sp : Sp} {E : XK}
theorem meets_bool_any {prog : Program} {w : World} (x : Value) : MeetsIn prog w (Builtin.«bool.__new__» ⟨[.type "bool", x], []⟩) (fun A R s => wpAny (model prog w) A.in1 (truthy x) (fun b s' => R (.ok (.ret (.bool b))) s') (fun e s' => R (.error e) s') s) :=
  MeetsIn.of_wp fun A R s hs => by
    have f1 := F.conv_sub_bool
    obtain ⟨hp, g, d, tk, os⟩ := s
    repeat (any_goals (first | assumption | (with_reducible refine wpAny_bind (wpAny_mono hs (fun b s' q => ?_) fun _ _ z => z)) | (with_reducible refine wpAny_mono hs (fun b s' q => ?_) fun _ _ z => z) | wp_step))
    all_goals first | exact ⟨_, rfl, q⟩ | exact q | skip
/-- bool(x), by an own __bool__ -/
def rBoolOwn (C : Addr) (sp : Sp) (E : XK) : List V → Hp → VK → Prop := fun xs H Q => ∃ x, xs = [x] ∧ rOwnT C sp E x H fun b H' => Q (.bl b) H'
theorem call_boolOwn (hm : Meth X.K C "__bool__" f) (Fk : FnOk X.prog X.w X.K X.mg X.base CX k f fd ps sp) (hr : Room (k + 2) X.A) (hb : Binds X.K fd ps []) (hx : Passes CX X E) : CallR X (.type "bool") (rBoolOwn C sp E) := by
  intro pins s σ H xs us Q I r h
  obtain ⟨x, rfl, h⟩ := h
  obtain ⟨u, rfl, ru⟩ := vals1 r
  refine callType_newIn PySem.F.called_bool PySem.F.newNe_bool (PySem.F.typeCall_bool_1 u) (PySem.F.newCall_bool_1 u) (fun obj => PySem.F.args_object_init_2 obj u) PySem.F.entry_bool_new (meets_bool_any u) ?_
  refine thn (tru_ownA (A := X.A.in1.in1) rfl hm Fk hr.in1.in1 hb hx I ru h) fun b s' ⟨H', I', q⟩ => ?_
  exact ⟨rfl, .bl b, H', I', rfl, q⟩
end
end L2
namespace L2
open PySem PySem.Spec PyProof.Rows
section
variable {X : Cx} {CX : CXT} {k : Nat} {f C : Addr} {fd : FuncData} {ps : List Str} {sp : Sp} {E : XK}
/-- x == y by an own __eq__, y of the class or of a kind that is no subclass of it -/
def rEqOwn (K : PySem.W.Frag) (C : Addr) (sp : Sp) (E : XK) : R2 := fun x y H Q => ∃ a dx fs t, x = .ref a ∧ H a = some (.ins C dx fs) ∧ TyX K H y t ∧ PySem.W.notFirst K C t = true ∧ sp [x, y] H Q E
theorem op_eqOwn (hm : Meth X.K C "__eq__" f) (F : FnOk X.prog X.w X.K X.mg X.base CX k f fd ps sp) (hr : Room k X.A) (hb : Binds X.K fd ps []) (hx : Passes CX X E) : OpR X (compareOp .Eq) (rEqOwn X.K C sp E) := by
  intro pins s σ H x y v u Q I rx ry h
  obtain ⟨a, dx, fs, t, rfl, ea, ty, hn, h⟩ := h
  obtain rfl : v = Value.ref a := rx
  obtain ⟨od, J⟩ := I.instAt ea
  obtain ⟨m, fr⟩ := I.fr
  obtain ⟨P, Z, p, _⟩ := kit_of I ry ty
  have hb' := Z.ty (model X.prog X.w) _ I.kIn p
  show wpAny _ _ (richCompare .Eq (.ref a) u) _ _ _
  refine PySem.W.cmp_K (op := .Eq) hr.units0 fr I.ok.mod.kin J hb' hn hm.at_ hm.fn (thn (run_fnA (us := [.ref a, u]) (vs := [.ref a, y]) (dvs := []) rfl F hr hb .nil hx I (.cons rfl (.cons ry .nil)) h) fun w s' q => ?_)
  obtain ⟨v', H', I', rv, q⟩ := q
  exact cmpBack_of rv ⟨v', H', I', rv, q⟩
end
end L2
namespace PySem.W
open PySem PySem.Spec PySem.Calls PyProof.Rows
section
variable {prog : Program} {w : World} {A : Around} {E : Value → Shared → Prop} {s : Shared} {K : Frag} {x D : Addr} {ox : Obj}
theorem gb_kitx_exc {od : Option Obj} (hga : findIn K (.ref D) "__getattribute__" = some (some (.builtin "BaseException.__getattribute__"))) (hgt : findIn K (.ref D) "__getattr__" = some none) (hsub : subIn K (.ref D) (.type "BaseException") = some true) (hdct : hasDictIn K D = true) (ha : findIn K (.ref D) "__class__" = some (some (.builtin "object.__class__")))
    (hn : specialIn K (.builtin "object.__class__") "__get__" = some (some (.builtin "getset_descriptor.__get__"))) (htk : takesIn K (.builtin "object.__class__") = some true) (hm : mroIn K D (.type "object") = some true) :
    KitX K (.ref x) (.ref D) (fun h => InstAt h x ox D od) where
  ty := fun _ _ _ I => I.type
  it := fun _ _ X _ => by
    obtain ⟨cdD, hcD, _⟩ := any_some hdct
    unfold clsIn at hcD
    split at hcD
    · rename_i c' d' cd' sl' ho
      intro A' Q' E' s' k q
      unfold isType loadHead
      exact wpAny_bind (wpAny_loadPart (k _ _ (X _ _ ho)) (wpAny_pure q))
    · cases hcD
  ne := fun h tp dd its n sl X htp => by
    obtain ⟨cdD, hcD, _⟩ := any_some hdct
    refine Bool.eq_false_iff.mpr fun q => ?_
    have e : D = tp := Value.ref.inj (beq_iff_eq.mp q)
    subst e
    unfold clsIn at hcD
    split at hcD
    · rename_i c' d' cd' sl' ho
      have z := (X _ _ ho).symm.trans htp
      cases z
    · cases hcD
  ca := fun X I k => kx_classE X I hga hgt hsub (findObj_dataE (by obtain ⟨cd, hc, _⟩ := any_some hdct; rw [hc]; rfl) ha hn htk) hm k
end
end PySem.W
namespace L2
open PySem PySem.Spec PyProof.Rows
/-- isinstance(e, c), e the exception that the suite holds, with its own dict -/
def rIsX (K : PySem.W.Frag) (a : Addr) (cls : Value) (d : Option Addr) : List V → Hp → VK → Prop := fun xs H Q => ∃ (c : V) (cv : Value) (b : Bool) (D dd : Addr) (fs : List (Str × V)), xs = [.ref a, c] ∧ (∀ u, RelV c u → u = cv) ∧ cls = .ref D ∧ ExcC K D ∧ d = some dd ∧ H dd = some (.xd fs) ∧ PySem.W.kitOne K (.ref D) cv = some b ∧ Q (.bl b) H
theorem instX {X : Cx} {pins : List (Addr × Obj)} {σ : St} {H : Hp} {s : Shared} {a D dd : Addr} {oe : Obj} {pn : List (Addr × Obj)} {fs : List (Str × V)} (I : Inv (X.suite a ((a, oe) :: pn)) pins σ H s) (hz : Zc (.ref D) (some dd) oe) (hf : ∃ vs, oe.data = .fields vs) (he : H dd = some (.xd fs)) : ∃ od, PySem.W.InstAt s.heap a oe D (some od) := by
  obtain ⟨hget, _⟩ := I.pin (a, oe) (List.mem_append.mpr (.inl List.mem_cons_self))
  obtain ⟨vs, hv⟩ := hf
  obtain ⟨mA, ⟨od, es, ep, e1, e2, e3⟩, r⟩ := (show ObjOk X.prog X.w H s.heap dd (.xd fs) from I.hok dd _ he)
  exact ⟨od, hget, hz.1, by unfold PySem.W.notCls; rw [hv] <;> rfl, by rw [hz.2]; exact e1⟩
theorem call_isX {X : Cx} {a : Addr} {cls : Value} {d : Option Addr} {oe : Obj} {pn : List (Addr × Obj)} (hz : Zc cls d oe) (hf : ∃ vs, oe.data = .fields vs) : CallR (X.suite a ((a, oe) :: pn)) (.builtin "isinstance") (rIsX X.K a cls d) := by
  intro pins s σ H xs us Q I r h
  obtain ⟨c, cv, b, D, dd, fs, rfl, hcv, rfl, C, rfl, hd, e, q⟩ := h
  obtain ⟨u1, u2, rfl, rx, rt⟩ := vals2 r
  cases rx
  have ec := hcv _ rt
  subst ec
  obtain ⟨od, J⟩ := instX I hz hf hd
  exact PySem.W.kia_one (PySem.W.gb_kitx_exc C.hg C.hk C.hs C.hd C.ha C.hn C.ht C.hm) I.kIn J e (fun z => nomatch z) fun tk => ⟨.bl b, H, I.kept (t' := tk) fun _ _ z => z, rfl, q⟩
/-- isinstance(e, (c1, c2, ..)) -/
def rIsXT (K : PySem.W.Frag) (a : Addr) (cls : Value) (d : Option Addr) : List V → Hp → VK → Prop := fun xs H Q => ∃ (tp : Addr) (cs : List V) (us : List Value) (b : Bool) (D dd : Addr) (fs : List (Str × V)), xs = [.ref a, .ref tp] ∧ H tp = some (.tup cs) ∧ Paired ClsV cs us ∧ cls = .ref D ∧ ExcC K D ∧ d = some dd ∧ H dd = some (.xd fs) ∧ PySem.W.kitAny K (.ref D) us = some b ∧ Q (.bl b) H
theorem call_isXT {X : Cx} {a : Addr} {cls : Value} {d : Option Addr} {oe : Obj} {pn : List (Addr × Obj)} (hz : Zc cls d oe) (hf : ∃ vs, oe.data = .fields vs) : CallR (X.suite a ((a, oe) :: pn)) (.builtin "isinstance") (rIsXT X.K a cls d) := by
  intro pins s σ H xs us Q I r h
  obtain ⟨tp, cs, ws, b, D, dd, fs, rfl, hT, k, rfl, C, rfl, hd, e, q⟩ := h
  obtain ⟨u1, u2, rfl, rx, rt⟩ := vals2 r
  cases rx
  cases (show u2 = Value.ref tp from rt)
  obtain ⟨od, J⟩ := instX I hz hf hd
  obtain ⟨_, its, rv, o, h1, h2, n, h3⟩ := (show ObjOk X.prog X.w H s.heap tp (.tup cs) from I.hok tp _ hT)
  have e3 := ClsV.all k rv
  subst e3
  obtain ⟨oc, od, dt, sl⟩ := o
  simp only at h2 h3
  subst h2 h3
  exact PySem.W.kia_tup (PySem.W.gb_kitx_exc C.hg C.hk C.hs C.hd C.ha C.hn C.ht C.hm) I.kIn J h1 e (fun z => nomatch z) fun tk => ⟨.bl b, H, I.kept (t' := tk) fun _ _ z => z, rfl, q⟩
theorem exc_heap {H : Hp} {a d : Addr} {o1 o2 o3 u : HO} (h : H a = none) : upd (del (upd (upd (upd H a o1) d o2) a o3) a) d u = upd H d u := by
  funext b
  by_cases hd : b = d
  · subst hd; rw [upd_same, upd_same]
  · rw [upd_ne hd, upd_ne hd]
    by_cases ha : b = a
    · subst ha; rw [del_same, h]
    · rw [del_ne ha, upd_ne ha, upd_ne hd, upd_ne ha]
/-- what the classes of errors are, over one base with __init__(self, subject) -/
structure GExc (K : PySem.W.Frag) (C fI : Addr) : Prop where
  oex : OexC K C
  iC : PySem.W.findIn K (.ref C) "__init__" = some (some (.ref fI))
  tI : PySem.W.typeIn K (.ref fI) = some (.type "function")
  noS : PySem.W.findIn K (.ref C) "subject" = some none
/-- __init__(self, subject): self.subject = subject -/
def spGI (K : PySem.W.Frag) : Sp := fun vs H Q _ => ∃ (a C : Addr) (v : V), vs = [.ref a, v] ∧ OexC K C ∧ PySem.W.findIn K (.ref C) "subject" = some none ∧ H a = some (exo a C none) ∧
  ∀ dx, H dx = none → dx ≠ a → Q .non (upd (upd H dx (exd dx [(("subject" : Str), v)])) a (exo a C (some dx)))
/-- raise X(e): what it wants of e's value and the heap behind it -/
def RaiseG (K : PySem.W.Frag) (C : Addr) (W : WX) (σ : St) (v : V) (H1 : Hp) : Prop := ([v] : List V).length ≤ 1000 ∧ ∀ a, H1 a = none → spGI K (.ref a :: ([v] ++ [])) (upd H1 a (exo a C none))
  (fun v' H2 => v' = .non ∧ ∃ (d : Addr) (fs : List (Str × V)), H2 a = some (exo a C (some d)) ∧ H2 d = some (exd d fs) ∧ H1 d = none ∧ W (.ref C) (some d) σ (upd (del H2 a) d (.xd fs))) (fun _ _ _ => False)
theorem raiseG_in {K : PySem.W.Frag} {C fI : Addr} {W : WX} {σ : St} {v : V} {H1 : Hp} (T : GExc K C fI) (h : ∀ d, H1 d = none → W (.ref C) (some d) σ (upd H1 d (.xd [(("subject" : Str), v)]))) : RaiseG K C W σ v H1 := by
  refine ⟨by show 1 ≤ 1000; decide, fun a ha => ⟨a, C, v, rfl, T.oex, T.noS, upd_same, fun dx hdx hne => ⟨rfl, dx, [(("subject" : Str), v)], upd_same, ?_, ?_, ?_⟩⟩⟩
  · rw [upd_ne hne, upd_same]
  · rw [upd_ne hne] at hdx; exact hdx
  · rw [exc_heap ha]
    rw [upd_ne hne] at hdx
    exact h dx hdx
def tRaiseG (K : PySem.W.Frag) (C : Addr) (W : WX) (te : TE) : TS := fun _ σ H => te σ H fun v H1 => RaiseG K C W σ v H1
theorem ps_raiseG {X : Cx} {x : Str} {C fI : Addr} {k : Nat} {fd : FuncData} {ps : List Str} {W : WX} {e : Expr} {te : TE} {p pos pos2 : Pos} (hc : X.calm = true) (T : GExc X.K C fI)
    (F1 : FnOk X.prog X.w X.K X.mg X.base CX0 k fI fd ps (spGI X.K)) (hr : Room (k + 1) X.A) (hb : Binds X.K fd ps []) (hg : Gl X x) (hm : X.mg x = some (.ref C)) (tk : Takes X W) (ha : PE X e te)
    (hdb : (x == ("__debug__" : Str)) = false := by decide) (he : starEach [e] X.env = (false, eval e X.env) :: starEach [] X.env := by rfl) (hpl : (backTo pos (starEach [] X.env)).any (·.1) = false := by rfl) :
    PS X (.Raise (some (.Call (.Name x p) [e] [] pos)) none pos2) (tRaiseG X.K C W te) :=
  ps_raise (pos := pos2) hc tk (pmk_oex (p := p) (pos := pos) (dvs := []) T.oex T.iC T.tI F1 hr hb .nil (fun _ _ _ _ _ _ _ h => h.elim) hg hm (pa_cons ha pa_nil he) hdb he hpl)
/-- C(e, ..) of an own class in a try's body -/
def tMakeS (C : Addr) (sp : Sp) (E : St → XK) (t : TA) : TE := fun σ H Q => t σ H fun vs H1 => ∀ x dx, H1 x = none → H1 dx = none → dx ≠ x →
  sp (.ref x :: vs) (upd (upd H1 dx (.own x)) x (.ins C dx [])) (fun v H2 => v = .non ∧ Q (.ref x) H2) (E σ)
section
variable {X : Cx} {CX : CXT} {k : Nat} {f C : Addr} {fd : FuncData} {ps : List Str} {sp : Sp} {E : St → XK} {x : Str} {p pos : Pos} {e : Expr} {es : List Expr} {t : TA} {ta tb : TE}
theorem run_makeS {pins : List (Addr × Obj)} {σ : St} {H : Hp} {s : Shared} {Q : VK} {us : List Value} {vs : List V} (M : Mk X.K C f) (F : FnOk X.prog X.w X.K X.mg X.base CX k f fd ps sp) (hr : Room (k + 1) X.A) (hb : Binds X.K fd ps [])
    (hx : PassesAt CX X σ (E σ)) (I : Inv X pins σ H s) (r : Vals vs us)
    (h : ∀ x dx, H x = none → H dx = none → dx ≠ x → sp (.ref x :: vs) (upd (upd H dx (.own x)) x (.ins C dx [])) (fun v H2 => v = .non ∧ Q (.ref x) H2) (E σ)) :
    wpAny (model X.prog X.w) X.A (call (.ref C) us) (EP X pins σ Q) X.xe s := by
  have hq := h (s.heap.objs.size + 1) s.heap.objs.size (I.hok.fresh (Nat.le_succ _)) (I.hok.fresh (Nat.le_refl _)) (Nat.ne_of_lt (Nat.lt_succ_self _))
  have I2 := Inv.made (C := C) I
  have r2 : Vals (V.ref (s.heap.objs.size + 1) :: vs) (Value.ref (s.heap.objs.size + 1) :: us) := .cons rfl r
  have hl : (Value.ref (s.heap.objs.size + 1) :: us).length = ps.length := by
    have e := r2.length
    rw [F.len _ _ _ _ hq] at e
    exact e.symm
  have hb' := hb
  refine wpAny_call (make_map (f := f) I.kIn M.makes M.init (beq_iff_eq.mp M.fn) (codeAny_mono (F.run _ X.stack _ _ ⟨Value.ref (s.heap.objs.size + 1) :: us, []⟩ (Value.ref (s.heap.objs.size + 1) :: us) _ _ (E σ) (hr.make C us [])
    (I2.env0.make C us []) (by have z := hb _ (Value.ref (s.heap.objs.size + 1) :: us) I2.kIn (by rw [List.append_nil]; exact hl); rw [List.append_nil] at z; exact z) r2 hq) fun r s' hq' => ?_))
  cases r with
  | error e => exact hx pins _ _ e s' I2 hq'
  | ok fl =>
    cases fl with
    | ret u =>
      obtain ⟨v, H', I3, rv, ev, q3⟩ := I2.after hq'
      subst ev
      exact ⟨rv, ⟨V.ref (s.heap.objs.size + 1), H', I3, rfl, q3⟩⟩
    | next => exact False.elim hq'
    | brk => exact False.elim hq'
    | cont => exact False.elim hq'
theorem pe_makeS (M : Mk X.K C f) (F : FnOk X.prog X.w X.K X.mg X.base CX k f fd ps sp) (hr : Room (k + 1) X.A) (hg : Gl X x) (hm : X.mg x = some (.ref C)) (hb : Binds X.K fd ps []) (hx : ∀ σ, PassesAt CX X σ (E σ))
    (ha : PA X (e :: es) t) (hdb : (x == ("__debug__" : Str)) = false := by decide) (he : starEach (e :: es) X.env = (false, eval e X.env) :: starEach es X.env := by rfl) (hpl : (backTo pos (starEach es X.env)).any (·.1) = false := by rfl) :
    PE X (.Call (.Name x p) (e :: es) [] pos) (tMakeS C sp E t) := by
  refine ⟨fun pins s σ H Q I h => ?_⟩
  refine wpAny_Call_Name_kw (ld_glob I hg hm ?_ hdb)
  refine PySem.W.callWith_K (h₀ := X.base) I.ok.mod.kin M.kp (thn (ha.run pos pins s σ H _ I h) fun us s1 ⟨vs, H1, I1, r, q⟩ => ⟨I1.kIn, ?_⟩) he hpl
  exact run_makeS M F hr hb (hx σ) I1 r q
theorem run_fnS2 {pins : List (Addr × Obj)} {σ : St} {H : Hp} {s : Shared} {Q : VK} {us : List Value} {vs : List V} (F : FnOk X.prog X.w X.K X.mg X.base CX k f fd ps sp) (hr : Room k X.A) (hb : Binds X.K fd ps []) (hx : PassesAt CX X σ (E σ))
    (I : Inv X pins σ H s) (r : Vals vs us) (h : sp vs H Q (E σ)) : wpAny (model X.prog X.w) X.A (call (.ref f) us) (EP X pins σ Q) X.xe s :=
  run_fnSD (dvs := []) (ds := []) F hr hb .nil hx I r (by rw [List.append_nil]; exact h)
/-- x op y in a try's body: y of the class, or an int -/
def tOpS (C : Addr) (sp : Sp) (E : St → XK) (ta tb : TE) : TE := fun σ H Q => ta σ H fun x H1 => tb σ H1 fun y H2 => ∃ a dx fs, x = .ref a ∧ H2 a = some (.ins C dx fs) ∧ ((∃ b dy gs, y = .ref b ∧ H2 b = some (.ins C dy gs)) ∨ ∃ i, y = .int i) ∧ sp [x, y] H2 Q (E σ)
theorem pe_opS {op : Operator} (hm : Meth X.K C (PySem.dunder op.info.2) f) (hc : PySem.W.selfFirst X.K C = true) (hi : OwnI X.K C op) (F : FnOk X.prog X.w X.K X.mg X.base CX k f fd ps sp) (hr : Room k X.A) (hb : Binds X.K fd ps []) (hx : ∀ σ, PassesAt CX X σ (E σ))
    {l r : Expr} (ha : PE X l ta) (hb' : PE X r tb) : PE X (.BinOp l op r pos) (tOpS C sp E ta tb) := by
  refine ⟨fun pins s σ H Q I h => ?_⟩
  refine wpAny_BinOp (binT ha hb' I h fun v u s2 x y H2 I2 rx ry q => ?_)
  obtain ⟨a, dx, fs, rfl, ea, hy, q⟩ := q
  obtain rfl : v = Value.ref a := rx
  obtain ⟨od, J⟩ := I2.instAt ea
  obtain ⟨m, fr⟩ := I2.fr
  have run := run_fnS2 F hr hb (hx σ) I2 (.cons (show RelV (.ref a) (Value.ref a) from rfl) (.cons ry .nil)) q
  rcases hy with ⟨b, dy, gs, rfl, eb⟩ | ⟨i, rfl⟩
  · obtain rfl : u = Value.ref b := ry
    obtain ⟨od', J'⟩ := I2.instAt eb
    refine PySem.W.binop_K fr I2.ok.mod.kin J J'.type hc hm.at_ hm.fn (thn run fun w s' q => ?_)
    obtain ⟨v', H', I', rv, q⟩ := q
    exact cmpBack_of rv ⟨v', H', I', rv, q⟩
  · obtain ⟨t, rfl⟩ := (show ∃ t, u = Value.int i t from ry)
    obtain ⟨⟨rc, h1, h2⟩, ⟨fo, h3⟩, ⟨ro, h4⟩, h5⟩ := hi
    refine PySem.W.ksp_binT (T := "int") fr I2.ok.mod.kin J rfl hc hm.at_ hm.fn h1 h2 h3 h4 h5 (thn run fun w s' q => ?_)
    obtain ⟨v', H', I', rv, q⟩ := q
    exact cmpBack_of rv ⟨v', H', I', rv, q⟩
end
end L2
namespace L2
open PySem PySem.Spec PyProof.Rows
section
variable {X : Cx}
theorem rangeSize1 (a b : Int) : Builtin.Range.rangeSize a b 1 = if a < b then b - a else 0 := by
  unfold Builtin.Range.rangeSize
  rw [if_pos (by decide)]
  by_cases h : a < b
  · rw [if_pos h, if_pos h]; omega
  · rw [if_neg h, if_neg h]
theorem q_rlen (r : Addr) (a b : Int) (t u v : Tok) (hz : b - a < 2 ^ 63) :
    Meets (Builtin.«range.__len__» ⟨[.ref r], []⟩) (fun _ R s => s.heap.get? r = some { cls := .type "range", dict := none, data := .fields #[.int a t, .int b u, .int 1 v], slots := #[] } ∧ R (.ok (.ret (.int (if a < b then b - a else 0) s.toks))) { s with toks := s.toks + 1 }) :=
  .of_wp fun prog w A R s h => by
    obtain ⟨hp, g, d, tk, os⟩ := s
    obtain ⟨hl, h⟩ := h
    have hn : ¬ (Builtin.Range.rangeSize a b 1 ≥ 2 ^ 63) := by rw [rangeSize1]; split <;> omega
    wp_walk
    rw [rangeSize1] at hn ⊢
    rw [if_neg hn]
    wp_walk
    exact ⟨_, rfl, h⟩
/-- len(r), r a range with step 1 -/
def rLenRng : List V → Hp → VK → Prop := fun xs H Q => ∃ a lo hi, xs = [.ref a] ∧ H a = some (.rng lo hi) ∧ hi - lo < 2 ^ 63 ∧ Q (.int (if lo < hi then hi - lo else 0)) H
theorem call_lenRng : CallR X (.builtin "len") rLenRng := by
  intro pins s σ H xs us Q I r h
  obtain ⟨a, lo, hi, rfl, ea, hz, q⟩ := h
  obtain ⟨u, rfl, ru⟩ := vals1 r
  obtain rfl : u = Value.ref a := ru
  obtain ⟨t1, t2, t3, ho⟩ := I.hok a _ ea
  refine call_len_slot (T := "range") (n := if lo < hi then hi - lo else 0) ⟨_, ho, rfl⟩ PySem.F.slot_range_len (fun Q' q' => ?_) (by split <;> omega) (by split <;> omega) ⟨.int (if lo < hi then hi - lo else 0), H, (I.tok _), ⟨_, rfl⟩, q⟩
  exact call_meets PySem.F.slot_range_len ⟨_, ho, rfl⟩ PySem.F.entry_range_len (PySem.F.args_range_len_1 _) (q_rlen a lo hi t1 t2 t3 hz) ⟨ho, q'⟩
end
end L2
namespace L2
open PySem PySem.Spec PyProof.Rows
section
variable {X : Cx} {a : Expr} {ta : TE}
/-- * of any two ints whose product the machine takes -/
theorem op_mulX : OpR X (binaryOp .Mult) (rI IntMulOk fun i j => .int (i * j)) := opI fun _ _ _ _ _ _ _ hc q => mul_int q hc
theorem mulL {i j : Int} (h : -(2 ^ 64) < i ∧ i < 2 ^ 64) : IntMulOk i j := CMul.ok (.inl h)
theorem mulR {i j : Int} (h : -(2 ^ 64) < j ∧ j < 2 ^ 64) : IntMulOk i j := CMul.ok (.inr h)
/-- a test by an own truth -/
theorem pt_own {r : V → Hp → (Bool → Hp → Prop) → Prop} (ht : TruR X r) (ha : PE X a ta) (he : ∀ whole, isTrue a X.env whole = (do let v ← whole; standAt a.pos; holding [v] (truthy v)) := by intro _; rfl) :
    PT X a (fun σ H Q => ta σ H fun x H' => r x H' Q) := by
  refine ⟨fun pins s σ H Q I h => ?_⟩
  rw [he]
  refine wpAny_bind (thn (ha.run pins s σ H _ I h) fun v s1 ⟨x, H1, I1, r1, q1⟩ => ?_)
  exact wpAny_bind (wpAny_standAt (wpAny_holding (ht pins s1 σ H1 x v Q I1 r1 q1)))
end
/-- what was tracked stays, but for what stands at p -/
def SameBut (p : Addr) (H H' : Hp) : Prop := ∀ b o, b ≠ p → H b = some o → H' b = some o
theorem SameBut.refl {p : Addr} {H : Hp} : SameBut p H H := fun _ _ _ h => h
theorem SameBut.trans {p : Addr} {H H1 H2 : Hp} (a : SameBut p H H1) (b : SameBut p H1 H2) : SameBut p H H2 := fun c o n h => b c o n (a c o n h)
theorem Same.but {p : Addr} {H H' : Hp} (a : Same H H') : SameBut p H H' := fun c o _ h => a c o h
theorem same_new {H : Hp} {p : Addr} {o : HO} (h : H p = none) : Same H (upd H p o) := fun b u e => by rw [upd_ne (ne_of_none e h)]; exact e
theorem sameBut_upd {H : Hp} {p : Addr} {o : HO} : SameBut p H (upd H p o) := fun b u n e => by rw [upd_ne n]; exact e
theorem Same.seqT {K : PySem.W.Frag} {H H' : Hp} {a : Addr} {xs : List V} (e : Same H H') (h : SqT K H a xs) : SqT K H' a xs := by
  rcases h with (h | ⟨o, h⟩) | h
  · exact .inl (.inl (e _ _ h))
  · exact .inl (.inr ⟨o, e _ _ h⟩)
  · exact .inr h
theorem getMap {xs : List Int} {i : Nat} {y : V} (h : (xs.map V.int)[i]? = some y) : ∃ z, xs[i]? = some z ∧ y = V.int z := by
  rw [List.getElem?_map] at h
  cases e : xs[i]? with
  | none => rw [e] at h; cases h
  | some z => rw [e] at h; exact ⟨z, rfl, (Option.some.inj h).symm⟩
theorem bitsMul {i j : Int} (hi : Builtin.Int.intBits i ≤ 1048576) (hj : Builtin.Int.intBits j ≤ 1048576) : IntMulOk i j := IntMulOk.of_le hi hj (by decide)

theorem iteD {p : Prop} [Decidable p] {A B : Prop} (h1 : p → A) (h2 : ¬ p → B) : if decide p = true then A else B := by
  by_cases h : p
  · rw [decide_eq_true h, if_pos rfl]; exact h1 h
  · rw [decide_eq_false h, if_neg Bool.false_ne_true]; exact h2 h
theorem iteDN {p : Prop} [Decidable p] {A B : Prop} (h1 : p → B) (h2 : ¬ p → A) : if (!decide p) = true then A else B := by
  by_cases h : p
  · rw [decide_eq_true h]; exact iteF (h1 h)
  · rw [decide_eq_false h]; exact iteT (h2 h)
theorem qd {Q : VK} {H : Hp} {p q : Prop} [Decidable p] [Decidable q] (e : p ↔ q) (h : Q (.bl (decide p)) H) : Q (.bl (decide q)) H := by
  have z : decide p = decide q := by
    by_cases c : p
    · rw [decide_eq_true c, decide_eq_true (e.mp c)]
    · rw [decide_eq_false c, decide_eq_false fun y => c (e.mpr y)]
  rw [← z]; exact h
theorem qt {Q : VK} {H : Hp} {p : Prop} [Decidable p] (c : p) (h : Q (.bl (decide p)) H) : Q (.bl true) H := by
  rw [decide_eq_true c] at h; exact h
theorem qf {Q : VK} {H : Hp} {p : Prop} [Decidable p] (c : ¬ p) (h : Q (.bl (decide p)) H) : Q (.bl false) H := by
  rw [decide_eq_false c] at h; exact h

/-! ### the pool of draws -/
/-- the list of the pool: four ints, then ints of at least 1 -/
def poolL (a b c n : Int) (bs : List Int) : List V := [.int a, .int b, .int c, .int n] ++ bs.map V.int
def PoolAt (H : Hp) (p : Addr) : Prop := ∃ a b c n bs, H p = some (.lst (poolL a b c n bs)) ∧ bs.length ≤ 63 ∧ ∀ z ∈ bs, 1 ≤ z
theorem pool_len (a b c n : Int) (bs : List Int) : (poolL a b c n bs).length = 4 + bs.length := by
  unfold poolL; rw [List.length_append, List.length_map]; rfl
theorem pool_at0 {a b c n : Int} {bs : List Int} : atI (poolL a b c n bs) 0 = some (.int a) := atI_nat (j := 0) rfl
theorem pool_at1 {a b c n : Int} {bs : List Int} : atI (poolL a b c n bs) 1 = some (.int b) := atI_nat (j := 1) rfl
theorem pool_at2 {a b c n : Int} {bs : List Int} : atI (poolL a b c n bs) 2 = some (.int c) := atI_nat (j := 2) rfl
theorem pool_at3 {a b c n : Int} {bs : List Int} : atI (poolL a b c n bs) 3 = some (.int n) := atI_nat (j := 3) rfl
theorem pool_at4 {a b c n z : Int} {bs : List Int} : atI (poolL a b c n (z :: bs)) 4 = some (.int z) := atI_nat (j := 4) rfl
theorem ixN_of {n : Nat} {j : Nat} (h : j < n) : ixN n (j : Int) = some j := by
  unfold ixN
  rw [if_pos (by omega), if_pos (by omega)]
  simp
theorem pool_ix {a b c n : Int} {bs : List Int} (j : Nat) (h : j < 4) : ixN (poolL a b c n bs).length (j : Int) = some j := ixN_of (by rw [pool_len]; omega)
theorem pool_ix4 {a b c n z : Int} {bs : List Int} : ixN (poolL a b c n (z :: bs)).length 4 = some 4 := ixN_of (j := 4) (by rw [pool_len, List.length_cons]; omega)
theorem pool_seq4 {a b c n z : Int} {bs : List Int} : seqIndex? 4 (poolL a b c n (z :: bs)).length = some 4 := (ixN_seq pool_ix4).1
theorem PoolAt.of {H : Hp} {p : Addr} {a b c n : Int} {bs : List Int} (h : H p = some (.lst (poolL a b c n bs))) (hl : bs.length ≤ 63) (hz : ∀ z ∈ bs, 1 ≤ z) : PoolAt H p := ⟨a, b, c, n, bs, h, hl, hz⟩
theorem PoolAt.mono {H H' : Hp} {p : Addr} (h : PoolAt H p) (e : Same H H') : PoolAt H' p := let ⟨a, b, c, n, bs, q, hl, hz⟩ := h; ⟨a, b, c, n, bs, e _ _ q, hl, hz⟩
theorem PoolAt.ne {H : Hp} {p q : Addr} (h : PoolAt H p) (hq : H q = none) : p ≠ q := let ⟨_, _, _, _, _, e, _, _⟩ := h; ne_of_none e hq
theorem same_of_but {H H' : Hp} {p : Addr} (hp : H p = none) (s : SameBut p H H') : Same H H' := fun b o e => s b o (ne_of_none e hp) e
theorem dp2 {K : PySem.W.Frag} {H : Hp} {t : Addr} {a b : Int} (h : SqT K H t [.int a, .int b]) : Dp K H (.ref t) (.tuple [.int a, .int b]) := .tup h (.cons (.int a) (.cons (.int b) .nil))
theorem eqv2 (a b : Int) : PyData.eqv (.tuple [.int a, .int b]) (.tuple [.int a, .int b]) = true := by simp [PyData.eqv, PyData.eqvAll]
theorem eqv22 (a b c d : Int) : PyData.eqv (.tuple [.int a, .int b]) (.tuple [.int c, .int d]) = decide (a = c ∧ b = d) := by
  simp [PyData.eqv, PyData.eqvAll, Bool.decide_and]
  try rfl
theorem andV_two {p q : Prop} [Decidable p] [Decidable q] {Qk : VK} {σ : L2.St} {H : Hp} {tb : TE} (h1 : Qk (.bl (decide q)) H → tb σ H Qk) (h : Qk (.bl (decide p && decide q)) H) : if decide p = true then tb σ H Qk else Qk (.bl false) H := by
  by_cases c : p
  · rw [decide_eq_true c] at h ⊢; exact h1 h
  · rw [decide_eq_false c] at h ⊢; rw [if_neg Bool.false_ne_true]; exact h
theorem notFirst_self {K : PySem.W.Frag} {C : Addr} : PySem.W.notFirst K C (.ref C) = true := by unfold PySem.W.notFirst; simp
def spPool (K : PySem.W.Frag) : Sp := fun vs H Q _ => ∃ (a : Addr) (ns : List Int), vs = [.ref a] ∧ SqL K H a (ns.map V.int) ∧ ns.length ≤ 63 ∧ (∀ z ∈ ns, Builtin.Int.intBits z ≤ 1048576) ∧
  ∀ p H', H p = none → PoolAt H' p → SameBut p H H' → Q (.ref p) H'
def spDraw : Sp := fun vs H Q _ => ∃ (p : Addr) (m : Int), vs = [.ref p, .int m] ∧ PoolAt H p ∧ 1 ≤ m ∧ m < 1073741824 ∧ ∀ r H', 0 ≤ r → r < m → PoolAt H' p → SameBut p H H' → Q (.int r) H'

/-! ### the rules that speak of K, by the K at hand -/
section
variable {X : Cx} {o e : Expr} {ta tl : TE} {tg : Expr} {f : Str} {pos : Pos}
theorem op_eqDK (K : PySem.W.Frag) (hu : X.A.units + 64 < cLine) (hK : X.K = K := by rfl) : OpR X (compareOp .Eq) (rEqD K) := hK ▸ op_eqD hu
theorem op_neDK (K : PySem.W.Frag) (hu : X.A.units + 64 < cLine) (hK : X.K = K := by rfl) : OpR X (compareOp .NotEq) (rNeD K) := hK ▸ op_neD hu
theorem ix_tupK (K : PySem.W.Frag) (hK : X.K = K := by rfl) : IxR X (rIxT K) := hK ▸ ix_tup
theorem ix_listK (K : PySem.W.Frag) (hK : X.K = K := by rfl) : IxR X (rIxL K) := hK ▸ ix_list
theorem pe_fldK (K : PySem.W.Frag) (he : PE X e ta) (hb : attributeBase e f X.env (eval e X.env) = eval e X.env) (hK : X.K = K := by rfl) : PE X (.Attribute e f pos) (tFld K ta f) := hK ▸ pe_fld he hb
theorem op_in_seqK (K : PySem.W.Frag) (hK : X.K = K := by rfl) : OpR X (compareOp .In) (rIn K false) := hK ▸ op_in_seq
theorem op_notIn_seqK (K : PySem.W.Frag) (hK : X.K = K := by rfl) : OpR X (compareOp .NotIn) (rIn K true) := hK ▸ op_notIn_seq
theorem call_isiK' (K : PySem.W.Frag) (hK : X.K = K := by rfl) : CallR X (.builtin "isinstance") (rIsi K) := hK ▸ call_isi
theorem pi_listK (K : PySem.W.Frag) (hl : PE X o tl) (hK : X.K = K := by rfl) : PI X tg o (iList K tl) := hK ▸ pi_list hl
theorem pi_tupK (K : PySem.W.Frag) (hl : PE X o tl) (hK : X.K = K := by rfl) : PI X tg o (iTup K tl) := hK ▸ pi_tup hl
def rLenSq (K : PySem.W.Frag) : List V → Hp → VK → Prop := fun xs H Q => ∃ p ys, xs = [.ref p] ∧ (SqL K H p ys ∨ SqT K H p ys) ∧ Q (.int ys.length) H
theorem call_len_seqK (K : PySem.W.Frag) (hK : X.K = K := by rfl) : CallR X (.builtin "len") (rLenSq K) := hK ▸ call_len_seq
end
theorem kit_same {K : PySem.W.Frag} {t : Value} : PySem.W.kitOne K t t = some true := by
  unfold PySem.W.kitOne
  rw [if_pos (by simp)]
theorem kit_sub {K : PySem.W.Frag} {t C : Addr} {b : Bool} (hd : PySem.W.hasDictIn K C = true) (ty : PySem.W.typeIn K (.ref C) = some (.type "type")) (self : PySem.W.subIn K (.ref C) (.ref C) = some true) (h : PySem.W.subIn K (.ref t) (.ref C) = some b) :
    PySem.W.kitOne K (.ref t) (.ref C) = some b := by
  unfold PySem.W.kitOne
  by_cases e : t = C
  · subst e
    rw [if_pos (by simp)]
    exact self.symm.trans h
  · rw [if_neg (by simpa using e)]
    obtain ⟨cd, hc, _⟩ := PySem.W.any_some hd
    have e2 : ((PySem.W.clsIn K C).isSome && PySem.W.typeIn K (.ref C) == some (.type "type")) = true := by rw [hc, ty] <;> rfl
    show (if ((PySem.W.clsIn K C).isSome && PySem.W.typeIn K (.ref C) == some (.type "type")) = true then PySem.W.subIn K (.ref t) (.ref C) else none) = some b
    rw [if_pos e2]
    exact h
theorem kit_base {K : PySem.W.Frag} {t : Addr} {T : String} {b : Bool} (hm : PySem.W.kitMeta T = true) (h : PySem.W.subIn K (.ref t) (.type T) = some b) : PySem.W.kitOne K (.ref t) (.type T) = some b := by
  unfold PySem.W.kitOne
  rw [if_neg (by simp)]
  show (if PySem.W.kitMeta T = true then PySem.W.subIn K (.ref t) (.type T) else none) = some b
  rw [if_pos hm]
  exact h
end L2
namespace L2
open PySem PySem.Spec PyProof.Rows
theorem dec_add (i : Int) (t : Tok) (a C dx : Addr) : Meets (Builtin.«int.__add__» ⟨[.int i t, .ref a], []⟩) (fun _ R s => s.heap.get? a = some (PySem.W.instObj C dx) ∧ R (.ok (.ret .notImplemented)) s) :=
  .of_wp fun prog w A R s h => by obtain ⟨hp, g, d, tk, os⟩ := s; obtain ⟨hl, h⟩ := h; unfold PySem.W.instObj at hl; wp_walk; exact ⟨_, rfl, h⟩
theorem dec_sub (i : Int) (t : Tok) (a C dx : Addr) : Meets (Builtin.«int.__sub__» ⟨[.int i t, .ref a], []⟩) (fun _ R s => s.heap.get? a = some (PySem.W.instObj C dx) ∧ R (.ok (.ret .notImplemented)) s) :=
  .of_wp fun prog w A R s h => by obtain ⟨hp, g, d, tk, os⟩ := s; obtain ⟨hl, h⟩ := h; unfold PySem.W.instObj at hl; wp_walk; exact ⟨_, rfl, h⟩
theorem dec_mul (i : Int) (t : Tok) (a C dx : Addr) : Meets (Builtin.«int.__mul__» ⟨[.int i t, .ref a], []⟩) (fun _ R s => s.heap.get? a = some (PySem.W.instObj C dx) ∧ R (.ok (.ret .notImplemented)) s) :=
  .of_wp fun prog w A R s h => by obtain ⟨hp, g, d, tk, os⟩ := s; obtain ⟨hl, h⟩ := h; unfold PySem.W.instObj at hl; wp_walk; exact ⟨_, rfl, h⟩
theorem dec_eq (i : Int) (t : Tok) (a C dx : Addr) : Meets (Builtin.«int.__eq__» ⟨[.int i t, .ref a], []⟩) (fun _ R s => s.heap.get? a = some (PySem.W.instObj C dx) ∧ R (.ok (.ret .notImplemented)) s) :=
  .of_wp fun prog w A R s h => by obtain ⟨hp, g, d, tk, os⟩ := s; obtain ⟨hl, h⟩ := h; unfold PySem.W.instObj at hl; wp_walk; exact ⟨_, rfl, h⟩

/-- what the classes say of an operator with an int on the left -/
structure IntOp (op : Operator) (B : Builtin) (id : String) : Prop where
  fills : fillsNumberSlot (.type "int") op.info.2 = pure true
  slot : Slot "int" (PySem.dunder op.info.2) id
  entry : entryFor table id = some B
  args : ∀ a b, argsOk id ⟨[a, b], []⟩
  dec : ∀ (i : Int) (t : Tok) (a C dx : Addr), Meets (B ⟨[.int i t, .ref a], []⟩) (fun _ R s => s.heap.get? a = some (PySem.W.instObj C dx) ∧ R (.ok (.ret .notImplemented)) s)
theorem intAdd : IntOp .Add Builtin.«int.__add__» "int.__add__" := ⟨F.fills_int_add, F.slot_int_add, F.entry_int_add, F.args_int_add_2, dec_add⟩
theorem intSub : IntOp .Sub Builtin.«int.__sub__» "int.__sub__" := ⟨F.fills_int_sub, F.slot_int_sub, F.entry_int_sub, F.args_int_sub_2, dec_sub⟩
theorem intMul : IntOp .Mult Builtin.«int.__mul__» "int.__mul__" := ⟨F.fills_int_mul, F.slot_int_mul, F.entry_int_mul, F.args_int_mul_2, dec_mul⟩
open PySem.W in
theorem binop_IK {prog : Program} {w : World} {A : Around} {E : Value → Shared → Prop} {s : Shared} {K : Frag} {x C L f f0 dx : Addr} {h₀ : Heap} {m : Str → Option Value} {od : Option Obj} {op : Operator} {B : Builtin} {id : String} {i : Int} {t : Tok} {Q : Value → Shared → Prop} (J : IntOp op B id)
    (Fr0 : Fr h₀ L s.heap m) (X₀ : K.In h₀) (I : PySem.W.InstAt s.heap x (PySem.W.instObj C dx) C od) (hc : selfFirst K C = true) (hs : findIn K (.ref C) (PySem.dunder op.info.2) = some (some (.ref f0)))
    (hr : findIn K (.ref C) (dunderR op.info.2) = some (some (.ref f))) (hf : isFn K (.ref f) = true) (hsub : subIn K (.ref C) (.type "int") = some false)
    (h : wpAny (model prog w) A (call (.ref f) [.ref x, .int i t]) (PySem.W.CmpBack Q) E s) : wpAny (model prog w) A (binaryOp op (.int i t) (.ref x)) Q E s := by
  have X := X₀.keeps Fr0.keep
  obtain ⟨cd, rest, hcd, hm⟩ := ksp_first hc
  obtain ⟨hfT, slot, entry, args, dec⟩ := J
  rcases hi : op.info with ⟨sym, nm⟩
  rw [hi] at hs hr hfT slot
  dsimp only at hs hr hfT slot
  have hne : (Value.type "int" == Value.ref C) = false := Bool.eq_false_iff.mpr fun q => by cases beq_iff_eq.mp q
  simp only [binaryOp, hi]
  refine wpAny_holding (wpAny_bind ?_)
  unfold binaryOp1
  refine wpAny_bind (wpAny_typeOf (show s.TypeIs (.int i t) "int" from rfl) (wpAny_bind (I.type.here (wpAny_bind (wpAny_of_eq hfT ?_)))))
  simp only [hne, Bool.false_eq_true, if_false]
  refine wpAny_bind ((fills_K X hcd hm hs).here ?_)
  simp only [Bool.and_self, if_true]
  refine wpAny_bind ((looks_subIn X hsub).here ?_)
  have hpy : numberSlotInPython (.type "int") nm = pure false := rfl
  simp only [Bool.false_eq_true, if_false, pure_bind, Bool.not_false, Bool.and_self, if_true, hpy]
  refine wpAny_bind (wpAny_tryMethod_declines (T := "int") rfl slot (call_meets slot rfl entry (args _ _) (dec i t x C dx) ⟨I.at_, rfl, ?_⟩))
  show wpAny _ _ (tryMethod (.ref x) (dunderR nm) (.int i t) >>= _) _ _ _
  refine wpAny_bind (wpAny_mono (ksp_try X I hr hf h) (fun r s' hq => ?_) fun _ _ z => z)
  obtain ⟨v, rfl, q⟩ := hq
  first | exact wpAny_bind (wpAny_rule (wpAny_pure (wpAny_pure q))) | exact wpAny_rule (wpAny_pure (wpAny_pure q)) | exact wpAny_bind (wpAny_rule (wpAny_pure q))
open PySem.W in
theorem eq_IK {prog : Program} {w : World} {A : Around} {E : Value → Shared → Prop} {s : Shared} {K : Frag} {x C L f dx : Addr} {h₀ : Heap} {m : Str → Option Value} {od : Option Obj} {i : Int} {t : Tok} {Q : Value → Shared → Prop} (hu : A.units < cLine)
    (Fr0 : Fr h₀ L s.heap m) (X₀ : K.In h₀) (I : PySem.W.InstAt s.heap x (PySem.W.instObj C dx) C od) (hs : findIn K (.ref C) "__eq__" = some (some (.ref f))) (hf : isFn K (.ref f) = true) (hsub : subIn K (.ref C) (.type "int") = some false)
    (h : wpAny (model prog w) A (call (.ref f) [.ref x, .int i t]) (PySem.W.CmpBack Q) E s) : wpAny (model prog w) A (richCompare .Eq (.int i t) (.ref x)) Q E s := by
  have X := X₀.keeps Fr0.keep
  have one : wpAny (model prog w) A (tryCompare (.ref x) "__eq__" (.int i t)) (fun r s' => ∃ v, r = some v ∧ Q v s') E s := by
    unfold tryCompare
    refine wpAny_bind (ifBound_K X I hs hf (wpAny_mono h (fun v s' hv => ?_) fun _ _ e => e))
    cases v <;> first | exact hv.elim | exact wpAny_pure ⟨_, rfl, hv⟩
  have hne : (Value.type "int" != Value.ref C) = true := by
    have : (Value.type "int" == Value.ref C) = false := Bool.eq_false_iff.mpr fun q => by cases beq_iff_eq.mp q
    simp [bne, this]
  unfold richCompare
  refine wpAny_holding (wpAny_bind (wpAny_cRoomFor hu ?_))
  have ho : oneThing? .Eq (.int i t) (.ref x) = none := rfl
  rw [ho]
  refine wpAny_bind (wpAny_typeOf (show s.TypeIs (.int i t) "int" from rfl) (wpAny_bind (I.type.here ?_)))
  rw [if_pos hne]
  refine wpAny_bind ((looks_subIn X hsub).here ?_)
  simp only [Bool.false_eq_true, if_false]
  refine wpAny_bind (wpAny_tryCompare_declines (T := "int") rfl PySem.F.slot_int_eq (call_meets PySem.F.slot_int_eq rfl PySem.F.entry_int_eq (PySem.F.args_int_eq_2 _ _) (dec_eq i t x C dx) ⟨I.at_, rfl, ?_⟩))
  simp only [Bool.not_false, if_true]
  refine wpAny_bind (wpAny_mono one (fun r s' hq => ?_) fun _ _ z => z)
  obtain ⟨v, rfl, q⟩ := hq
  exact wpAny_pure q
section
variable {X : Cx} {CX : CXT} {k : Nat} {f f0 C : Addr} {fd : FuncData} {ps : List Str} {sp : Sp} {E : XK}
/-- i op x, an int on the left: x's reflected method at (x, i) -/
def rIOwn (C : Addr) (sp : Sp) (E : XK) : R2 := fun y x H Q => ∃ a dx fs i, x = .ref a ∧ H a = some (.ins C dx fs) ∧ y = .int i ∧ sp [x, y] H Q E
theorem op_iown {op : Operator} {B : Builtin} {id : String} (J : IntOp op B id) (hm0 : Meth X.K C (PySem.dunder op.info.2) f0) (hm : Meth X.K C (dunderR op.info.2) f) (hc : PySem.W.selfFirst X.K C = true) (hsub : PySem.W.subIn X.K (.ref C) (.type "int") = some false)
    (F : FnOk X.prog X.w X.K X.mg X.base CX k f fd ps sp) (hr : Room k X.A) (hb : Binds X.K fd ps []) (hx : Passes CX X E) : OpR X (binaryOp op) (rIOwn C sp E) := by
  intro pins s σ H y x v u Q I ry rx h
  obtain ⟨a, dx, fs, i, rfl, ea, rfl, h⟩ := h
  obtain rfl : u = Value.ref a := rx
  obtain ⟨t, rfl⟩ := (show ∃ t, v = Value.int i t from ry)
  obtain ⟨od, Ia⟩ := I.instAt ea
  obtain ⟨m, fr⟩ := I.fr
  refine binop_IK J fr I.ok.mod.kin Ia hc hm0.at_ hm.at_ hm.fn hsub (thn (run_fnA (us := [.ref a, .int i t]) (vs := [.ref a, .int i]) (dvs := []) rfl F hr hb .nil hx I (.cons rfl (.cons ⟨t, rfl⟩ .nil)) h) fun w s' q => ?_)
  obtain ⟨v', H', I', rv, q⟩ := q
  exact cmpBack_of rv ⟨v', H', I', rv, q⟩
theorem op_ieq (hm : Meth X.K C "__eq__" f) (hsub : PySem.W.subIn X.K (.ref C) (.type "int") = some false)
    (F : FnOk X.prog X.w X.K X.mg X.base CX k f fd ps sp) (hr : Room k X.A) (hb : Binds X.K fd ps []) (hx : Passes CX X E) : OpR X (compareOp .Eq) (rIOwn C sp E) := by
  intro pins s σ H y x v u Q I ry rx h
  obtain ⟨a, dx, fs, i, rfl, ea, rfl, h⟩ := h
  obtain rfl : u = Value.ref a := rx
  obtain ⟨t, rfl⟩ := (show ∃ t, v = Value.int i t from ry)
  obtain ⟨od, Ia⟩ := I.instAt ea
  obtain ⟨m, fr⟩ := I.fr
  show wpAny _ _ (richCompare .Eq (.int i t) (.ref a)) _ _ _
  refine eq_IK hr.units0 fr I.ok.mod.kin Ia hm.at_ hm.fn hsub (thn (run_fnA (us := [.ref a, .int i t]) (vs := [.ref a, .int i]) (dvs := []) rfl F hr hb .nil hx I (.cons rfl (.cons ⟨t, rfl⟩ .nil)) h) fun w s' q => ?_)
  obtain ⟨v', H', I', rv, q⟩ := q
  exact cmpBack_of rv ⟨v', H', I', rv, q⟩
end
/-- // by any divisor but 0, of less than 9000 bits -/
theorem op_fdivX {X : Cx} : OpR X (binaryOp .FloorDiv) (rI (fun _ j => j ≠ 0 ∧ j.natAbs.log2 < 9000) fun i j => .int (i.fdiv j)) := opI fun i j _ _ _ _ _ hc q => floordiv_int hc.1 q (.inl (PyProof.noPylong_of_log2 hc.2))
section
variable {X : Cx} {CX : CXT} {k : Nat} {f C : Addr} {fd : FuncData} {ps : List Str} {sp : Sp} {E : XK}
/-- abs(x), by an own __abs__ -/
def rAbsOwn (C : Addr) (sp : Sp) (E : XK) : List V → Hp → VK → Prop := fun xs H Q => ∃ a dx fs, xs = [.ref a] ∧ H a = some (.ins C dx fs) ∧ sp [.ref a] H Q E
theorem call_absOwn (hm : Meth X.K C "__abs__" f) (Fk : FnOk X.prog X.w X.K X.mg X.base CX k f fd ps sp) (hr : Room (k + 1) X.A) (hb : Binds X.K fd ps []) (hx : Passes CX X E) : CallR X (.builtin "abs") (rAbsOwn C sp E) := by
  intro pins s σ H xs us Q I r h
  obtain ⟨a, dx, fs, rfl, ea, h⟩ := h
  obtain ⟨u, rfl, ru⟩ := vals1 r
  obtain rfl : u = Value.ref a := ru
  obtain ⟨od, J⟩ := I.instAt ea
  refine PySem.Calls.call_function_entry kind_abs plain_abs entry_abs (args_abs _) ?_
  unfold Builtin.«abs»
  refine wpAny_bind (m := oneArg "abs" _) (wpAny_pure ?_)
  refine wpAny_bind (m := callSpecial? (.ref a) (Str.ofString "__abs__")) (PySem.W.special_fn I.kIn J hm.at_ (beq_iff_eq.mp hm.fn) (thn (run_fnA (A := X.A.in1) (us := [.ref a]) (vs := [.ref a]) (dvs := []) rfl Fk hr.in1 hb .nil hx I (.cons rfl .nil) h) fun w s' q => ?_))
  exact wpAny_pure ⟨_, rfl, q⟩
end
theorem kit_tb {K : PySem.W.Frag} {C : Addr} {T : String} {b : Bool} (hd : PySem.W.hasDictIn K C = true) (ty : PySem.W.typeIn K (.ref C) = some (.type "type")) (h : PySem.W.subIn K (.type T) (.ref C) = some b) : PySem.W.kitOne K (.type T) (.ref C) = some b := by
  unfold PySem.W.kitOne
  rw [if_neg (by simp)]
  obtain ⟨cd, hc, _⟩ := PySem.W.any_some hd
  have e2 : ((PySem.W.clsIn K C).isSome && PySem.W.typeIn K (.ref C) == some (.type "type")) = true := by rw [hc, ty] <;> rfl
  show (if ((PySem.W.clsIn K C).isSome && PySem.W.typeIn K (.ref C) == some (.type "type")) = true then PySem.W.subIn K (.type T) (.ref C) else none) = some b
  rw [if_pos e2]
  exact h
theorem notFirst_ty {K : PySem.W.Frag} {C : Addr} {T : String} (h : PySem.W.subIn K (.type T) (.ref C) = some false) : PySem.W.notFirst K C (.type T) = true := by unfold PySem.W.notFirst; rw [h]; simp
theorem binds_none {K : PySem.W.Frag} {fd : FuncData} {ps : List Str} (h : ∃ ds, Vals ([] : List V) ds ∧ Binds K fd ps ds) : Binds K fd ps [] := by
  obtain ⟨ds, r, b⟩ := h
  cases r
  exact b
end L2
/-! plain mathematics: lowest terms, Euclid's steps -/
namespace L2
/-- (t, b) is T / B in lowest terms -/
structure Rep (t b T B : Int) : Prop where
  pos : 1 ≤ b
  cross : t * B = T * b
  cop : Nat.gcd t.natAbs b.natAbs = 1
  st : t.natAbs ≤ T.natAbs
  sb : b.natAbs ≤ B.natAbs
theorem rep_of {T B : Int} (hB : B ≠ 0) {g : Nat} (hg : g = Nat.gcd T.natAbs B.natAbs) {f : Int} (hf : f = if B < 0 then -(g : Int) else (g : Int)) : f ≠ 0 ∧ f.natAbs ≤ B.natAbs ∧ Rep (T.fdiv f) (B.fdiv f) T B := by
  have hb0 : 0 < B.natAbs := Int.natAbs_pos.mpr hB
  have g0 : 0 < g := by rw [hg]; exact Nat.gcd_pos_of_pos_right _ hb0
  have gle : g ≤ B.natAbs := by rw [hg]; exact Nat.gcd_le_right _ hb0
  have d1 : (g : Int) ∣ T := by
    rw [hg]; exact Int.ofNat_dvd_left.mpr (Nat.gcd_dvd_left _ _)
  have d2 : (g : Int) ∣ B := by
    rw [hg]; exact Int.ofNat_dvd_left.mpr (Nat.gcd_dvd_right _ _)
  obtain ⟨t1, e1⟩ := d1
  obtain ⟨b1, e2⟩ := d2
  have gi : (g : Int) ≠ 0 := by omega
  have cop : Nat.gcd t1.natAbs b1.natAbs = 1 := by
    have h : g = g * Nat.gcd t1.natAbs b1.natAbs := by
      have : Nat.gcd T.natAbs B.natAbs = g * Nat.gcd t1.natAbs b1.natAbs := by
        rw [e1, e2, Int.natAbs_mul, Int.natAbs_mul, Int.natAbs_natCast, Nat.gcd_mul_left]
      rw [← hg] at this; exact this
    have h' : g * 1 = g * Nat.gcd t1.natAbs b1.natAbs := by rw [Nat.mul_one]; exact h
    exact (Nat.eq_of_mul_eq_mul_left g0 h').symm
  have st : t1.natAbs ≤ T.natAbs := by rw [e1, Int.natAbs_mul, Int.natAbs_natCast]; exact Nat.le_mul_of_pos_left _ g0
  have sb : b1.natAbs ≤ B.natAbs := by rw [e2, Int.natAbs_mul, Int.natAbs_natCast]; exact Nat.le_mul_of_pos_left _ g0
  by_cases hn : B < 0
  · rw [if_pos hn] at hf
    have ft : T.fdiv f = -t1 := by
      rw [hf, e1, show (g : Int) * t1 = -(g : Int) * (-t1) by rw [Int.neg_mul_neg]]
      exact Int.mul_fdiv_cancel_left _ (by omega)
    have fb : B.fdiv f = -b1 := by
      rw [hf, e2, show (g : Int) * b1 = -(g : Int) * (-b1) by rw [Int.neg_mul_neg]]
      exact Int.mul_fdiv_cancel_left _ (by omega)
    have hb1 : b1 < 0 := by
      have q : (g : Int) * b1 < (g : Int) * 0 := by rw [Int.mul_zero, ← e2]; exact hn
      exact Int.lt_of_mul_lt_mul_left q (by omega)
    refine ⟨by omega, by rw [hf, Int.natAbs_neg, Int.natAbs_natCast]; exact gle, ?_⟩
    rw [ft, fb]
    refine ⟨by omega, ?_, by rw [Int.natAbs_neg, Int.natAbs_neg]; exact cop, by rw [Int.natAbs_neg]; exact st, by rw [Int.natAbs_neg]; exact sb⟩
    rw [e1, e2, Int.neg_mul, Int.mul_neg, Int.mul_assoc, Int.mul_left_comm]
  · rw [if_neg hn] at hf
    have ft : T.fdiv f = t1 := by rw [hf, e1]; exact Int.mul_fdiv_cancel_left _ gi
    have fb : B.fdiv f = b1 := by rw [hf, e2]; exact Int.mul_fdiv_cancel_left _ gi
    have hb1 : 0 < b1 := by
      have q : (g : Int) * 0 < (g : Int) * b1 := by rw [Int.mul_zero, ← e2]; omega
      exact Int.lt_of_mul_lt_mul_left q (by omega)
    refine ⟨by omega, by rw [hf, Int.natAbs_natCast]; exact gle, ?_⟩
    rw [ft, fb]
    refine ⟨by omega, ?_, cop, st, sb⟩
    rw [e1, e2, Int.mul_assoc, Int.mul_left_comm]
/-- lowest terms are the only ones -/
theorem rep_uniq {t b t' b' : Int} (h : 1 ≤ b) (h' : 1 ≤ b') (c : Nat.gcd t.natAbs b.natAbs = 1) (c' : Nat.gcd t'.natAbs b'.natAbs = 1) (e : t * b' = t' * b) : t = t' ∧ b = b' := by
  have e1 : t.natAbs * b'.natAbs = t'.natAbs * b.natAbs := by rw [← Int.natAbs_mul, ← Int.natAbs_mul, e]
  have d1 : b.natAbs ∣ b'.natAbs := by
    refine Nat.Coprime.dvd_of_dvd_mul_left (k := b.natAbs) (m := t.natAbs) ?_ ?_
    · show Nat.gcd b.natAbs t.natAbs = 1
      rw [Nat.gcd_comm]; exact c
    · rw [e1]; exact Nat.dvd_mul_left _ _
  have d2 : b'.natAbs ∣ b.natAbs := by
    refine Nat.Coprime.dvd_of_dvd_mul_left (k := b'.natAbs) (m := t'.natAbs) ?_ ?_
    · show Nat.gcd b'.natAbs t'.natAbs = 1
      rw [Nat.gcd_comm]; exact c'
    · rw [← e1]; exact Nat.dvd_mul_left _ _
  have eb := Nat.dvd_antisymm d1 d2
  have eb' : b = b' := by omega
  subst eb'
  exact ⟨Int.eq_of_mul_eq_mul_right (by omega) e, rfl⟩
/-! ### Euclid -/
def Euc (a b i : Nat) : Prop := (i = 0 ∧ b < 2 ^ 200) ∨ (1 ≤ i ∧ b < a ∧ a * b * 2 ^ (i - 1) ≤ 2 ^ 400)
theorem Euc.turn {a b i : Nat} (h : Euc a b i) (hb : b ≠ 0) : Euc b (a % b) (i + 1) ∧ i ≤ 401 := by
  have hm : a % b < b := Nat.mod_lt _ (Nat.pos_of_ne_zero hb)
  rcases h with ⟨rfl, h⟩ | ⟨h1, h2, h3⟩
  · refine ⟨.inr ⟨Nat.le_refl _, hm, ?_⟩, Nat.zero_le _⟩
    show b * (a % b) * 2 ^ 0 ≤ 2 ^ 400
    have : b * (a % b) ≤ 2 ^ 200 * 2 ^ 200 := Nat.mul_le_mul (Nat.le_of_lt h) (Nat.le_of_lt (Nat.lt_trans hm h))
    rw [Nat.pow_zero, Nat.mul_one]
    rw [← Nat.pow_add] at this
    exact this
  · refine ⟨.inr ⟨by omega, hm, ?_⟩, ?_⟩
    · obtain ⟨j, rfl⟩ : ∃ j, i = j + 1 := ⟨i - 1, by omega⟩
      show b * (a % b) * 2 ^ (j + 1) ≤ 2 ^ 400
      have h2' : 2 * (a % b) ≤ a := by
        have e := Nat.div_add_mod a b
        have q : 1 ≤ a / b := Nat.div_pos (Nat.le_of_lt h2) (Nat.pos_of_ne_zero hb)
        have : b * 1 ≤ b * (a / b) := Nat.mul_le_mul_left _ q
        omega
      have e : b * (a % b) * 2 ^ (j + 1) = (b * (2 * (a % b))) * 2 ^ j := by
        rw [Nat.pow_succ, Nat.mul_comm (2 ^ j) 2, ← Nat.mul_assoc, Nat.mul_assoc b, Nat.mul_comm (a % b) 2]
      rw [e]
      refine Nat.le_trans (Nat.mul_le_mul_right _ (Nat.mul_le_mul_left b h2')) ?_
      rw [Nat.mul_comm b a]
      exact h3
    · have : 1 * 1 * 2 ^ (i - 1) ≤ a * b * 2 ^ (i - 1) := Nat.mul_le_mul_right _ (Nat.mul_le_mul (by omega) (by omega))
      simp only [Nat.one_mul] at this
      have q : i - 1 ≤ 400 := (Nat.pow_le_pow_iff_right (by decide)).mp (Nat.le_trans this h3)
      omega
theorem pow_le {m n : Nat} (h : m ≤ n) : (1000 : Int) ^ m ≤ 1000 ^ n := by
  induction h with
  | refl => exact Int.le_refl _
  | step h ih =>
    rename_i k
    have p : ∀ j : Nat, (0 : Int) ≤ 1000 ^ j := fun j => by
      induction j with
      | zero => decide
      | succ j ih => rw [Int.pow_succ]; omega
    rw [Nat.succ_eq_add_one, Int.pow_succ]
    have := p k
    omega
end L2
namespace LW
open PySem PySem.Spec PyProof.Rows L2
def top (i : Nat) : Stmt := PySem.Challenge.pw_gangbooks_k00_share_lowest.main.body.getD i (.Pass ⟨0, 0, 0, 0⟩)
abbrev s_GangError_init : Stmt := inClass (top 3) 0
abbrev s_Share_init : Stmt := inClass (top 14) 0
abbrev s_Share_sign : Stmt := inClass (top 14) 2
abbrev s_Share_neg : Stmt := inClass (top 14) 14
abbrev s_Share_abs : Stmt := inClass (top 14) 15
abbrev s_Share_bool : Stmt := inClass (top 14) 16
abbrev s_Share_eq : Stmt := inClass (top 14) 17
abbrev s_pool : Stmt := top 16
abbrev s_draw : Stmt := top 17
abbrev s_number : Stmt := top 18
abbrev s_signed : Stmt := top 19
abbrev s_pair : Stmt := top 20
abbrev s_whole : Stmt := top 21
abbrev s_coprime : Stmt := top 22
abbrev s_is : Stmt := top 23
abbrev s_refused : Stmt := top 24
abbrev s_alone : Stmt := top 25
abbrev s_equal : Stmt := top 26
abbrev s_law : Stmt := top 27
theorem sc_GangError_init : FnScope ["self", "subject"] ["self", "subject"] (defScope s_GangError_init) := ⟨rfl, rfl, rfl, by decide +kernel, rfl, by decide +kernel, by decide +kernel⟩
theorem sc_Share_init : FnScope ["self", "top", "bottom", "factor"] ["self", "top", "bottom"] (defScope s_Share_init) := ⟨rfl, rfl, rfl, by decide +kernel, rfl, by decide +kernel, by decide +kernel⟩
theorem sc_Share_sign : FnScope ["self"] ["self"] (defScope s_Share_sign) := ⟨rfl, rfl, rfl, by decide +kernel, rfl, by decide +kernel, by decide +kernel⟩
theorem sc_Share_neg : FnScope ["self"] ["self"] (defScope s_Share_neg) := ⟨rfl, rfl, rfl, by decide +kernel, rfl, by decide +kernel, by decide +kernel⟩
theorem sc_Share_abs : FnScope ["self"] ["self"] (defScope s_Share_abs) := ⟨rfl, rfl, rfl, by decide +kernel, rfl, by decide +kernel, by decide +kernel⟩
theorem sc_Share_bool : FnScope ["self"] ["self"] (defScope s_Share_bool) := ⟨rfl, rfl, rfl, by decide +kernel, rfl, by decide +kernel, by decide +kernel⟩
theorem sc_Share_eq : FnScope ["self", "other"] ["self", "other"] (defScope s_Share_eq) := ⟨rfl, rfl, rfl, by decide +kernel, rfl, by decide +kernel, by decide +kernel⟩
theorem sc_pool : FnScope ["_law_script", "_law_pool_here", "_law_cell"] ["_law_script"] (defScope s_pool) := ⟨rfl, rfl, rfl, by decide +kernel, rfl, by decide +kernel, by decide +kernel⟩
theorem sc_draw : FnScope ["_law_pool_here", "_law_many", "_law_first", "_law_second", "_law_found"] ["_law_pool_here", "_law_many"] (defScope s_draw) := ⟨rfl, rfl, rfl, by decide +kernel, rfl, by decide +kernel, by decide +kernel⟩
theorem sc_number : FnScope ["_law_pool_here", "_law_groups", "_law_kind", "_law_count", "_law_number_here", "_law_k", "_law_part"] ["_law_pool_here", "_law_groups"] (defScope s_number) := ⟨rfl, rfl, rfl, by decide +kernel, rfl, by decide +kernel, by decide +kernel⟩
theorem sc_signed : FnScope ["_law_pool_here", "_law_groups", "_law_number_here"] ["_law_pool_here", "_law_groups"] (defScope s_signed) := ⟨rfl, rfl, rfl, by decide +kernel, rfl, by decide +kernel, by decide +kernel⟩
theorem sc_pair : FnScope ["_law_pool_here", "_law_factor"] ["_law_pool_here"] (defScope s_pair) := ⟨rfl, rfl, rfl, by decide +kernel, rfl, by decide +kernel, by decide +kernel⟩
theorem sc_whole : FnScope ["_law_value"] ["_law_value"] (defScope s_whole) := ⟨rfl, rfl, rfl, by decide +kernel, rfl, by decide +kernel, by decide +kernel⟩
theorem sc_coprime : FnScope ["_law_one", "_law_other", "_law_k", "_law_rest"] ["_law_one", "_law_other"] (defScope s_coprime) := ⟨rfl, rfl, rfl, by decide +kernel, rfl, by decide +kernel, by decide +kernel⟩
theorem sc_is : FnScope ["_law_share", "_law_top", "_law_bottom"] ["_law_share", "_law_top", "_law_bottom"] (defScope s_is) := ⟨rfl, rfl, rfl, by decide +kernel, rfl, by decide +kernel, by decide +kernel⟩
theorem sc_refused : FnScope ["_law_top", "e"] ["_law_top"] (defScope s_refused) := ⟨rfl, rfl, rfl, by decide +kernel, rfl, by decide +kernel, by decide +kernel⟩
theorem sc_alone : FnScope ["_law_share", "_law_top", "_law_bottom", "_law_value", "_law_sign"] ["_law_share", "_law_top", "_law_bottom"] (defScope s_alone) := ⟨rfl, rfl, rfl, by decide +kernel, rfl, by decide +kernel, by decide +kernel⟩
theorem sc_equal : FnScope ["_law_one", "_law_other", "_law_due"] ["_law_one", "_law_other", "_law_due"] (defScope s_equal) := ⟨rfl, rfl, rfl, by decide +kernel, rfl, by decide +kernel, by decide +kernel⟩
theorem sc_law : FnScope ["_law_script", "_law_pool_here", "_law_pairs", "_law_shares", "_law_at", "_law_turn", "_law_top", "_law_bottom", "_law_by", "_law_k"] ["_law_script"] (defScope s_law) := ⟨rfl, rfl, rfl, by decide +kernel, rfl, by decide +kernel, by decide +kernel⟩
/-- where the top has put what the law uses -/
structure Adr where
  c_Share : Addr
  c_GangError : Addr
  c_BadShare : Addr
  c_BadAmounts : Addr
  c_BadSpan : Addr
  c_Unknown : Addr
  f_GangError_init : Addr
  d_GangError_init : FuncData
  f_Share_init : Addr
  d_Share_init : FuncData
  f_Share_sign : Addr
  d_Share_sign : FuncData
  f_Share_neg : Addr
  d_Share_neg : FuncData
  f_Share_abs : Addr
  d_Share_abs : FuncData
  f_Share_bool : Addr
  d_Share_bool : FuncData
  f_Share_eq : Addr
  d_Share_eq : FuncData
  f_pool : Addr
  d_pool : FuncData
  f_draw : Addr
  d_draw : FuncData
  f_number : Addr
  d_number : FuncData
  f_signed : Addr
  d_signed : FuncData
  f_pair : Addr
  d_pair : FuncData
  f_whole : Addr
  d_whole : FuncData
  f_coprime : Addr
  d_coprime : FuncData
  f_is : Addr
  d_is : FuncData
  f_refused : Addr
  d_refused : FuncData
  f_alone : Addr
  d_alone : FuncData
  f_equal : Addr
  d_equal : FuncData
  f_law : Addr
  d_law : FuncData
structure Txt (K : PySem.W.Frag) (mg : Str → Option Value) (A : Adr) : Prop where
  n_ValueError : mg "ValueError" = none
  n_abs : mg "abs" = none
  n_bool : mg "bool" = none
  n_int : mg "int" = none
  n_isinstance : mg "isinstance" = none
  n_len : mg "len" = none
  n_range : mg "range" = none
  g_Share : mg "Share" = some (.ref A.c_Share)
  g_GangError : mg "GangError" = some (.ref A.c_GangError)
  g_BadShare : mg "BadShare" = some (.ref A.c_BadShare)
  g_BadAmounts : mg "BadAmounts" = some (.ref A.c_BadAmounts)
  g_BadSpan : mg "BadSpan" = some (.ref A.c_BadSpan)
  g_Unknown : mg "Unknown" = some (.ref A.c_Unknown)
  F_GangError_init : Fun K "__init__" "GangError.__init__" s_GangError_init A.f_GangError_init A.d_GangError_init
  b_GangError_init : Binds K A.d_GangError_init ["self", "subject"] []
  me_GangError_init : Meth K A.c_GangError "__init__" A.f_GangError_init
  F_Share_init : FunD K "__init__" "Share.__init__" (defArgs s_Share_init) (defBody s_Share_init) (defScope s_Share_init) [.int 1] [] A.f_Share_init A.d_Share_init
  b_Share_init : Binds K A.d_Share_init ["self", "top", "bottom"] []
  e_Share_init : ∃ ds, Vals [.int 1] ds ∧ Binds K A.d_Share_init ["self", "top", "bottom"] ds
  me_Share_init : Meth K A.c_Share "__init__" A.f_Share_init
  F_Share_sign : Fun K "sign" "Share.sign" s_Share_sign A.f_Share_sign A.d_Share_sign
  b_Share_sign : Binds K A.d_Share_sign ["self"] []
  pr_Share_sign : ∃ p, PropOf K A.c_Share "sign" p A.f_Share_sign
  F_Share_neg : Fun K "__neg__" "Share.__neg__" s_Share_neg A.f_Share_neg A.d_Share_neg
  b_Share_neg : Binds K A.d_Share_neg ["self"] []
  me_Share_neg : Meth K A.c_Share "__neg__" A.f_Share_neg
  F_Share_abs : Fun K "__abs__" "Share.__abs__" s_Share_abs A.f_Share_abs A.d_Share_abs
  b_Share_abs : Binds K A.d_Share_abs ["self"] []
  me_Share_abs : Meth K A.c_Share "__abs__" A.f_Share_abs
  F_Share_bool : Fun K "__bool__" "Share.__bool__" s_Share_bool A.f_Share_bool A.d_Share_bool
  b_Share_bool : Binds K A.d_Share_bool ["self"] []
  me_Share_bool : Meth K A.c_Share "__bool__" A.f_Share_bool
  F_Share_eq : Fun K "__eq__" "Share.__eq__" s_Share_eq A.f_Share_eq A.d_Share_eq
  b_Share_eq : Binds K A.d_Share_eq ["self", "other"] []
  me_Share_eq : Meth K A.c_Share "__eq__" A.f_Share_eq
  F_pool : Fun K "_law_pool" "_law_pool" s_pool A.f_pool A.d_pool
  b_pool : Binds K A.d_pool ["_law_script"] []
  g_pool : mg "_law_pool" = some (.ref A.f_pool)
  F_draw : Fun K "_law_draw" "_law_draw" s_draw A.f_draw A.d_draw
  b_draw : Binds K A.d_draw ["_law_pool_here", "_law_many"] []
  g_draw : mg "_law_draw" = some (.ref A.f_draw)
  F_number : Fun K "_law_number" "_law_number" s_number A.f_number A.d_number
  b_number : Binds K A.d_number ["_law_pool_here", "_law_groups"] []
  g_number : mg "_law_number" = some (.ref A.f_number)
  F_signed : Fun K "_law_signed" "_law_signed" s_signed A.f_signed A.d_signed
  b_signed : Binds K A.d_signed ["_law_pool_here", "_law_groups"] []
  g_signed : mg "_law_signed" = some (.ref A.f_signed)
  F_pair : Fun K "_law_pair" "_law_pair" s_pair A.f_pair A.d_pair
  b_pair : Binds K A.d_pair ["_law_pool_here"] []
  g_pair : mg "_law_pair" = some (.ref A.f_pair)
  F_whole : Fun K "_law_whole" "_law_whole" s_whole A.f_whole A.d_whole
  b_whole : Binds K A.d_whole ["_law_value"] []
  g_whole : mg "_law_whole" = some (.ref A.f_whole)
  F_coprime : Fun K "_law_coprime" "_law_coprime" s_coprime A.f_coprime A.d_coprime
  b_coprime : Binds K A.d_coprime ["_law_one", "_law_other"] []
  g_coprime : mg "_law_coprime" = some (.ref A.f_coprime)
  F_is : Fun K "_law_is" "_law_is" s_is A.f_is A.d_is
  b_is : Binds K A.d_is ["_law_share", "_law_top", "_law_bottom"] []
  g_is : mg "_law_is" = some (.ref A.f_is)
  F_refused : Fun K "_law_refused" "_law_refused" s_refused A.f_refused A.d_refused
  b_refused : Binds K A.d_refused ["_law_top"] []
  g_refused : mg "_law_refused" = some (.ref A.f_refused)
  F_alone : Fun K "_law_alone" "_law_alone" s_alone A.f_alone A.d_alone
  b_alone : Binds K A.d_alone ["_law_share", "_law_top", "_law_bottom"] []
  g_alone : mg "_law_alone" = some (.ref A.f_alone)
  F_equal : Fun K "_law_equal" "_law_equal" s_equal A.f_equal A.d_equal
  b_equal : Binds K A.d_equal ["_law_one", "_law_other", "_law_due"] []
  g_equal : mg "_law_equal" = some (.ref A.f_equal)
  F_law : Fun K "law" "law" s_law A.f_law A.d_law
  b_law : Binds K A.d_law ["_law_script"] []
  g_law : mg "law" = some (.ref A.f_law)
  cl_Share : Cls K A.c_Share
  mk_Share : Mk K A.c_Share A.f_Share_init
  sf_Share : PySem.W.selfFirst K A.c_Share = true
  k1_Share : PySem.W.findIn K (.ref A.c_Share) "__class__" = some (some (.builtin "object.__class__"))
  k4_Share : PySem.W.mroIn K A.c_Share (.type "object") = some true
  no_Share_top : NoAttr K A.c_Share "top"
  no_Share_bottom : NoAttr K A.c_Share "bottom"
  kg : PySem.W.specialIn K (.builtin "object.__class__") "__get__" = some (some (.builtin "getset_descriptor.__get__"))
  kt : PySem.W.takesIn K (.builtin "object.__class__") = some true
  x_GangError : GExc K A.c_GangError A.f_GangError_init
  xf_GangError : XfC K A.c_GangError
  xc_GangError : ExcC K A.c_GangError
  xm_GangError : PySem.W.exmOne K (.ref A.c_GangError) (.ref A.c_GangError) = some true
  x_BadShare : GExc K A.c_BadShare A.f_GangError_init
  xf_BadShare : XfC K A.c_BadShare
  xc_BadShare : ExcC K A.c_BadShare
  xm_BadShare : PySem.W.exmOne K (.ref A.c_BadShare) (.ref A.c_GangError) = some true
  x_BadAmounts : GExc K A.c_BadAmounts A.f_GangError_init
  xf_BadAmounts : XfC K A.c_BadAmounts
  xc_BadAmounts : ExcC K A.c_BadAmounts
  xm_BadAmounts : PySem.W.exmOne K (.ref A.c_BadAmounts) (.ref A.c_GangError) = some true
  x_BadSpan : GExc K A.c_BadSpan A.f_GangError_init
  xf_BadSpan : XfC K A.c_BadSpan
  xc_BadSpan : ExcC K A.c_BadSpan
  xm_BadSpan : PySem.W.exmOne K (.ref A.c_BadSpan) (.ref A.c_GangError) = some true
  x_Unknown : GExc K A.c_Unknown A.f_GangError_init
  xf_Unknown : XfC K A.c_Unknown
  xc_Unknown : ExcC K A.c_Unknown
  xm_Unknown : PySem.W.exmOne K (.ref A.c_Unknown) (.ref A.c_GangError) = some true
  si_Share : PySem.W.subIn K (.ref A.c_Share) (.type "int") = some false
  st_int_Share : PySem.W.subIn K (.type "int") (.ref A.c_Share) = some false
  kt_int_Share : PySem.W.kitOne K (.type "int") (.ref A.c_Share) = some false
  st_tuple_Share : PySem.W.subIn K (.type "tuple") (.ref A.c_Share) = some false
  kt_tuple_Share : PySem.W.kitOne K (.type "tuple") (.ref A.c_Share) = some false
  gcd : mg "gcd" = some (.builtin "math.gcd")
  kt_BadShare_BadShare : PySem.W.kitOne K (.ref A.c_BadShare) (.ref A.c_BadShare) = some true
  kt_BadShare_ValueError : PySem.W.kitOne K (.ref A.c_BadShare) (.type "ValueError") = some true
  kt_BadShare_BadAmounts : PySem.W.kitOne K (.ref A.c_BadShare) (.ref A.c_BadAmounts) = some false
  kt_BadShare_BadSpan : PySem.W.kitOne K (.ref A.c_BadShare) (.ref A.c_BadSpan) = some false
  kt_BadShare_Unknown : PySem.W.kitOne K (.ref A.c_BadShare) (.ref A.c_Unknown) = some false

def sflds (t b : Int) : List (Str × V) := putF "bottom" (.int b) (putF "top" (.int t) [])
theorem sflds_top (t b : Int) : (sflds t b).lookup ("top" : Str) = some (.int t) := by
  unfold sflds; rw [lookup_putF, if_neg (by decide +kernel), lookup_putF, if_pos rfl]
theorem sflds_bottom (t b : Int) : (sflds t b).lookup ("bottom" : Str) = some (.int b) := by
  unfold sflds; rw [lookup_putF, if_pos rfl]
def ShareAt (A : Adr) (H : Hp) (x : Addr) (t b : Int) : Prop := ∃ dx, H x = some (.ins A.c_Share dx (sflds t b))
theorem ShareAt.mono {A : Adr} {H H' : Hp} {x : Addr} {t b : Int} (h : ShareAt A H x t b) (k : Same H H') : ShareAt A H' x t b := let ⟨dx, q⟩ := h; ⟨dx, k _ _ q⟩
/-- fewer than n bits -/
def Bits (n : Nat) (x : Int) : Prop := x.natAbs < 2 ^ n
theorem Bits.log {n : Nat} {x : Int} (h : Bits n x) (h0 : 0 < n) : x.natAbs.log2 < n := PySem.Flt.log2_lt_of h0 h
theorem Bits.le {n : Nat} {x y : Int} (h : Bits n y) (e : x.natAbs ≤ y.natAbs) : Bits n x := Nat.lt_of_le_of_lt e h
theorem Bits.up {n m : Nat} {x : Int} (h : Bits n x) (e : n ≤ m) : Bits m x := Nat.lt_of_lt_of_le h (Nat.pow_le_pow_right (by decide) e)
theorem Bits.mul {n m : Nat} {x y : Int} (h : Bits n x) (h' : Bits m y) : Bits (n + m) (x * y) := by
  unfold Bits
  rw [Int.natAbs_mul, Nat.pow_add]
  exact Nat.mul_lt_mul'' h h'
theorem Bits.neg {n : Nat} {x : Int} (h : Bits n x) : Bits n (-x) := by unfold Bits; rw [Int.natAbs_neg]; exact h
theorem Bits.abs {n : Nat} {x : Int} (h : Bits n x) : Bits n (if x < 0 then -x else x) := by split; exact h.neg; exact h
theorem Bits.one {n : Nat} (h : 0 < n) : Bits n 1 := by
  show (1 : Nat) < 2 ^ n
  exact Nat.one_lt_two_pow (by omega)
theorem Bits.ok {n m : Nat} {x y : Int} (h : Bits n x) (h' : Bits m y) (h0 : 0 < n) (h1 : 0 < m) (e : n + m ≤ 1000000) : IntMulOk x y := by
  have a := h.log h0
  have b := h'.log h1
  exact CMulW.ok (by unfold CMulW; omega)
def RefusedS (A : Adr) (E : XK) (H : Hp) (s e : Int) : Prop := ∀ t d H', Same H H' → H' t = some (.tup [.int s, .int e]) → H' d = some (.xd [(("subject" : Str), .ref t)]) → E (.ref A.c_BadShare) (some d) H'
def NewShare (A : Adr) (Q : VK) (H : Hp) (T B : Int) : Prop := ∀ x H' t b, Same H H' → ShareAt A H' x t b → Rep t b T B → Q (.ref x) H'
def spSI (A : Adr) : Sp := fun vs H Q E => ∃ (p dx : Addr) (t0 b0 : Int), vs = [.ref p, .int t0, .int b0] ∧ H p = some (.ins A.c_Share dx []) ∧ (b0 ≠ 0 → ∃ n, 0 < n ∧ n ≤ 9000 ∧ Bits n b0) ∧ (∀ t b, b0 ≠ 0 → Rep t b t0 b0 → Q .non (upd H p (.ins A.c_Share dx (sflds t b)))) ∧ (b0 = 0 → RefusedS A E H t0 b0)
theorem share_same {A : Adr} {H : Hp} {x dx : Addr} {t b : Int} (hx : H x = none) (hd : H dx = none) (hne : dx ≠ x) : Same H (upd (upd (upd H dx (.own x)) x (.ins A.c_Share dx [])) x (.ins A.c_Share dx (sflds t b))) := by
  rw [upd_upd]
  exact (same_new hd).trans (same_new (by rw [upd_ne hne.symm]; exact hx))
theorem share_made {A : Adr} {H : Hp} {Q : VK} {E : XK} {t0 b0 : Int} {n : Nat} (hb : b0 ≠ 0) (h0 : 0 < n) (h1 : n ≤ 9000) (hB : Bits n b0) (k : NewShare A Q H t0 b0) : ∀ x dx, H x = none → H dx = none → dx ≠ x →
    spSI A (.ref x :: ([.int t0, .int b0] ++ [])) (upd (upd H dx (.own x)) x (.ins A.c_Share dx [])) (fun v H2 => v = .non ∧ Q (.ref x) H2) E := by
  intro x dx hx hd hne
  exact ⟨x, dx, t0, b0, rfl, upd_same, fun _ => ⟨n, h0, h1, hB⟩, fun t b _ r => ⟨rfl, k x _ t b (share_same hx hd hne) ⟨dx, upd_same⟩ r⟩, fun c => absurd c hb⟩
theorem rep_trans {t b T B t2 b2 : Int} (h : t2 * b = t * b2) (e : t * B = T * b) (hb : b ≠ 0) : t2 * B = T * b2 := by
  refine Int.eq_of_mul_eq_mul_right hb ?_
  calc t2 * B * b = (t2 * b) * B := by rw [Int.mul_assoc, Int.mul_comm B b, ← Int.mul_assoc]
    _ = (t * b2) * B := by rw [h]
    _ = (t * B) * b2 := by rw [Int.mul_assoc, Int.mul_comm b2 B, ← Int.mul_assoc]
    _ = (T * b) * b2 := by rw [e]
    _ = T * b2 * b := by rw [Int.mul_assoc, Int.mul_comm b b2, ← Int.mul_assoc]
theorem pos_of_mul {x y : Int} (h : 0 < x * y) (hy : 0 < y) : 0 < x := by
  rcases Int.lt_or_le 0 x with c | c
  · exact c
  · have := Int.mul_le_mul_of_nonneg_right c (Int.le_of_lt hy)
    rw [Int.zero_mul] at this
    omega
theorem neg_of_mul {x y : Int} (h : x * y < 0) (hy : 0 < y) : x < 0 := by
  rcases Int.lt_or_le x 0 with c | c
  · exact c
  · have := Int.mul_nonneg c (Int.le_of_lt hy)
    omega
def sg (t : Int) : Int := if t < 0 then -1 else if 0 < t then 1 else 0
theorem sgn_pos {t b T B : Int} (hb : 1 ≤ b) (hB : B ≠ 0) (e : t * B = T * b) : (0 < t ↔ 0 < T * B) ∧ (t < 0 ↔ T * B < 0) := by
  have q : t * (B * B) = (T * B) * b := by rw [← Int.mul_assoc, e, Int.mul_assoc, Int.mul_comm b B, ← Int.mul_assoc]
  have p2 : 0 < B * B := by
    rcases Int.lt_or_gt_of_ne hB with h | h
    · exact Int.mul_pos_of_neg_of_neg h h
    · exact Int.mul_pos h h
  generalize hP : T * B = P at q ⊢
  generalize hS : B * B = S at q p2
  have hb' : 0 < b := by omega
  refine ⟨⟨fun h => ?_, fun h => ?_⟩, ⟨fun h => ?_, fun h => ?_⟩⟩
  · have := Int.mul_pos h p2
    rw [q] at this
    exact pos_of_mul this hb'
  · have := Int.mul_pos h hb'
    rw [← q] at this
    exact pos_of_mul this p2
  · have := Int.mul_neg_of_neg_of_pos h p2
    rw [q] at this
    exact neg_of_mul this hb'
  · have := Int.mul_neg_of_neg_of_pos h hb'
    rw [← q] at this
    exact neg_of_mul this p2
def spBool (A : Adr) : Sp := fun vs H Q _ => ∃ (a : Addr) (t b : Int), vs = [.ref a] ∧ ShareAt A H a t b ∧ Q (.bl (!decide (V.int t = V.int 0))) H
def spSign (A : Adr) : Sp := fun vs H Q _ => ∃ (a : Addr) (t b : Int), vs = [.ref a] ∧ ShareAt A H a t b ∧ Q (.int (sg t)) H
def spNeg (A : Adr) : Sp := fun vs H Q _ => ∃ (a : Addr) (t b : Int) (n : Nat), vs = [.ref a] ∧ ShareAt A H a t b ∧ 1 ≤ b ∧ 0 < n ∧ n ≤ 9000 ∧ Bits n b ∧ NewShare A Q H (-t) b
def spAbs (A : Adr) : Sp := fun vs H Q _ => ∃ (a : Addr) (t b : Int) (n : Nat), vs = [.ref a] ∧ ShareAt A H a t b ∧ 1 ≤ b ∧ 0 < n ∧ n ≤ 9000 ∧ Bits n b ∧ NewShare A Q H (if t < 0 then -t else t) b
def spEq (K : PySem.W.Frag) (A : Adr) : Sp := fun vs H Q _ => ∃ (a : Addr) (y : V) (t b : Int), vs = [.ref a, y] ∧ ShareAt A H a t b ∧ ((∃ c t' b', y = .ref c ∧ ShareAt A H c t' b' ∧ Q (.bl (decide (t = t' ∧ b = b'))) H) ∨ (∃ ty, TyX K H y ty ∧ PySem.W.kitOne K ty (.ref A.c_Share) = some false ∧ Q (.bl false) H))
def spNumber : Sp := fun vs H Q _ => ∃ (p : Addr) (g : Nat), vs = [.ref p, .int g] ∧ PoolAt H p ∧ 1 ≤ g ∧ g ≤ 10 ∧ ∀ r H', 0 ≤ r → r < 1000 ^ g → PoolAt H' p → SameBut p H H' → Q (.int r) H'
def spSigned : Sp := fun vs H Q _ => ∃ (p : Addr) (g : Nat), vs = [.ref p, .int g] ∧ PoolAt H p ∧ 1 ≤ g ∧ g ≤ 10 ∧ ∀ r H', Bits (10 * g) r → PoolAt H' p → SameBut p H H' → Q (.int r) H'
theorem bits_of {r : Int} {g : Nat} (h0 : 0 ≤ r) (h : r < 1000 ^ g) : Bits (10 * g) r := by
  have e : ∀ k : Nat, (1000 : Int) ^ k ≤ ((2 ^ (10 * k) : Nat) : Int) := by
    intro k
    induction k with
    | zero => decide
    | succ k ih =>
      rw [Int.pow_succ, Nat.mul_succ, Nat.pow_add]
      have : (2 : Nat) ^ 10 = 1024 := by decide
      rw [this, Int.natCast_mul]
      have p : (0 : Int) ≤ ((2 ^ (10 * k) : Nat) : Int) := Int.natCast_nonneg _
      generalize ((2 ^ (10 * k) : Nat) : Int) = Z at *
      generalize (1000 : Int) ^ k = Y at *
      omega
  have := e g
  unfold Bits
  omega
def spWhole : Sp := fun vs H Q _ => ∃ i : Int, vs = [.int i] ∧ Q (.bl true) H
def spCop : Sp := fun vs H Q _ => ∃ a b : Nat, vs = [.int a, .int b] ∧ Nat.gcd a b = 1 ∧ b < 2 ^ 200 ∧ Q (.bl true) H
def spIs (A : Adr) : Sp := fun vs H Q _ => ∃ (x : Addr) (t b T B : Int) (n m : Nat), vs = [.ref x, .int T, .int B] ∧ ShareAt A H x t b ∧ 1 ≤ b ∧ t * B = T * b ∧ Nat.gcd t.natAbs b.natAbs = 1 ∧ Bits 200 b ∧ Bits n t ∧ 0 < n ∧ n ≤ 100000 ∧ Bits m T ∧ Bits m B ∧ 0 < m ∧ m ≤ 100000 ∧ Q (.bl true) H

def spPair : Sp := fun vs H Q _ => ∃ p : Addr, vs = [.ref p] ∧ PoolAt H p ∧ ∀ t a b H', Bits 100 a → Bits 100 b → t ≠ p → PoolAt H' p → SameBut p H H' → H' t = some (.tup [.int a, .int b]) → Q (.ref t) H'
def spRef : Sp := fun vs H Q _ => ∃ t : Int, vs = [.int t] ∧ ∀ H', Same H H' → Q (.bl true) H'
def spAlone (A : Adr) : Sp := fun vs H Q _ => ∃ (x : Addr) (t b tt bb : Int), vs = [.ref x, .int tt, .int bb] ∧ ShareAt A H x t b ∧ Rep t b tt bb ∧ bb ≠ 0 ∧ Bits 100 tt ∧ Bits 100 bb ∧ ∀ H', Same H H' → Q (.bl true) H'
def spEqual (A : Adr) : Sp := fun vs H Q _ => ∃ (x y : Addr) (t b t' b' : Int) (d : Bool), vs = [.ref x, .ref y, .bl d] ∧ ShareAt A H x t b ∧ ShareAt A H y t' b' ∧ d = decide (t = t' ∧ b = b') ∧ Q (.bl true) H
def spLaw (K : PySem.W.Frag) : Sp := fun vs H Q _ => ∃ (a : Addr) (ns : List Int), vs = [.ref a] ∧ SqL K H a (ns.map V.int) ∧ ns.length ≤ 63 ∧ (∀ z ∈ ns, Builtin.Int.intBits z ≤ 1048576) ∧ ∀ H', Q (.bl true) H'
abbrev lawLvl : Nat := 8

theorem sg_eq {t b T B : Int} (hb : 1 ≤ b) (hB : B ≠ 0) (e : t * B = T * b) : (if decide (0 < T * B) = true then (1 : Int) else 0) - (if decide (T * B < 0) = true then (1 : Int) else 0) = sg t := by
  obtain ⟨p, q⟩ := sgn_pos hb hB e
  unfold sg
  by_cases h1 : 0 < t
  · have h2 : ¬ t < 0 := by omega
    rw [decide_eq_true (p.mp h1), decide_eq_false (fun z => h2 (q.mpr z)), if_neg h2, if_pos h1]
    rfl
  · by_cases h2 : t < 0
    · rw [decide_eq_false (fun z => h1 (p.mpr z)), decide_eq_true (q.mp h2), if_pos h2]
      rfl
    · rw [decide_eq_false (fun z => h1 (p.mpr z)), decide_eq_false (fun z => h2 (q.mpr z)), if_neg h2, if_neg h1]
      rfl
theorem sg_zero (t : Int) : V.bl (!decide (V.int t = V.int 0)) = V.bl (!decide (V.int (sg t) = V.int 0)) := by
  have : (V.int t = V.int 0) ↔ (V.int (sg t) = V.int 0) := by
    rw [V.int.injEq, V.int.injEq]
    unfold sg
    constructor
    · intro h; subst h; rfl
    · intro h; split at h
      · omega
      · split at h <;> omega
  rw [decide_eq_decide.mpr this]
theorem ab_eq (x : Int) : (if x < 0 then -x else x) = (x.natAbs : Int) := by split <;> omega
theorem ab_cross {t b T B : Int} (hb : 1 ≤ b) (e : t * B = T * b) : (if t < 0 then -t else t) * (if B < 0 then -B else B) = (if T < 0 then -T else T) * b := by
  have h : (t * B).natAbs = (T * b).natAbs := by rw [e]
  rw [Int.natAbs_mul, Int.natAbs_mul] at h
  rw [ab_eq, ab_eq, ab_eq, show b = (b.natAbs : Int) by omega, ← Int.natCast_mul, ← Int.natCast_mul, h]
theorem dec_comm (t b t' b' : Int) : decide (t = t' ∧ b = b') = decide (t' = t ∧ b' = b) := decide_eq_decide.mpr ⟨fun h => ⟨h.1.symm, h.2.symm⟩, fun h => ⟨h.1.symm, h.2.symm⟩⟩

theorem qt' {Q : VK} {H : Hp} {p : Prop} [Decidable p] (c : p) (h : Q (.bl true) H) : Q (.bl (decide p)) H := by
  rw [decide_eq_true c]; exact h

/-- a row and its share -/
def Good (A : Adr) (H : Hp) (t x : Addr) : Prop := ∃ T B c d, H t = some (.tup [.int T, .int B]) ∧ B ≠ 0 ∧ Bits 100 T ∧ Bits 100 B ∧ ShareAt A H x c d ∧ Rep c d T B
theorem Good.mono {A : Adr} {H H' : Hp} {t x : Addr} (g : Good A H t x) (s : Same H H') : Good A H' t x := let ⟨T, B, c, d, h1, h2, h3, h4, h5, h6⟩ := g; ⟨T, B, c, d, s _ _ h1, h2, h3, h4, h5.mono s, h6⟩
theorem Good.keep {A : Adr} {H : Hp} {t x p : Addr} {xs : List V} {o : HO} (g : Good A H t x) (h : H p = some (.lst xs)) : Good A (upd H p o) t x := by
  obtain ⟨T, B, c, d, h1, h2, h3, h4, ⟨dx, h5⟩, h6⟩ := g
  have n1 : t ≠ p := fun z => by rw [z, h] at h1; cases h1
  have n2 : x ≠ p := fun z => by rw [z, h] at h5; cases h5
  exact ⟨T, B, c, d, by rw [upd_ne n1]; exact h1, h2, h3, h4, ⟨dx, by rw [upd_ne n2]; exact h5⟩, h6⟩
def TupOk (H : Hp) (t : Addr) : Prop := ∃ a b, Bits 100 a ∧ Bits 100 b ∧ H t = some (.tup [.int a, .int b])
theorem TupOk.mono {H H' : Hp} {t : Addr} (g : TupOk H t) (s : Same H H') : TupOk H' t := let ⟨a, b, h1, h2, h3⟩ := g; ⟨a, b, h1, h2, s _ _ h3⟩
theorem TupOk.keep {H : Hp} {t p : Addr} {xs : List V} {o : HO} (g : TupOk H t) (h : H p = some (.lst xs)) : TupOk (upd H p o) t := by
  obtain ⟨a, b, h1, h2, h3⟩ := g
  have n1 : t ≠ p := fun z => by rw [z, h] at h3; cases h3
  exact ⟨a, b, h1, h2, by rw [upd_ne n1]; exact h3⟩
structure Sit (A : Adr) (H : Hp) (R S : Addr) (ts xs : List Addr) : Prop where
  r : H R = some (.lst (ts.map V.ref))
  s : H S = some (.lst (xs.map V.ref))
  lr : ts.length = 3
  ls : xs.length = 3
  ok : ∀ (j : Nat) (t x : Addr), ts[j]? = some t → xs[j]? = some x → Good A H t x
theorem Sit.mono {A : Adr} {H H' : Hp} {R S : Addr} {ts xs : List Addr} (g : Sit A H R S ts xs) (s : Same H H') : Sit A H' R S ts xs :=
  ⟨s _ _ g.r, s _ _ g.s, g.lr, g.ls, fun j t x h1 h2 => (g.ok j t x h1 h2).mono s⟩
theorem Sit.get {A : Adr} {H : Hp} {R S : Addr} {ts xs : List Addr} (g : Sit A H R S ts xs) {i : Nat} (hi : i < 3) : ∃ t x, atI (xs.map V.ref) ((0 : Int) + (i : Nat)) = some (.ref x) ∧ atI (ts.map V.ref) ((0 : Int) + (i : Nat)) = some (.ref t) ∧ Good A H t x := by
  have h1 : i < ts.length := by rw [g.lr]; exact hi
  have h2 : i < xs.length := by rw [g.ls]; exact hi
  have q := g.ok i ts[i] xs[i] (List.getElem?_eq_getElem h1) (List.getElem?_eq_getElem h2)
  have e : (0 : Int) + (i : Nat) = (i : Nat) := Int.zero_add _
  refine ⟨ts[i], xs[i], ?_, ?_, q⟩
  · rw [e]; exact atI_nat (by rw [List.getElem?_map, List.getElem?_eq_getElem h2]; rfl)
  · rw [e]; exact atI_nat (by rw [List.getElem?_map, List.getElem?_eq_getElem h1]; rfl)
theorem rep_neg {t b T B : Int} (r : Rep t b T B) : Rep t b (-T) (-B) := ⟨r.pos, by rw [Int.mul_neg, Int.neg_mul, r.cross], r.cop, by rw [Int.natAbs_neg]; exact r.st, by rw [Int.natAbs_neg]; exact r.sb⟩
theorem due_eq {t b T B t' b' T' B' : Int} (r : Rep t b T B) (r' : Rep t' b' T' B') (hB : B ≠ 0) (hB' : B' ≠ 0) : decide (V.int (T * B') = V.int (T' * B)) = decide (t = t' ∧ b = b') := by
  refine decide_eq_decide.mpr ⟨fun h => ?_, fun h => ?_⟩
  · injection h with h
    have hb0 : b ≠ 0 := by have := r.pos; omega
    have hb0' : b' ≠ 0 := by have := r'.pos; omega
    refine rep_uniq r.pos r'.pos r.cop r'.cop ?_
    -- t/b = T/B = T'/B' = t'/b'
    have e1 : T * b = t * B := r.cross.symm
    have e2 : t * B' = T' * b := rep_trans (t2 := t) (b2 := b) (t := T) (b := B) (T := T') (B := B') r.cross h hB
    exact rep_trans (t2 := t) (b2 := b) (t := T') (b := B') (T := t') (B := b') e2 r'.cross.symm hB'
  · obtain ⟨rfl, rfl⟩ := h
    have hb0 : b ≠ 0 := by have := r.pos; omega
    rw [V.int.injEq]
    exact rep_trans (t2 := T) (b2 := B) (t := t) (b := b) (T := T') (B := B') r.cross.symm r'.cross hb0

section
variable {P : Program} {w : World} {K : PySem.W.Frag} {mg : Str → Option Value} {base : Heap} {A : Adr}
theorem ok_GangError_init (T : Txt K mg A) : FnOk P w K mg base CX0 1 A.f_GangError_init A.d_GangError_init ["self", "subject"] (spGI K) := by
  refine T.F_GangError_init.ok sc_GangError_init (fun vs H Q E h => ?_) (fun cdv Ar outer s H vs Q E hr h => ?_)
  · obtain ⟨a, C, v, rfl, _⟩ := h
    rfl
  · obtain ⟨a, C, v, rfl, hT, hn, ha, k⟩ := h
    refine ⟨_, (pss_one (ps_ost (pv 0) (pv 1))), ?_⟩
    exact ⟨_, rfl, _, rfl, a, C, rfl, hT, hn, .inl ⟨ha, k⟩⟩
theorem ok_Share_init (T : Txt K mg A) : FnOk P w K mg base (L2.CX P w) 3 A.f_Share_init A.d_Share_init ["self", "top", "bottom"] (spSI A) := by
  refine T.F_Share_init.ok (CX := (L2.CX P w)) sc_Share_init (fun vs H Q E h => ?_) (fun cdv Ar outer s H vs Q E hr h => ?_)
  · obtain ⟨p, dx, t0, b0, rfl, _⟩ := h
    rfl
  · obtain ⟨p, dx, t0, b0, rfl, hp, hbits, kG, kB⟩ := h
    refine ⟨_, (pss_cons (ps_if (pt_cmpR op_eq (pv 2) pe_int (nomark _)) (pss_one (ps_raiseG rfl T.x_BadShare (ok_GangError_init T) (hr.mono (by decide)) T.b_GangError_init rfl T.g_BadShare (takes_of rfl rfl rfl rfl) (pe_tup (pa_cons (pv 1) (pa_cons (pv 2) pa_nil))))) pss_nil)
        (pss_cons (ps_set (i := 3) sc_Share_init.nd rfl (Or.inl rfl) (pe_callBfun cr_gcd (by rfl) T.gcd (pa_cons (pv 1) (pa_cons (pv 2) pa_nil))))
        (pss_cons (ps_if (pt_cmpR op_lt (pv 2) pe_int (nomark _)) (pss_one (ps_set (i := 3) sc_Share_init.nd rfl (Or.inl rfl) (pe_un un_neg (pv 3)))) pss_nil)
        (pss_cons (ps_fld (pv 0) (pe_op op_fdivX (pv 1) (pv 3)) rfl)
        (pss_one (ps_fld (pv 0) (pe_op op_fdivX (pv 2) (pv 3)) rfl)))))), ?_⟩
    refine ⟨_, rfl, rfl, _, rfl, ?_⟩
    refine iteD (fun c => ?_) (fun c => ?_)
    · injection c with c
      refine ⟨_, rfl, _, rfl, (by show 2 ≤ sizeLine; decide), fun t ht => raiseG_in T.x_BadShare fun d hd => ?_⟩
      refine kB c t d _ ((same_new ht).trans (same_new hd)) ?_ upd_same
      rw [upd_ne (ne_of_none upd_same hd)]
      exact upd_same
    · have hb0 : b0 ≠ 0 := fun e => c (by rw [e])
      obtain ⟨n, hn0, hn1, hB⟩ := hbits hb0
      refine ⟨_, rfl, _, rfl, _, _, rfl, ?_⟩
      refine ⟨_, rfl, _, _, rfl, rfl, _, rfl, ?_⟩
      refine iteD (fun c => ?_) (fun c => ?_)
      · refine ⟨_, rfl, _, rfl, ?_⟩
        have rp := rep_of (T := t0) hb0 rfl (show -((Nat.gcd t0.natAbs b0.natAbs : Nat) : Int) = if b0 < 0 then -((Nat.gcd t0.natAbs b0.natAbs : Nat) : Int) else ((Nat.gcd t0.natAbs b0.natAbs : Nat) : Int) by rw [if_pos c])
        refine ⟨_, rfl, _, rfl, _, _, rfl, rfl, ⟨rp.1, Nat.lt_of_lt_of_le ((Bits.le hB rp.2.1).log hn0) hn1⟩, _, rfl, p, A.c_Share, dx, _, rfl, hp, T.cl_Share, T.no_Share_top, (by show 0 < 1000; decide), _, rfl, _, rfl, _, _, rfl, rfl, ⟨rp.1, Nat.lt_of_lt_of_le ((Bits.le hB rp.2.1).log hn0) hn1⟩, _, rfl, p, A.c_Share, dx, _, rfl, upd_same, T.cl_Share, T.no_Share_bottom, (by show 1 < 1000; decide), ?_⟩
        rw [upd_upd]
        exact kG _ _ hb0 rp.2.2
      · have rp := rep_of (T := t0) hb0 rfl (show ((Nat.gcd t0.natAbs b0.natAbs : Nat) : Int) = if b0 < 0 then -((Nat.gcd t0.natAbs b0.natAbs : Nat) : Int) else ((Nat.gcd t0.natAbs b0.natAbs : Nat) : Int) by rw [if_neg c])
        refine ⟨_, rfl, _, rfl, _, _, rfl, rfl, ⟨rp.1, Nat.lt_of_lt_of_le ((Bits.le hB rp.2.1).log hn0) hn1⟩, _, rfl, p, A.c_Share, dx, _, rfl, hp, T.cl_Share, T.no_Share_top, (by show 0 < 1000; decide), _, rfl, _, rfl, _, _, rfl, rfl, ⟨rp.1, Nat.lt_of_lt_of_le ((Bits.le hB rp.2.1).log hn0) hn1⟩, _, rfl, p, A.c_Share, dx, _, rfl, upd_same, T.cl_Share, T.no_Share_bottom, (by show 1 < 1000; decide), ?_⟩
        rw [upd_upd]
        exact kG _ _ hb0 rp.2.2
theorem ok_Share_sign (T : Txt K mg A) : FnOk P w K mg base CX0 1 A.f_Share_sign A.d_Share_sign ["self"] (spSign A) := by
  refine T.F_Share_sign.ok sc_Share_sign (fun vs H Q E h => ?_) (fun cdv Ar outer s H vs Q E hr h => ?_)
  · obtain ⟨a, t, b, rfl, _⟩ := h
    rfl
  · obtain ⟨a, t, b, rfl, hS, k⟩ := h
    refine ⟨_, (pss_cons (ps_if (pt_cmpR op_lt (pe_fldK K (pv 0) rfl) pe_int (nomark _)) (pss_one (ps_ret (pe_un un_neg pe_int))) pss_nil)
        (pss_one (ps_ret (pe_ifExp (pt_cmpR op_gt (pe_fldK K (pv 0) rfl) pe_int (nomark _)) pe_int pe_int)))), ?_⟩
    obtain ⟨dx, ho⟩ := id hS
    refine ⟨_, rfl, a, A.c_Share, dx, _, _, rfl, ho, T.cl_Share, T.no_Share_top, sflds_top _ _, _, _, rfl, rfl, _, rfl, ?_⟩
    unfold sg at k
    refine iteD (fun c => ?_) (fun c => ?_)
    · rw [if_pos c] at k
      exact ⟨_, rfl, k⟩
    · rw [if_neg c] at k
      refine ⟨_, rfl, a, A.c_Share, dx, _, _, rfl, ho, T.cl_Share, T.no_Share_top, sflds_top _ _, _, _, rfl, rfl, _, rfl, ?_⟩
      refine iteD (fun c2 => ?_) (fun c2 => ?_)
      · rw [if_pos c2] at k; exact k
      · rw [if_neg c2] at k; exact k
theorem ok_Share_neg (T : Txt K mg A) : FnOk P w K mg base CX0 5 A.f_Share_neg A.d_Share_neg ["self"] (spNeg A) := by
  refine T.F_Share_neg.ok sc_Share_neg (fun vs H Q E h => ?_) (fun cdv Ar outer s H vs Q E hr h => ?_)
  · obtain ⟨a, t, b, n, rfl, _⟩ := h
    rfl
  · obtain ⟨a, t, b, n, rfl, hS, hb, h1, h2, hB, k⟩ := h
    refine ⟨_, (pss_one (ps_ret (pe_make T.mk_Share (ok_Share_init T) (hr.mono (by decide)) rfl T.g_Share T.b_Share_init .nil passL (pa_cons (pe_un un_neg (pe_fldK K (pv 0) rfl)) (pa_cons (pe_fldK K (pv 0) rfl) pa_nil))))), ?_⟩
    obtain ⟨dx, ho⟩ := id hS
    refine ⟨_, rfl, a, A.c_Share, dx, _, _, rfl, ho, T.cl_Share, T.no_Share_top, sflds_top _ _, _, rfl, _, rfl, a, A.c_Share, dx, _, _, rfl, ho, T.cl_Share, T.no_Share_bottom, sflds_bottom _ _, ?_⟩
    exact share_made (by omega) h1 h2 hB k
theorem ok_Share_abs (T : Txt K mg A) : FnOk P w K mg base CX0 5 A.f_Share_abs A.d_Share_abs ["self"] (spAbs A) := by
  refine T.F_Share_abs.ok sc_Share_abs (fun vs H Q E h => ?_) (fun cdv Ar outer s H vs Q E hr h => ?_)
  · obtain ⟨a, t, b, n, rfl, _⟩ := h
    rfl
  · obtain ⟨a, t, b, n, rfl, hS, hb, h1, h2, hB, k⟩ := h
    refine ⟨_, (pss_one (ps_ret (pe_make T.mk_Share (ok_Share_init T) (hr.mono (by decide)) rfl T.g_Share T.b_Share_init .nil passL (pa_cons (pe_callB call_abs (by rfl) T.n_abs (by decide +kernel) (pa_cons (pe_fldK K (pv 0) rfl) pa_nil)) (pa_cons (pe_fldK K (pv 0) rfl) pa_nil))))), ?_⟩
    obtain ⟨dx, ho⟩ := id hS
    refine ⟨_, rfl, a, A.c_Share, dx, _, _, rfl, ho, T.cl_Share, T.no_Share_top, sflds_top _ _, _, rfl, _, rfl, a, A.c_Share, dx, _, _, rfl, ho, T.cl_Share, T.no_Share_bottom, sflds_bottom _ _, ?_⟩
    exact share_made (by omega) h1 h2 hB k
theorem ok_Share_bool (T : Txt K mg A) : FnOk P w K mg base CX0 1 A.f_Share_bool A.d_Share_bool ["self"] (spBool A) := by
  refine T.F_Share_bool.ok sc_Share_bool (fun vs H Q E h => ?_) (fun cdv Ar outer s H vs Q E hr h => ?_)
  · obtain ⟨a, t, b, rfl, _⟩ := h
    rfl
  · obtain ⟨a, t, b, rfl, hS, k⟩ := h
    refine ⟨_, (pss_one (ps_ret (pe_callTy call_bool1 (by rfl) T.n_bool (by decide +kernel) (pa_cons (pe_cmpR op_ne (pe_fldK K (pv 0) rfl) pe_int (nomark _)) pa_nil)))), ?_⟩
    obtain ⟨dx, ho⟩ := id hS
    exact ⟨_, rfl, a, A.c_Share, dx, _, _, rfl, ho, T.cl_Share, T.no_Share_top, sflds_top _ _, rfl, .inr ⟨_, rfl, k⟩⟩
theorem ok_Share_eq (T : Txt K mg A) : FnOk P w K mg base CX0 1 A.f_Share_eq A.d_Share_eq ["self", "other"] (spEq K A) := by
  refine T.F_Share_eq.ok sc_Share_eq (fun vs H Q E h => ?_) (fun cdv Ar outer s H vs Q E hr h => ?_)
  · obtain ⟨a, y, t, b, rfl, _⟩ := h
    rfl
  · obtain ⟨a, y, t, b, rfl, hS, hor⟩ := h
    refine ⟨_, (pss_one (ps_ret (pe_and (pe_callB (call_isiK' K) (by rfl) T.n_isinstance (by decide +kernel) (pa_cons (pv 1) (pa_cons (pe_glob (v := .ref A.c_Share) rfl T.g_Share rfl) pa_nil))) (pe_and (pe_cmpR op_eq (pe_fldK K (pv 0) rfl) (pe_fldK K (pv 1) rfl) (nomark _)) (pe_one (pe_cmpR op_eq (pe_fldK K (pv 0) rfl) (pe_fldK K (pv 1) rfl) (nomark _))))))), ?_⟩
    obtain ⟨dx, ho⟩ := id hS
    rcases hor with ⟨c, t', b', rfl, hR, k⟩ | ⟨ty, hty, hk, k⟩
    · obtain ⟨dy, ho'⟩ := id hR
      refine ⟨_, rfl, _, _, _, _, true, rfl, .own _, .base (.ins ho' T.cl_Share T.k1_Share T.kg T.kt T.k4_Share), kit_same, true, rfl, iteT ?_⟩
      refine ⟨_, rfl, a, A.c_Share, dx, _, _, rfl, ho, T.cl_Share, T.no_Share_top, sflds_top _ _, _, rfl, c, A.c_Share, dy, _, _, rfl, ho', T.cl_Share, T.no_Share_top, sflds_top _ _, rfl, _, rfl, ?_⟩
      refine iteD (fun e => ?_) (fun e => ?_)
      · refine ⟨_, rfl, a, A.c_Share, dx, _, _, rfl, ho, T.cl_Share, T.no_Share_bottom, sflds_bottom _ _, _, rfl, c, A.c_Share, dy, _, _, rfl, ho', T.cl_Share, T.no_Share_bottom, sflds_bottom _ _, rfl, ?_⟩
        injection e with e
        exact qd ⟨fun z => congrArg V.int z.2, fun z => ⟨e, by injection z⟩⟩ k
      · exact qf (fun z => e (congrArg V.int z.1)) k
    · exact ⟨_, rfl, _, _, _, _, false, rfl, .own _, hty, hk, false, rfl, iteF k⟩
theorem ok_pool (T : Txt K mg A) : FnOk P w K mg base CX0 1 A.f_pool A.d_pool ["_law_script"] (spPool K) := by
  refine T.F_pool.ok sc_pool (fun vs H Q E h => ?_) (fun cdv Ar outer s H vs Q E hr h => ?_)
  · obtain ⟨a, ns, rfl, _⟩ := h
    rfl
  · obtain ⟨a, ns, rfl, hS, hl, hb, k⟩ := h
    refine ⟨_, (pss_cons (ps_set (i := 1) sc_pool.nd rfl (Or.inl rfl) (pe_lst (pa_cons pe_int (pa_cons pe_int (pa_cons pe_int (pa_cons pe_int pa_nil))))))
        (pss_cons (ps_for PassesOwn.never rfl (pi_listK K (pv 0)) (pg_name (i := 2) sc_pool.nd rfl (Or.inl rfl))
        (pss_one (ps_if (pt_cmpR op_ge (pv 2) (pe_op op_pow pe_int pe_int) (nomark _)) (pss_one (ps_expr (pe_bm PySem.F.plainAttrs_list PySem.F.slot_list_append PySem.F.type_list_append mt_append (pv 1) (pa_cons (pv 2) pa_nil)))) (pss_cons (ps_asg (pe_op op_mod (pe_callTy call_int1 (by rfl) T.n_int (by decide +kernel) (pa_cons (pe_op op_add (pe_op op_mulX (pe_ix (ix_listK K) (pv 1) pe_int (fun _ _ => rfl)) pe_int) (pv 2)) pa_nil)) pe_int) (pg_sub (pv 1) pe_int set_list))
        (pss_cons (ps_asg (pe_op op_mod (pe_callTy call_int1 (by rfl) T.n_int (by decide +kernel) (pa_cons (pe_op op_add (pe_op op_mulX (pe_ix (ix_listK K) (pv 1) pe_int (fun _ _ => rfl)) pe_int) (pe_op op_mulX (pv 2) (pv 2))) pa_nil)) pe_int) (pg_sub (pv 1) pe_int set_list))
        (pss_one (ps_asg (pe_op op_mod (pe_callTy call_int1 (by rfl) T.n_int (by decide +kernel) (pa_cons (pe_op op_add (pe_op op_mulX (pe_ix (ix_listK K) (pv 1) pe_int (fun _ _ => rfl)) pe_int) (pe_op op_mulX (pv 2) pe_int)) pa_nil)) pe_int) (pg_sub (pv 1) pe_int set_list))))))))
        (pss_one (ps_ret (pv 1))))), ?_⟩
    refine ⟨(by show 4 ≤ sizeLine; decide), fun p hp => ?_⟩
    have sp : Same H (upd H p (.lst (poolL 1 2 3 0 []))) := same_new hp
    refine ⟨_, rfl, a, rfl, ⟨_, sp.seq hS⟩, for_list (K := K) (a := a) (xs := ns.map V.int) (fun i σ H' => ∃ v x0 x1 x2 bs, σ = [some (.ref a), some (.ref p), v] ∧ SameBut p H H' ∧ H' p = some (.lst (poolL x0 x1 x2 0 bs)) ∧ bs.length ≤ i ∧ ∀ z ∈ bs, 1 ≤ z)
      ⟨none, 1, 2, 3, [], rfl, sp.but, upd_same, Nat.le_refl _, fun z h => absurd h List.not_mem_nil⟩ (fun i σ H' _ ⟨_, _, _, _, _, _, sb, _⟩ => (same_of_but hp sb).seq hS) ?_ ?_⟩
    · rintro i y σ H' hi ⟨v, x0, x1, x2, bs, rfl, sb, hp', hbl, hz⟩
      obtain ⟨z, hzi, rfl⟩ := getMap hi
      have hil : i < ns.length := (List.getElem?_eq_some_iff.mp hzi).1
      have hbits := hb z (List.mem_of_getElem? hzi)
      refine ⟨_, rfl, _, _, rfl, rfl, ⟨by decide, by decide, by decide⟩, _, _, rfl, rfl, _, rfl, ?_⟩
      refine iteD (fun c => ?_) (fun c => ?_)
      · refine ⟨_, rfl, .inl ⟨rfl, _, SqL.of hp'⟩, _, rfl, p, _, _, rfl, rfl, hp', small1000 (by rw [pool_len]; omega), ?_⟩
        refine ⟨some (.int z), x0, x1, x2, bs ++ [z], rfl, sb.trans sameBut_upd, ?_, by rw [List.length_append]; show bs.length + 1 ≤ i + 1; omega, fun q hq => ?_⟩
        · rw [upd_same]; simp [poolL]
        · rcases List.mem_append.mp hq with h | h
          · exact hz q h
          · rw [List.mem_singleton.mp h]
            have e18 : (10 : Int) ^ (18 : Int).toNat = 1000000000000000000 := by decide
            have c' : (1000000000000000000 : Int) ≤ z := e18 ▸ c
            omega
      · refine ⟨_, rfl, p, _, 0, _, rfl, rfl, SqL.of hp', pool_at0, _, _, rfl, rfl, mulR ⟨by decide, by decide⟩, _, rfl, _, _, rfl, rfl, .inl ⟨_, rfl, _, _, rfl, rfl, (by show (0 : Int) < 101; decide), _, rfl, p, _, _, 0, rfl, rfl, hp', pool_ix 0 (by decide), ?_⟩⟩
        refine ⟨_, rfl, p, _, 1, _, rfl, rfl, SqL.of (show _ = some (.lst (poolL _ x1 x2 0 bs)) from upd_same), pool_at1, _, _, rfl, rfl, mulR ⟨by decide, by decide⟩, _, rfl, _, rfl, _, _, rfl, rfl, bitsMul hbits hbits, _, _, rfl, rfl, .inl ⟨_, rfl, _, _, rfl, rfl, (by show (0 : Int) < 103; decide), _, rfl, p, _, _, 1, rfl, rfl, (show _ = some (.lst (poolL _ x1 x2 0 bs)) from upd_same), pool_ix 1 (by decide), ?_⟩⟩
        refine ⟨_, rfl, p, _, 2, _, rfl, rfl, SqL.of (show _ = some (.lst (poolL _ _ x2 0 bs)) from upd_same), pool_at2, _, _, rfl, rfl, mulR ⟨by decide, by decide⟩, _, rfl, _, _, rfl, rfl, mulR ⟨by decide, by decide⟩, _, _, rfl, rfl, .inl ⟨_, rfl, _, _, rfl, rfl, (by show (0 : Int) < 1009; decide), _, rfl, p, _, _, 2, rfl, rfl, (show _ = some (.lst (poolL _ _ x2 0 bs)) from upd_same), pool_ix 2 (by decide), ?_⟩⟩
        exact ⟨some (.int z), _, _, _, bs, rfl, sb.trans (sameBut_upd.trans (sameBut_upd.trans sameBut_upd)), upd_same, by omega, hz⟩
    · rintro σ H' ⟨v, x0, x1, x2, bs, rfl, sb, hp', hbl, hz⟩
      rw [List.length_map] at hbl
      exact ⟨_, rfl, k p H' hp (.of hp' (by omega) hz) sb⟩
theorem ok_draw (T : Txt K mg A) : FnOk P w K mg base CX0 1 A.f_draw A.d_draw ["_law_pool_here", "_law_many"] (spDraw) := by
  refine T.F_draw.ok sc_draw (fun vs H Q E h => ?_) (fun cdv Ar outer s H vs Q E hr h => ?_)
  · obtain ⟨p, m, rfl, _⟩ := h
    rfl
  · obtain ⟨p, m, rfl, hP, h0, h1, k⟩ := h
    refine ⟨_, (pss_cons (ps_asg (pe_op op_add (pe_ix (ix_listK K) (pv 0) pe_int (fun _ _ => rfl)) pe_int) (pg_sub (pv 0) pe_int set_list))
        (pss_cons (ps_if (pt_cmpR op_gt (pe_callB (call_len_seqK K) (by rfl) T.n_len (by decide +kernel) (pa_cons (pv 0) pa_nil)) pe_int (nomark _)) (pss_cons (ps_set (i := 4) sc_draw.nd rfl (Or.inl rfl) (pe_op op_mod (pe_callTy call_int1 (by rfl) T.n_int (by decide +kernel) (pa_cons (pe_ix (ix_listK K) (pv 0) pe_int (fun _ _ => rfl)) pa_nil)) (pv 1)))
        (pss_cons (ps_asg (pe_op op_fdiv (pe_ix (ix_listK K) (pv 0) pe_int (fun _ _ => rfl)) (pv 1)) (pg_sub (pv 0) pe_int set_list))
        (pss_cons (ps_if (pt_cmpR op_eq (pe_ix (ix_listK K) (pv 0) pe_int (fun _ _ => rfl)) pe_int (nomark _)) (pss_one (ps_expr (pe_bm PySem.F.plainAttrs_list PySem.F.slot_list_pop PySem.F.type_list_pop mt_popAt (pv 0) (pa_cons pe_int pa_nil)))) pss_nil)
        (pss_one (ps_ret (pv 4)))))) pss_nil)
        (pss_cons (ps_set (i := 2) sc_draw.nd rfl (Or.inl rfl) (pe_op op_mod (pe_callTy call_int1 (by rfl) T.n_int (by decide +kernel) (pa_cons (pe_op op_add (pe_ix (ix_listK K) (pv 0) pe_int (fun _ _ => rfl)) (pe_op op_mulX pe_int (pe_ix (ix_listK K) (pv 0) pe_int (fun _ _ => rfl)))) pa_nil)) pe_int))
        (pss_cons (ps_set (i := 3) sc_draw.nd rfl (Or.inl rfl) (pe_op op_mod (pe_callTy call_int1 (by rfl) T.n_int (by decide +kernel) (pa_cons (pe_op op_add (pe_ix (ix_listK K) (pv 0) pe_int (fun _ _ => rfl)) (pe_op op_mulX (pv 2) (pv 2))) pa_nil)) pe_int))
        (pss_one (ps_ret (pe_op op_mod (pe_op op_mod (pe_callTy call_int1 (by rfl) T.n_int (by decide +kernel) (pa_cons (pe_op op_add (pe_op op_add (pe_ix (ix_listK K) (pv 0) pe_int (fun _ _ => rfl)) (pe_op op_mulX pe_int (pe_ix (ix_listK K) (pv 0) pe_int (fun _ _ => rfl)))) (pe_op op_mulX (pv 3) (pv 3))) pa_nil)) pe_int) (pv 1)))))))), ?_⟩
    obtain ⟨x0, x1, x2, n, bs, hp, hl, hz⟩ := hP
    refine ⟨_, rfl, p, _, 3, _, rfl, rfl, SqL.of hp, pool_at3, _, _, rfl, rfl, _, rfl, p, _, _, 3, rfl, rfl, hp, pool_ix 3 (by decide), ?_⟩
    have s1 : SameBut p H (upd H p (.lst (poolL x0 x1 x2 (n + 1) bs))) := sameBut_upd
    have hp1 : (upd H p (.lst (poolL x0 x1 x2 (n + 1) bs))) p = some (.lst (poolL x0 x1 x2 (n + 1) bs)) := upd_same
    refine ⟨_, rfl, p, _, rfl, .inl (SqL.of hp1), _, _, rfl, rfl, _, rfl, ?_⟩
    refine iteD (fun c => ?_) (fun c => ?_)
    · rw [pool_len] at c
      cases bs with
      | nil => exact absurd c (by decide)
      | cons b bs =>
        have hb1 := hz b List.mem_cons_self
        have hm0 : 0 ≤ b % m := Int.emod_nonneg b (by omega)
        have hm1 : b % m < m := Int.emod_lt_of_pos b (by omega)
        have hq : 0 ≤ b / m := Int.ediv_nonneg (by omega) (by omega)
        have hz' : ∀ z ∈ bs, 1 ≤ z := fun z h => hz z (List.mem_cons_of_mem _ h)
        have hl' : bs.length + 1 ≤ 63 := hl
        refine ⟨_, rfl, p, _, 4, _, rfl, rfl, SqL.of hp1, pool_at4, .inl ⟨_, rfl, _, rfl, _, _, rfl, rfl, (by show (0 : Int) < m; omega), ?_⟩⟩
        refine ⟨_, rfl, p, _, 4, _, rfl, rfl, SqL.of hp1, pool_at4, _, rfl, _, _, rfl, rfl, ⟨by omega, h1⟩, _, rfl, p, _, _, 4, rfl, rfl, hp1, pool_ix4, ?_⟩
        have hp2 : (upd (upd H p (.lst (poolL x0 x1 x2 (n + 1) (b :: bs)))) p (.lst (poolL x0 x1 x2 (n + 1) (b / m :: bs)))) p = some (.lst (poolL x0 x1 x2 (n + 1) (b / m :: bs))) := upd_same
        refine ⟨_, rfl, p, _, 4, _, rfl, rfl, SqL.of hp2, pool_at4, rfl, _, rfl, ?_⟩
        refine iteD (fun c2 => ?_) (fun c2 => ?_)
        · refine ⟨_, rfl, .inl ⟨rfl, _, SqL.of hp2⟩, p, _, 4, 4, _, rfl, rfl, hp2, by decide, by decide, pool_seq4, rfl, ?_⟩
          exact ⟨_, rfl, k _ _ hm0 hm1 (.of (bs := bs) upd_same (by omega) hz') (s1.trans (sameBut_upd.trans sameBut_upd))⟩
        · refine ⟨_, rfl, k _ _ hm0 hm1 (.of hp2 hl fun z h => ?_) (s1.trans sameBut_upd)⟩
          rcases List.mem_cons.mp h with e | h
          · rw [e]
            have : b / m ≠ 0 := fun e => c2 (by rw [e])
            omega
          · exact hz' z h
    · refine ⟨_, rfl, p, _, 0, _, rfl, rfl, SqL.of hp1, pool_at0, _, rfl, p, _, 3, _, rfl, rfl, SqL.of hp1, pool_at3, _, _, rfl, rfl, mulL ⟨by decide, by decide⟩, _, _, rfl, rfl, .inl ⟨_, rfl, _, _, rfl, rfl, (by show (0 : Int) < 101; decide), ?_⟩⟩
      have f0 : 0 ≤ (x0 + 7 * (n + 1)) % 101 := Int.emod_nonneg _ (by decide)
      have f1 : (x0 + 7 * (n + 1)) % 101 < 101 := Int.emod_lt_of_pos _ (by decide)
      generalize (x0 + 7 * (n + 1)) % 101 = fi at f0 f1
      refine ⟨_, rfl, p, _, 1, _, rfl, rfl, SqL.of hp1, pool_at1, _, rfl, _, rfl, _, _, rfl, rfl, mulL ⟨by omega, by omega⟩, _, _, rfl, rfl, .inl ⟨_, rfl, _, _, rfl, rfl, (by show (0 : Int) < 103; decide), ?_⟩⟩
      have g0 : 0 ≤ (x1 + fi * fi) % 103 := Int.emod_nonneg _ (by decide)
      have g1 : (x1 + fi * fi) % 103 < 103 := Int.emod_lt_of_pos _ (by decide)
      generalize (x1 + fi * fi) % 103 = se at g0 g1
      refine ⟨_, rfl, p, _, 2, _, rfl, rfl, SqL.of hp1, pool_at2, _, rfl, p, _, 3, _, rfl, rfl, SqL.of hp1, pool_at3, _, _, rfl, rfl, mulL ⟨by decide, by decide⟩, _, _, rfl, rfl, _, rfl, _, rfl, _, _, rfl, rfl, mulL ⟨by omega, by omega⟩, _, _, rfl, rfl, .inl ⟨_, rfl, _, _, rfl, rfl, (by show (0 : Int) < 1009; decide), _, rfl, _, _, rfl, rfl, (by show (0 : Int) < m; omega), ?_⟩⟩
      exact k _ _ (Int.emod_nonneg _ (by omega)) (Int.emod_lt_of_pos _ (by omega)) (.of hp1 hl hz) s1
theorem ok_number (T : Txt K mg A) : FnOk P w K mg base CX0 2 A.f_number A.d_number ["_law_pool_here", "_law_groups"] (spNumber) := by
  refine T.F_number.ok sc_number (fun vs H Q E h => ?_) (fun cdv Ar outer s H vs Q E hr h => ?_)
  · obtain ⟨p, g, rfl, _⟩ := h
    rfl
  · obtain ⟨p, g, rfl, hP, g1, g2, k⟩ := h
    refine ⟨_, (pss_cons (ps_set (i := 2) sc_number.nd rfl (Or.inl rfl) (pe_call (ok_draw T) (hr.mono (by decide)) rfl T.g_draw T.F_draw.kp T.b_draw .nil pass0 (pa_cons (pv 0) (pa_cons pe_int pa_nil))))
        (pss_cons (ps_if (pt_cmpR op_eq (pv 2) pe_int (nomark _)) (pss_one (ps_ret (pe_call (ok_draw T) (hr.mono (by decide)) rfl T.g_draw T.F_draw.kp T.b_draw .nil pass0 (pa_cons (pv 0) (pa_cons pe_int pa_nil))))) pss_nil)
        (pss_cons (ps_set (i := 3) sc_number.nd rfl (Or.inl rfl) (pv 1))
        (pss_cons (ps_if (pt_cmpR op_gt (pv 2) pe_int (nomark _)) (pss_one (ps_set (i := 3) sc_number.nd rfl (Or.inl rfl) (pe_op op_add pe_int (pe_call (ok_draw T) (hr.mono (by decide)) rfl T.g_draw T.F_draw.kp T.b_draw .nil pass0 (pa_cons (pv 0) (pa_cons (pv 1) pa_nil)))))) pss_nil)
        (pss_cons (ps_set (i := 4) sc_number.nd rfl (Or.inl rfl) pe_int)
        (pss_cons (ps_for PassesOwn.never rfl (pi_range1 rfl T.n_range (pa_cons (pv 3) pa_nil)) (pg_name (i := 5) sc_number.nd rfl (Or.inl rfl))
        (pss_cons (ps_set (i := 6) sc_number.nd rfl (Or.inl rfl) pe_int)
        (pss_cons (ps_if (pt_cmpR op_gt (pv 2) pe_int (nomark _)) (pss_one (ps_set (i := 6) sc_number.nd rfl (Or.inl rfl) (pe_call (ok_draw T) (hr.mono (by decide)) rfl T.g_draw T.F_draw.kp T.b_draw .nil pass0 (pa_cons (pv 0) (pa_cons pe_int pa_nil))))) pss_nil)
        (pss_one (ps_set (i := 4) sc_number.nd rfl (Or.inl rfl) (pe_op op_add (pe_op op_mulX (pv 4) pe_int) (pv 6)))))))
        (pss_one (ps_ret (pv 4))))))))), ?_⟩
    refine ⟨_, rfl, p, 4, rfl, hP, by decide, by decide, fun kd H1 k0 k1 P1 s1 => ?_⟩
    refine ⟨_, rfl, rfl, _, rfl, ?_⟩
    refine iteD (fun c => ?_) (fun c => ?_)
    · refine ⟨_, rfl, p, 10, rfl, P1, by decide, by decide, fun r H2 r0 r1 P2 s2 => k r H2 r0 ?_ P2 (s1.trans s2)⟩
      have := pow_le g1
      rw [Int.pow_succ, Int.pow_zero] at this
      omega
    · refine ⟨_, rfl, ?_⟩
      refine ⟨_, rfl, _, _, rfl, rfl, _, rfl, ?_⟩
      refine iteD (fun c2 => ?_) (fun c2 => ?_)
      · refine ⟨_, rfl, _, rfl, p, g, rfl, P1, by omega, by omega, fun r H2 r0 r1 P2 s2 => ⟨_, _, rfl, rfl, ?_⟩⟩
        refine ⟨_, rfl, 1 + r, rfl, by omega, by omega, for_range (lo := 0) (n := (1 + r).toNat) (fun i σ H' => ∃ (n : Int) (v5 v6 : Option V), σ = [some (.ref p), some (.int g), some (.int kd), some (.int (1 + r)), some (.int n), v5, v6] ∧ 0 ≤ n ∧ n < 1000 ^ i ∧ PoolAt H' p ∧ SameBut p H H') ⟨0, none, none, rfl, by decide, by decide, P2, s1.trans s2⟩ ?_ ?_⟩
        · rintro i σ H' hi ⟨n, v5, v6, rfl, n0, n1, P', s'⟩
          refine ⟨_, rfl, _, _, rfl, rfl, _, rfl, ?_⟩
          refine iteD (fun _ => ?_) (fun z => absurd c2 z)
          refine ⟨_, rfl, p, 1000, rfl, P', by decide, by decide, fun q H3 q0 q1 P3 s3 => ?_⟩
          refine ⟨_, rfl, _, _, rfl, rfl, mulR ⟨by decide, by decide⟩, _, rfl, _, _, rfl, rfl, ?_⟩
          refine ⟨_, _, _, rfl, by omega, ?_, P3, s'.trans s3⟩
          rw [Int.pow_succ]; omega
        · rintro σ H' ⟨n, v5, v6, rfl, n0, n1, P', s'⟩
          refine ⟨_, rfl, k n H' n0 ?_ P' s'⟩
          have := pow_le (m := (1 + r).toNat) (n := g) (by omega)
          omega
      · refine ⟨_, rfl, g, rfl, by omega, by omega, for_range (lo := 0) (n := (g : Int).toNat) (fun i σ H' => ∃ (n : Int) (v5 v6 : Option V), σ = [some (.ref p), some (.int g), some (.int kd), some (.int g), some (.int n), v5, v6] ∧ 0 ≤ n ∧ n < 1000 ^ i ∧ H' = H1) ⟨0, none, none, rfl, by decide, by decide, rfl⟩ ?_ ?_⟩
        · rintro i σ H' hi ⟨n, v5, v6, rfl, n0, n1, rfl⟩
          refine ⟨_, rfl, _, _, rfl, rfl, _, rfl, ?_⟩
          refine iteD (fun z => absurd z c2) (fun _ => ?_)
          refine ⟨_, rfl, _, _, rfl, rfl, mulR ⟨by decide, by decide⟩, _, rfl, _, _, rfl, rfl, ?_⟩
          refine ⟨_, _, _, rfl, by omega, ?_, rfl⟩
          rw [Int.pow_succ]; omega
        · rintro σ H' ⟨n, v5, v6, rfl, n0, n1, rfl⟩
          exact ⟨_, rfl, k n _ n0 (by simpa using n1) P1 s1⟩
theorem ok_signed (T : Txt K mg A) : FnOk P w K mg base CX0 3 A.f_signed A.d_signed ["_law_pool_here", "_law_groups"] (spSigned) := by
  refine T.F_signed.ok sc_signed (fun vs H Q E h => ?_) (fun cdv Ar outer s H vs Q E hr h => ?_)
  · obtain ⟨p, g, rfl, _⟩ := h
    rfl
  · obtain ⟨p, g, rfl, hP, g1, g2, k⟩ := h
    refine ⟨_, (pss_cons (ps_set (i := 2) sc_signed.nd rfl (Or.inl rfl) (pe_call (ok_number T) (hr.mono (by decide)) rfl T.g_number T.F_number.kp T.b_number .nil pass0 (pa_cons (pv 0) (pa_cons (pv 1) pa_nil))))
        (pss_one (ps_ret (pe_op op_mulX (pv 2) (pe_op op_sub pe_int (pe_op op_mulX pe_int (pe_call (ok_draw T) (hr.mono (by decide)) rfl T.g_draw T.F_draw.kp T.b_draw .nil pass0 (pa_cons (pv 0) (pa_cons pe_int pa_nil))))))))), ?_⟩
    refine ⟨_, rfl, _, rfl, p, g, rfl, hP, g1, g2, fun r H1 r0 r1 P1 s1 => ?_⟩
    refine ⟨_, rfl, _, rfl, p, 2, rfl, P1, by decide, by decide, fun q H2 q0 q1 P2 s2 => ⟨_, _, rfl, rfl, mulL ⟨by decide, by decide⟩, _, _, rfl, rfl, _, _, rfl, rfl, mulR ⟨by omega, by omega⟩, ?_⟩⟩
    have hb := bits_of r0 r1
    refine k _ H2 ?_ P2 (s1.trans s2)
    rcases (show q = 0 ∨ q = 1 by omega) with rfl | rfl
    · exact hb.le (by simp)
    · exact hb.le (by simp)
theorem ok_pair (T : Txt K mg A) : FnOk P w K mg base CX0 4 A.f_pair A.d_pair ["_law_pool_here"] (spPair) := by
  refine T.F_pair.ok sc_pair (fun vs H Q E h => ?_) (fun cdv Ar outer s H vs Q E hr h => ?_)
  · obtain ⟨p, rfl, _⟩ := h
    rfl
  · obtain ⟨p, rfl, hP, k⟩ := h
    refine ⟨_, (pss_cons (ps_if (pt_cmpR op_eq (pe_call (ok_draw T) (hr.mono (by decide)) rfl T.g_draw T.F_draw.kp T.b_draw .nil pass0 (pa_cons (pv 0) (pa_cons pe_int pa_nil))) pe_int (nomark _)) (pss_one (ps_ret (pe_tup (pa_cons (pe_call (ok_signed T) (hr.mono (by decide)) rfl T.g_signed T.F_signed.kp T.b_signed .nil pass0 (pa_cons (pv 0) (pa_cons pe_int pa_nil))) (pa_cons (pe_call (ok_signed T) (hr.mono (by decide)) rfl T.g_signed T.F_signed.kp T.b_signed .nil pass0 (pa_cons (pv 0) (pa_cons pe_int pa_nil))) pa_nil))))) pss_nil)
        (pss_cons (ps_set (i := 1) sc_pair.nd rfl (Or.inl rfl) (pe_call (ok_signed T) (hr.mono (by decide)) rfl T.g_signed T.F_signed.kp T.b_signed .nil pass0 (pa_cons (pv 0) (pa_cons pe_int pa_nil))))
        (pss_one (ps_ret (pe_tup (pa_cons (pe_op op_mulX (pe_call (ok_signed T) (hr.mono (by decide)) rfl T.g_signed T.F_signed.kp T.b_signed .nil pass0 (pa_cons (pv 0) (pa_cons pe_int pa_nil))) (pv 1)) (pa_cons (pe_op op_mulX (pe_call (ok_signed T) (hr.mono (by decide)) rfl T.g_signed T.F_signed.kp T.b_signed .nil pass0 (pa_cons (pv 0) (pa_cons pe_int pa_nil))) (pv 1)) pa_nil))))))), ?_⟩
    refine ⟨_, rfl, p, 2, rfl, hP, by decide, by decide, fun f H1 f0 f1 P1 s1 => ⟨rfl, _, rfl, ?_⟩⟩
    refine iteD (fun c => ?_) (fun c => ?_)
    · refine ⟨_, rfl, p, 10, rfl, P1, by decide, by decide, fun a H2 ha P2 s2 => ⟨_, rfl, p, 10, rfl, P2, by decide, by decide, fun b H3 hb P3 s3 => ⟨(by show 2 ≤ sizeLine; decide), fun t ht => ?_⟩⟩⟩
      exact k t a b _ ha hb (P3.ne ht).symm (P3.mono (same_new ht)) (s1.trans (s2.trans (s3.trans (same_new ht).but))) upd_same
    · refine ⟨_, rfl, p, 5, rfl, P1, by decide, by decide, fun c H2 hc P2 s2 => ?_⟩
      refine ⟨_, rfl, p, 5, rfl, P2, by decide, by decide, fun a H3 ha P3 s3 => ⟨_, rfl, _, _, rfl, rfl, ha.ok hc (by decide) (by decide) (by decide), _, rfl, p, 5, rfl, P3, by decide, by decide, fun b H4 hb P4 s4 => ⟨_, rfl, _, _, rfl, rfl, hb.ok hc (by decide) (by decide) (by decide), (by show 2 ≤ sizeLine; decide), fun t ht => ?_⟩⟩⟩
      exact k t _ _ _ (ha.mul hc) (hb.mul hc) (P4.ne ht).symm (P4.mono (same_new ht)) (s1.trans (s2.trans (s3.trans (s4.trans (same_new ht).but)))) upd_same
theorem ok_whole (T : Txt K mg A) : FnOk P w K mg base CX0 1 A.f_whole A.d_whole ["_law_value"] (spWhole) := by
  refine T.F_whole.ok sc_whole (fun vs H Q E h => ?_) (fun cdv Ar outer s H vs Q E hr h => ?_)
  · obtain ⟨i, rfl, _⟩ := h
    rfl
  · obtain ⟨i, rfl, k⟩ := h
    refine ⟨_, (pss_one (ps_ret (pe_and (pe_callB (call_isiK' K) (by rfl) T.n_isinstance (by decide +kernel) (pa_cons (pv 0) (pa_cons (pe_bltn (v := .ty "int") (by rfl) T.n_int (by decide +kernel) rfl) pa_nil))) (pe_one (pe_not (pe_callB (call_isiK' K) (by rfl) T.n_isinstance (by decide +kernel) (pa_cons (pv 0) (pa_cons (pe_bltn (v := .ty "bool") (by rfl) T.n_bool (by decide +kernel) rfl) pa_nil)))))))), ?_⟩
    exact ⟨_, rfl, _, _, _, _, true, rfl, .ty _, .base (.int _), kit_ty (by decide +kernel), true, rfl, iteT ⟨_, rfl, _, _, _, _, false, rfl, .ty _, .base (.int _), kit_ty (by decide +kernel), false, rfl, k⟩⟩
theorem ok_coprime (T : Txt K mg A) : FnOk P w K mg base CX0 1 A.f_coprime A.d_coprime ["_law_one", "_law_other"] (spCop) := by
  refine T.F_coprime.ok sc_coprime (fun vs H Q E h => ?_) (fun cdv Ar outer s H vs Q E hr h => ?_)
  · obtain ⟨a, b, rfl, _⟩ := h
    rfl
  · obtain ⟨a, b, rfl, hg, hb, k⟩ := h
    refine ⟨_, (pss_cons (ps_for PassesOwn.never rfl (pi_range1 rfl T.n_range (pa_cons pe_int pa_nil)) (pg_name (i := 2) sc_coprime.nd rfl (Or.inl rfl))
        (pss_cons (ps_if (pt_cmpR op_eq (pv 1) pe_int (nomark _)) (pss_one (ps_ret (pe_cmpR op_eq (pv 0) pe_int (nomark _)))) pss_nil)
        (pss_cons (ps_set (i := 3) sc_coprime.nd rfl (Or.inl rfl) (pe_op op_mod (pe_callTy call_int1 (by rfl) T.n_int (by decide +kernel) (pa_cons (pv 0) pa_nil)) (pv 1)))
        (pss_cons (ps_set (i := 0) sc_coprime.nd rfl (Or.inl rfl) (pv 1))
        (pss_one (ps_set (i := 1) sc_coprime.nd rfl (Or.inl rfl) (pv 3)))))))
        (pss_one (ps_ret pe_bl))), ?_⟩
    refine ⟨500, rfl, by decide, by decide, for_range (lo := 0) (n := 500) (fun i σ H' => ∃ (a b : Nat) (v2 v3 : Option V), σ = [some (.int a), some (.int b), v2, v3] ∧ H' = H ∧ Nat.gcd a b = 1 ∧ Euc a b i ∧ i ≤ 402) ⟨a, b, none, none, rfl, rfl, hg, .inl ⟨rfl, hb⟩, by omega⟩ ?_ ?_⟩
    · rintro i σ H' hi ⟨a, b, v2, v3, rfl, rfl, hg, he, hi2⟩
      refine ⟨_, rfl, rfl, _, rfl, ?_⟩
      refine iteD (fun c => ?_) (fun c => ?_)
      · injection c with c
        have hb0 : b = 0 := by omega
        subst hb0
        rw [Nat.gcd_zero_right] at hg
        subst hg
        exact ⟨_, rfl, rfl, k⟩
      · have hb0 : b ≠ 0 := fun e => c (by rw [e]; rfl)
        obtain ⟨he', hi3⟩ := he.turn hb0
        refine ⟨_, rfl, .inl ⟨_, rfl, _, rfl, _, _, rfl, rfl, (by show (0 : Int) < b; omega), ?_⟩⟩
        refine ⟨_, rfl, _, rfl, b, a % b, _, _, rfl, rfl, ?_, he', by omega⟩
        rw [Nat.gcd_comm, ← Nat.gcd_rec, Nat.gcd_comm]
        exact hg
    · rintro σ H' ⟨a, b, v2, v3, rfl, rfl, hg, he, hi2⟩
      exact absurd hi2 (by decide)
theorem ok_is (T : Txt K mg A) : FnOk P w K mg base CX0 2 A.f_is A.d_is ["_law_share", "_law_top", "_law_bottom"] (spIs A) := by
  refine T.F_is.ok sc_is (fun vs H Q E h => ?_) (fun cdv Ar outer s H vs Q E hr h => ?_)
  · obtain ⟨x, t, b, tt, bb, n, m, rfl, _⟩ := h
    rfl
  · obtain ⟨x, t, b, tt, bb, n, m, rfl, hX, h1, hc, hcop, hb, hbt, hn, hn1, hbT, hbB, hm, hm1, k⟩ := h
    refine ⟨_, (pss_cons (ps_if (PW.pt (pw_or (pt_not (pt_val (pe_callB (call_isiK' K) (by rfl) T.n_isinstance (by decide +kernel) (pa_cons (pv 0) (pa_cons (pe_glob (v := .ref A.c_Share) rfl T.g_Share rfl) pa_nil))) (by intro _; rfl))) (pw_or (pt_not (pt_val (pe_call (ok_whole T) (hr.mono (by decide)) rfl T.g_whole T.F_whole.kp T.b_whole .nil pass0 (pa_cons (pe_fldK K (pv 0) rfl) pa_nil)) (by intro _; rfl))) (pw_or1 (pt_not (pt_val (pe_call (ok_whole T) (hr.mono (by decide)) rfl T.g_whole T.F_whole.kp T.b_whole .nil pass0 (pa_cons (pe_fldK K (pv 0) rfl) pa_nil)) (by intro _; rfl))))))) (pss_one (ps_ret pe_bl)) pss_nil)
        (pss_cons (ps_if (PW.pt (pw_or (pt_cmpR op_lt (pe_fldK K (pv 0) rfl) pe_int (nomark _)) (pw_or1 (pt_cmpR op_ne (pe_op op_mulX (pe_fldK K (pv 0) rfl) (pv 2)) (pe_op op_mulX (pv 1) (pe_fldK K (pv 0) rfl)) (nomark _))))) (pss_one (ps_ret pe_bl)) pss_nil)
        (pss_one (ps_ret (pe_call (ok_coprime T) (hr.mono (by decide)) rfl T.g_coprime T.F_coprime.kp T.b_coprime .nil pass0 (pa_cons (pe_callB call_abs (by rfl) T.n_abs (by decide +kernel) (pa_cons (pe_fldK K (pv 0) rfl) pa_nil)) (pa_cons (pe_fldK K (pv 0) rfl) pa_nil))))))), ?_⟩
    obtain ⟨dx, ho⟩ := id hX
    refine ⟨_, rfl, _, _, _, _, true, rfl, .own _, .base (.ins ho T.cl_Share T.k1_Share T.kg T.kt T.k4_Share), kit_same, true, rfl, iteF ⟨_, rfl, x, A.c_Share, dx, _, _, rfl, ho, T.cl_Share, T.no_Share_top, sflds_top _ _, t, rfl, true, rfl, iteF ⟨_, rfl, x, A.c_Share, dx, _, _, rfl, ho, T.cl_Share, T.no_Share_bottom, sflds_bottom _ _, b, rfl, true, rfl, iteF ?_⟩⟩⟩
    refine ⟨_, rfl, x, A.c_Share, dx, _, _, rfl, ho, T.cl_Share, T.no_Share_bottom, sflds_bottom _ _, _, _, rfl, rfl, _, rfl, ?_⟩
    refine iteD (fun z => absurd h1 (by omega)) (fun _ => ?_)
    refine ⟨_, rfl, x, A.c_Share, dx, _, _, rfl, ho, T.cl_Share, T.no_Share_top, sflds_top _ _, _, rfl, _, _, rfl, rfl, hbt.ok hbB hn hm (by omega), _, rfl, _, rfl, x, A.c_Share, dx, _, _, rfl, ho, T.cl_Share, T.no_Share_bottom, sflds_bottom _ _, _, _, rfl, rfl, hbT.ok hb hm (by decide) (by omega), rfl, _, rfl, ?_⟩
    refine iteNS (congrArg V.int hc) ?_
    refine ⟨_, rfl, x, A.c_Share, dx, _, _, rfl, ho, T.cl_Share, T.no_Share_top, sflds_top _ _, _, rfl, _, rfl, x, A.c_Share, dx, _, _, rfl, ho, T.cl_Share, T.no_Share_bottom, sflds_bottom _ _, t.natAbs, b.natAbs, ?_, hcop, hb, k⟩
    have e1 : (if t < 0 then -t else t) = (t.natAbs : Int) := by split <;> omega
    have e2 : b = (b.natAbs : Int) := by omega
    first | (rw [e1, ← e2]; done) | (rw [e1, ← e2]; rfl)
theorem ok_refused (T : Txt K mg A) : FnOk P w K mg base CX0 5 A.f_refused A.d_refused ["_law_top"] (spRef) := by
  refine T.F_refused.ok sc_refused (fun vs H Q E h => ?_) (fun cdv Ar outer s H vs Q E hr h => ?_)
  · obtain ⟨t, rfl, _⟩ := h
    rfl
  · obtain ⟨t, rfl, k⟩ := h
    refine ⟨_, (pss_cons (ps_try_as (i := 1) rfl rfl sc_refused.nd rfl rfl ⟨rfl, by decide, Or.inl T.g_GangError⟩ takes0 (fun W pn xe tk _ => (pss_one (ps_expr (pe_makeS T.mk_Share (ok_Share_init T) (hr.mono (by decide)) rfl T.g_Share T.b_Share_init (fun σ => passAt tk σ) (pa_cons (pv 0) (pa_cons pe_int pa_nil)))))) (fun a oe cls d pn hz hf => (pss_cons (ps_if (PW.pt (pw_or (pt_not (pt_val (pe_callB (call_isX hz hf) (by rfl) T.n_isinstance (by decide +kernel) (pa_cons (pv 1) (pa_cons (pe_glob (v := .ref A.c_BadShare) rfl T.g_BadShare rfl) pa_nil))) (by intro _; rfl))) (pw_or1 (pt_not (pt_val (pe_callB (call_isX hz hf) (by rfl) T.n_isinstance (by decide +kernel) (pa_cons (pv 1) (pa_cons (pe_bltn (v := .ty "ValueError") (by rfl) T.n_ValueError (by decide +kernel) rfl) pa_nil))) (by intro _; rfl)))))) (pss_one (ps_ret pe_bl)) pss_nil)
        (pss_cons (ps_if (PW.pt (pw_or (pt_val (pe_callB (call_isX hz hf) (by rfl) T.n_isinstance (by decide +kernel) (pa_cons (pv 1) (pa_cons (pe_glob (v := .ref A.c_BadAmounts) rfl T.g_BadAmounts rfl) pa_nil))) (by intro _; rfl)) (pw_or (pt_val (pe_callB (call_isX hz hf) (by rfl) T.n_isinstance (by decide +kernel) (pa_cons (pv 1) (pa_cons (pe_glob (v := .ref A.c_BadSpan) rfl T.g_BadSpan rfl) pa_nil))) (by intro _; rfl)) (pw_or1 (pt_val (pe_callB (call_isX hz hf) (by rfl) T.n_isinstance (by decide +kernel) (pa_cons (pv 1) (pa_cons (pe_glob (v := .ref A.c_Unknown) rfl T.g_Unknown rfl) pa_nil))) (by intro _; rfl)))))) (pss_one (ps_ret pe_bl)) pss_nil)
        (pss_one (ps_ret (pe_cmpR (op_eqDK K hr.units) (pe_xf T.xf_BadShare T.x_BadShare.noS hz hf (pv 1)) (pe_tup (pa_cons (pv 0) (pa_cons pe_int pa_nil))) (nomark _))))))))
        (pss_one (ps_ret pe_bl))), ?_⟩
    refine ⟨_, rfl, fun x dx hx hd hne => ⟨x, dx, t, 0, rfl, upd_same, fun z => absurd rfl z, fun _ _ z => absurd rfl z, fun _ t2 d H' sm e1 e2 => ?_⟩⟩
    have sm' : Same H H' := ((same_new hd).trans (same_new (by rw [upd_ne hne.symm]; exact hx))).trans sm
    refine ⟨true, T.xm_BadShare, fun _ ex hex => ?_, fun q => nomatch q⟩
    refine ⟨_, rfl, _, _, true, _, d, _, rfl, (fun u r => r), rfl, T.xc_BadShare, rfl, e2, T.kt_BadShare_BadShare, true, rfl, iteF ⟨_, rfl, _, _, true, _, d, _, rfl, (fun u r => r), rfl, T.xc_BadShare, rfl, e2, T.kt_BadShare_ValueError, true, rfl, iteF ?_⟩⟩
    refine ⟨_, rfl, _, _, false, _, d, _, rfl, (fun u r => r), rfl, T.xc_BadShare, rfl, e2, T.kt_BadShare_BadAmounts, false, rfl, iteF ⟨_, rfl, _, _, false, _, d, _, rfl, (fun u r => r), rfl, T.xc_BadShare, rfl, e2, T.kt_BadShare_BadSpan, false, rfl, iteF ⟨_, rfl, _, _, false, _, d, _, rfl, (fun u r => r), rfl, T.xc_BadShare, rfl, e2, T.kt_BadShare_Unknown, false, rfl, iteF ?_⟩⟩⟩
    refine ⟨_, rfl, rfl, rfl, d, _, .ref t2, rfl, e2, by simp [List.lookup], _, rfl, (by show 2 ≤ sizeLine; decide), fun q hq => ⟨_, _, dp2 (SqT.of (same_new hq _ _ e1)), dp2 (SqT.of upd_same), rfl, rfl, ?_⟩⟩
    rw [eqv2]
    exact k _ (sm'.trans (same_new hq))
theorem ok_alone (T : Txt K mg A) : FnOk P w K mg base CX0 7 A.f_alone A.d_alone ["_law_share", "_law_top", "_law_bottom"] (spAlone A) := by
  refine T.F_alone.ok sc_alone (fun vs H Q E h => ?_) (fun cdv Ar outer s H vs Q E hr h => ?_)
  · obtain ⟨x, t, b, tt, bb, rfl, _⟩ := h
    rfl
  · obtain ⟨x, t, b, tt, bb, rfl, hX, hR, hB0, hT, hB, k⟩ := h
    refine ⟨_, (pss_cons (ps_set (i := 3) sc_alone.nd rfl (Or.inl rfl) (pe_op op_mulX (pv 1) (pv 2)))
        (pss_cons (ps_set (i := 4) sc_alone.nd rfl (Or.inl rfl) (pe_op op_sub (pe_callTy call_int1 (by rfl) T.n_int (by decide +kernel) (pa_cons (pe_cmpR op_gt (pv 3) pe_int (nomark _)) pa_nil)) (pe_callTy call_int1 (by rfl) T.n_int (by decide +kernel) (pa_cons (pe_cmpR op_lt (pv 3) pe_int (nomark _)) pa_nil))))
        (pss_cons (ps_if (PW.pt (pw_or (pt_not (pt_val (pe_call (ok_is T) (hr.mono (by decide)) rfl T.g_is T.F_is.kp T.b_is .nil pass0 (pa_cons (pv 0) (pa_cons (pv 1) (pa_cons (pv 2) pa_nil)))) (by intro _; rfl))) (pw_or (pt_not (pt_val (pe_call (ok_whole T) (hr.mono (by decide)) rfl T.g_whole T.F_whole.kp T.b_whole .nil pass0 (pa_cons (pe_prop (pv 0) T.cl_Share T.pr_Share_sign.choose_spec (ok_Share_sign T) (hr.mono (by decide)) T.b_Share_sign .nil pass0 rfl) pa_nil)) (by intro _; rfl))) (pw_or1 (pt_cmpR op_ne (pe_prop (pv 0) T.cl_Share T.pr_Share_sign.choose_spec (ok_Share_sign T) (hr.mono (by decide)) T.b_Share_sign .nil pass0 rfl) (pv 4) (nomark _)))))) (pss_one (ps_ret pe_bl)) pss_nil)
        (pss_cons (ps_if (PW.pt (pw_or (pt_cmpR op_ne (pe_callTy (call_boolOwn T.me_Share_bool (ok_Share_bool T) (hr.mono (by decide)) T.b_Share_bool pass0) (by rfl) T.n_bool (by decide +kernel) (pa_cons (pv 0) pa_nil)) (pe_cmpR op_ne (pv 4) pe_int (nomark _)) (nomark _)) (pw_or (pt_cmpR (op_eqOwn T.me_Share_eq (ok_Share_eq T) (hr.mono (by decide)) T.b_Share_eq pass0) (pv 0) (pv 1) (nomark _)) (pw_or (pt_cmpR (op_ieq T.me_Share_eq T.si_Share (ok_Share_eq T) (hr.mono (by decide)) T.b_Share_eq pass0) (pv 1) (pv 0) (nomark _)) (pw_or1 (pt_cmpR (op_eqOwn T.me_Share_eq (ok_Share_eq T) (hr.mono (by decide)) T.b_Share_eq pass0) (pv 0) (pe_tup (pa_cons (pv 1) (pa_cons (pv 2) pa_nil))) (nomark _))))))) (pss_one (ps_ret pe_bl)) pss_nil)
        (pss_cons (ps_if (pt_not (pt_val (pe_call (ok_is T) (hr.mono (by decide)) rfl T.g_is T.F_is.kp T.b_is .nil pass0 (pa_cons (pe_make T.mk_Share (ok_Share_init T) (hr.mono (by decide)) rfl T.g_Share (T.e_Share_init.choose_spec).2 (T.e_Share_init.choose_spec).1 passL (pa_cons (pv 1) pa_nil)) (pa_cons (pv 1) (pa_cons pe_int pa_nil)))) (by intro _; rfl))) (pss_one (ps_ret pe_bl)) pss_nil)
        (pss_one (ps_ret (pe_and (pe_call (ok_is T) (hr.mono (by decide)) rfl T.g_is T.F_is.kp T.b_is .nil pass0 (pa_cons (pe_un (un_own T.me_Share_neg (ok_Share_neg T) (hr.mono (by decide)) T.b_Share_neg pass0) (pv 0)) (pa_cons (pe_un un_neg (pv 1)) (pa_cons (pv 2) pa_nil)))) (pe_one (pe_call (ok_is T) (hr.mono (by decide)) rfl T.g_is T.F_is.kp T.b_is .nil pass0 (pa_cons (pe_callB (call_absOwn T.me_Share_abs (ok_Share_abs T) (hr.mono (by decide)) T.b_Share_abs pass0) (by rfl) T.n_abs (by decide +kernel) (pa_cons (pv 0) pa_nil)) (pa_cons (pe_callB call_abs (by rfl) T.n_abs (by decide +kernel) (pa_cons (pv 1) pa_nil)) (pa_cons (pe_callB call_abs (by rfl) T.n_abs (by decide +kernel) (pa_cons (pv 2) pa_nil)) pa_nil))))))))))))), ?_⟩
    obtain ⟨dx, ho⟩ := id hX
    have bt : Bits 100 t := hT.le hR.st
    have bb' : Bits 100 b := hB.le hR.sb
    have hb0 : b ≠ 0 := by have := hR.pos; omega
    refine ⟨_, rfl, _, rfl, _, _, rfl, rfl, hT.ok hB (by decide) (by decide) (by decide), ?_⟩
    refine ⟨_, rfl, _, _, rfl, rfl, .inr ⟨_, rfl, _, rfl, _, _, rfl, rfl, .inr ⟨_, rfl, _, _, rfl, rfl, ?_⟩⟩⟩
    dsimp only
    rw [sg_eq hR.pos hB0 hR.cross]
    refine ⟨_, rfl, _, rfl, _, rfl, x, t, b, tt, bb, 100, 100, rfl, hX, hR.pos, hR.cross, hR.cop, Bits.up bb' (by decide), bt, by decide, by decide, hT, hB, by decide, by decide, true, rfl, iteF ?_⟩
    refine ⟨_, rfl, x, dx, _, rfl, ho, ⟨x, t, b, rfl, hX, sg t, rfl, true, rfl, iteF ⟨_, rfl, x, dx, _, rfl, ho, x, t, b, rfl, hX, _, rfl, rfl, _, rfl, iteNS rfl ?_⟩⟩⟩
    refine ⟨_, rfl, _, rfl, x, dx, _, rfl, ho, ⟨x, t, b, rfl, hX, _, rfl, _, rfl, rfl, rfl, _, rfl, ?_⟩⟩
    refine iteNS (sg_zero t) ?_
    refine ⟨_, rfl, _, rfl, x, dx, _, .type "int", rfl, ho, .base (.int _), notFirst_ty T.st_int_Share, ⟨x, _, t, b, rfl, hX, .inr ⟨_, .base (.int _), T.kt_int_Share, _, rfl, iteF ?_⟩⟩⟩
    refine ⟨_, rfl, _, rfl, x, dx, _, tt, rfl, ho, rfl, ⟨x, _, t, b, rfl, hX, .inr ⟨_, .base (.int _), T.kt_int_Share, _, rfl, iteF ?_⟩⟩⟩
    refine ⟨_, rfl, _, rfl, _, rfl, (by show 2 ≤ sizeLine; decide), fun q hq => ⟨x, dx, _, .type "tuple", rfl, same_new hq _ _ ho, .base (.tup upd_same), notFirst_ty T.st_tuple_Share, ⟨x, _, t, b, rfl, hX.mono (same_new hq), .inr ⟨_, .base (.tup upd_same), T.kt_tuple_Share, _, rfl, iteF ?_⟩⟩⟩⟩
    have s1 := same_new (o := .tup [.int tt, .int bb]) hq
    generalize upd H q (.tup [.int tt, .int bb]) = H1 at s1 ⊢
    refine ⟨_, rfl, ?_⟩
    intro x2 d2 hxn hdn hne
    refine ⟨x2, d2, tt, 1, rfl, upd_same, fun _ => ⟨100, by decide, by decide, Bits.one (by decide)⟩, fun t2 b2 _ r2 => ⟨rfl, ?_⟩, fun c => absurd c (by decide)⟩
    have s2 := share_same (A := A) (t := t2) (b := b2) hxn hdn hne
    have hx2 : ShareAt A (upd (upd (upd H1 d2 (.own x2)) x2 (.ins A.c_Share d2 [])) x2 (.ins A.c_Share d2 (sflds t2 b2))) x2 t2 b2 := ⟨d2, upd_same⟩
    generalize upd (upd (upd H1 d2 (.own x2)) x2 (.ins A.c_Share d2 [])) x2 (.ins A.c_Share d2 (sflds t2 b2)) = H2 at s2 hx2 ⊢
    
    refine ⟨_, rfl, x2, t2, b2, tt, 1, 100, 100, rfl, hx2, r2.pos, r2.cross, r2.cop, Bits.up (Bits.le (Bits.one (by decide) : Bits 100 1) r2.sb) (by decide), (hT.le r2.st), by decide, by decide, hT, (Bits.one (by decide)), by decide, by decide, true, rfl, iteF ?_⟩
    have s12 := s1.trans s2
    obtain ⟨dx2, ho2⟩ := hX.mono s12
    refine ⟨_, rfl, x, dx2, _, rfl, ho2, ⟨x, t, b, 100, rfl, hX.mono s12, hR.pos, by decide, by decide, bb', fun x3 H3 t3 b3 s3 hx3 r3 => ?_⟩⟩
    refine ⟨_, rfl, _, rfl, _, rfl, x3, t3, b3, (-tt), bb, 100, 100, rfl, hx3, r3.pos, (rep_trans (b := b) (T := -tt) r3.cross (by rw [Int.neg_mul, Int.neg_mul, hR.cross]) hb0), r3.cop, Bits.up (bb'.le r3.sb) (by decide), (bt.neg.le r3.st), by decide, by decide, hT.neg, hB, by decide, by decide, true, rfl, iteT ?_⟩
    have s13 := s12.trans s3
    obtain ⟨dx3, ho3⟩ := hX.mono s13
    refine ⟨_, rfl, x, dx3, _, rfl, ho3, ⟨x, t, b, 100, rfl, hX.mono s13, hR.pos, by decide, by decide, bb', fun x4 H4 t4 b4 s4 hx4 r4 => ?_⟩⟩
    exact ⟨_, rfl, _, rfl, _, rfl, _, rfl, x4, t4, b4, _, _, 100, 100, rfl, hx4, r4.pos, (rep_trans (b := b) r4.cross (ab_cross hR.pos hR.cross) hb0), r4.cop, Bits.up (bb'.le r4.sb) (by decide), (bt.abs.le r4.st), by decide, by decide, hT.abs, hB.abs, by decide, by decide, k H4 (s13.trans s4)⟩
theorem ok_equal (T : Txt K mg A) : FnOk P w K mg base CX0 4 A.f_equal A.d_equal ["_law_one", "_law_other", "_law_due"] (spEqual A) := by
  refine T.F_equal.ok sc_equal (fun vs H Q E h => ?_) (fun cdv Ar outer s H vs Q E hr h => ?_)
  · obtain ⟨x, y, t, b, t1, b1, d, rfl, _⟩ := h
    rfl
  · obtain ⟨x, y, t, b, t1, b1, d, rfl, hX, hY, hd, k⟩ := h
    refine ⟨_, (pss_one (ps_ret (pe_and (pe_cmpR op_eq (pe_callTy call_bool1 (by rfl) T.n_bool (by decide +kernel) (pa_cons (pe_cmpR (op_eqOwn T.me_Share_eq (ok_Share_eq T) (hr.mono (by decide)) T.b_Share_eq pass0) (pv 0) (pv 1) (nomark _)) pa_nil)) (pv 2) (nomark _)) (pe_one (pe_cmpR op_eq (pe_callTy call_bool1 (by rfl) T.n_bool (by decide +kernel) (pa_cons (pe_cmpR (op_eqOwn T.me_Share_eq (ok_Share_eq T) (hr.mono (by decide)) T.b_Share_eq pass0) (pv 1) (pv 0) (nomark _)) pa_nil)) (pv 2) (nomark _)))))), ?_⟩
    obtain ⟨dx, hx⟩ := id hX
    obtain ⟨dy, hy⟩ := id hY
    refine ⟨_, rfl, _, rfl, x, dx, _, _, rfl, hx, .base (.ins hy T.cl_Share T.k1_Share T.kg T.kt T.k4_Share), notFirst_self, ⟨x, _, t, b, rfl, hX, .inl ⟨y, t1, b1, rfl, hY, .inr ⟨_, rfl, _, rfl, rfl, _, rfl, ?_⟩⟩⟩⟩
    refine iteD (fun _ => ?_) (fun z => absurd (congrArg V.bl hd.symm) z)
    refine ⟨_, rfl, _, rfl, y, dy, _, _, rfl, hy, .base (.ins hx T.cl_Share T.k1_Share T.kg T.kt T.k4_Share), notFirst_self, ⟨y, _, t1, b1, rfl, hY, .inl ⟨x, t, b, rfl, hX, .inr ⟨_, rfl, _, rfl, rfl, ?_⟩⟩⟩⟩
    exact qt' (by rw [hd, dec_comm]) k
theorem ok_law (T : Txt K mg A) : FnOk P w K mg base CX0 8 A.f_law A.d_law ["_law_script"] (spLaw K) := by
  refine T.F_law.ok sc_law (fun vs H Q E h => ?_) (fun cdv Ar outer s H vs Q E hr h => ?_)
  · obtain ⟨sc, ns, rfl, _⟩ := h
    rfl
  · obtain ⟨sc, ns, rfl, hS, hl, hb, k⟩ := h
    refine ⟨_, (pss_cons (ps_set (i := 1) sc_law.nd rfl (Or.inr rfl) (pe_call (ok_pool T) (hr.mono (by decide)) rfl T.g_pool T.F_pool.kp T.b_pool .nil pass0 (pa_cons (pv 0) pa_nil)))
        (pss_cons (ps_setLc (i := 2) (own := [("_law_k", 9)]) (g := gName 9) (tt := tYes) rfl sc_law.nd rfl rfl (sw_true rfl rfl rfl (by decide +kernel)) (pi_range1 rfl T.n_range (pa_cons pe_int pa_nil)) (blkOk_by (N := ["_law_script", "_law_pool_here", "_law_pairs", "_law_shares", "_law_at", "_law_turn", "_law_top", "_law_bottom", "_law_by", "_law_k"]) (sc := defScope s_law) (by decide +kernel)) (fun _ _ _ _ _ => (pg_name (i := 9) sc_law.nd rfl (Or.inl rfl))) (fun _ _ _ _ _ => pts_nil) (fun _ _ _ _ _ => (pe_call (ok_pair T) (hr.mono (by decide)) rfl T.g_pair T.F_pair.kp T.b_pair .nil pass0 (pa_cons (pv 1) pa_nil))))
        (pss_cons (ps_set (i := 3) sc_law.nd rfl (Or.inl rfl) (pe_lst pa_nil))
        (pss_cons (ps_for PassesOwn.never rfl (pi_range1 rfl T.n_range (pa_cons pe_int pa_nil)) (pg_name (i := 4) sc_law.nd rfl (Or.inl rfl))
        (pss_cons (ps_set (i := 6) sc_law.nd rfl (Or.inl rfl) (pe_ix (ix_tupK K) (pe_ix (ix_listK K) (pv 2) (pv 4) (fun _ _ => rfl)) pe_int (fun _ _ => rfl)))
        (pss_cons (ps_set (i := 7) sc_law.nd rfl (Or.inl rfl) (pe_ix (ix_tupK K) (pe_ix (ix_listK K) (pv 2) (pv 4) (fun _ _ => rfl)) pe_int (fun _ _ => rfl)))
        (pss_cons (ps_if (pt_not (pt_val (pe_call (ok_refused T) (hr.mono (by decide)) rfl T.g_refused T.F_refused.kp T.b_refused .nil pass0 (pa_cons (pv 6) pa_nil)) (by intro _; rfl))) (pss_one (ps_ret pe_bl)) pss_nil)
        (pss_one (ps_if (pt_cmpR op_eq (pv 7) pe_int (nomark _)) (pss_cons (ps_asg (pe_tup (pa_cons (pv 6) (pa_cons pe_int pa_nil))) (pg_sub (pv 2) (pv 4) set_list))
        (pss_one (ps_expr (pe_bm PySem.F.plainAttrs_list PySem.F.slot_list_append PySem.F.type_list_append mt_append (pv 3) (pa_cons (pe_make T.mk_Share (ok_Share_init T) (hr.mono (by decide)) rfl T.g_Share (T.e_Share_init.choose_spec).2 (T.e_Share_init.choose_spec).1 passL (pa_cons (pv 6) pa_nil)) pa_nil))))) (pss_one (ps_expr (pe_bm PySem.F.plainAttrs_list PySem.F.slot_list_append PySem.F.type_list_append mt_append (pv 3) (pa_cons (pe_make T.mk_Share (ok_Share_init T) (hr.mono (by decide)) rfl T.g_Share T.b_Share_init .nil passL (pa_cons (pv 6) (pa_cons (pv 7) pa_nil))) pa_nil))))))))))
        (pss_cons (ps_for PassesOwn.never rfl (pi_range1 rfl T.n_range (pa_cons pe_int pa_nil)) (pg_name (i := 5) sc_law.nd rfl (Or.inl rfl))
        (pss_one (ps_for PassesOwn.never rfl (pi_range1 rfl T.n_range (pa_cons pe_int pa_nil)) (pg_name (i := 4) sc_law.nd rfl (Or.inl rfl))
        (pss_cons (ps_set (i := 6) sc_law.nd rfl (Or.inl rfl) (pe_ix (ix_tupK K) (pe_ix (ix_listK K) (pv 2) (pv 4) (fun _ _ => rfl)) pe_int (fun _ _ => rfl)))
        (pss_cons (ps_set (i := 7) sc_law.nd rfl (Or.inl rfl) (pe_ix (ix_tupK K) (pe_ix (ix_listK K) (pv 2) (pv 4) (fun _ _ => rfl)) pe_int (fun _ _ => rfl)))
        (pss_cons (ps_if (PW.pt (pw_or (pt_not (pt_val (pe_call (ok_alone T) (hr.mono (by decide)) rfl T.g_alone T.F_alone.kp T.b_alone .nil pass0 (pa_cons (pe_ix (ix_listK K) (pv 3) (pv 4) (fun _ _ => rfl)) (pa_cons (pv 6) (pa_cons (pv 7) pa_nil)))) (by intro _; rfl))) (pw_or1 (pt_not (pt_val (pe_call (ok_equal T) (hr.mono (by decide)) rfl T.g_equal T.F_equal.kp T.b_equal .nil pass0 (pa_cons (pe_ix (ix_listK K) (pv 3) (pv 4) (fun _ _ => rfl)) (pa_cons (pe_make T.mk_Share (ok_Share_init T) (hr.mono (by decide)) rfl T.g_Share T.b_Share_init .nil passL (pa_cons (pe_un un_neg (pv 6)) (pa_cons (pe_un un_neg (pv 7)) pa_nil))) (pa_cons pe_bl pa_nil)))) (by intro _; rfl)))))) (pss_one (ps_ret pe_bl)) pss_nil)
        (pss_one (ps_for PassesOwn.never rfl (pi_range1 rfl T.n_range (pa_cons pe_int pa_nil)) (pg_name (i := 8) sc_law.nd rfl (Or.inl rfl))
        (pss_one (ps_if (pt_not (pt_val (pe_call (ok_equal T) (hr.mono (by decide)) rfl T.g_equal T.F_equal.kp T.b_equal .nil pass0 (pa_cons (pe_ix (ix_listK K) (pv 3) (pv 4) (fun _ _ => rfl)) (pa_cons (pe_ix (ix_listK K) (pv 3) (pv 8) (fun _ _ => rfl)) (pa_cons (pe_cmpR op_eq (pe_op op_mulX (pv 6) (pe_ix (ix_tupK K) (pe_ix (ix_listK K) (pv 2) (pv 8) (fun _ _ => rfl)) pe_int (fun _ _ => rfl))) (pe_op op_mulX (pe_ix (ix_tupK K) (pe_ix (ix_listK K) (pv 2) (pv 8) (fun _ _ => rfl)) pe_int (fun _ _ => rfl)) (pv 7)) (nomark _)) pa_nil)))) (by intro _; rfl))) (pss_one (ps_ret pe_bl)) pss_nil))))))))))
        (pss_one (ps_ret pe_bl))))))), ?_⟩
    refine ⟨_, rfl, sc, ns, rfl, hS, hl, hb, fun p H1 hp P1 s1 => ?_⟩
    refine ⟨3, rfl, by decide, by decide, fun D hD => lc_range (lo := 0) (n := 3) (fun i H' => ∃ ts : List Addr, H' D = some (.lst (ts.map V.ref)) ∧ ts.length = i ∧ PoolAt H' p ∧ ∀ t ∈ ts, TupOk H' t)
      ⟨[], upd_same, rfl, P1.mono (same_new hD), fun t h => absurd h List.not_mem_nil⟩ ?_ ?_⟩
    · rintro i H' hi ⟨ts, hD', hlt, P2, hts⟩
      have hpD : D ≠ p := (P1.ne hD).symm
      refine ⟨rfl, ?_⟩
      refine ⟨_, rfl, p, rfl, P2, fun t a b H4 ha hb tp P4 s4 e4 => ⟨_, s4 D _ hpD hD', small1000 (by rw [List.length_map]; omega), ts ++ [t], ?_, by rw [List.length_append]; show ts.length + 1 = i + 1; omega, ?_, ?_⟩⟩
      · rw [upd_same, List.map_append]; rfl
      · obtain ⟨q1, q2, q3, q4, q5, e, l5, z5⟩ := P4
        exact .of (by rw [upd_ne hpD.symm]; exact e) l5 z5
      · intro t' ht'
        rcases List.mem_append.mp ht' with h | h
        · obtain ⟨a', b', c1, c2, e⟩ := hts t' h
          have n1 : t' ≠ p := fun z => by obtain ⟨q1, q2, q3, q4, q5, e', _⟩ := P2; rw [z, e'] at e; cases e
          exact TupOk.keep ⟨a', b', c1, c2, s4 t' _ n1 e⟩ (s4 D _ hpD hD')
        · rw [List.mem_singleton.mp h]
          exact TupOk.keep ⟨a, b, ha, hb, e4⟩ (s4 D _ hpD hD')
    rintro H2 ⟨ts0, hD2, hlt, hP2, hts⟩
    refine ⟨(by show 0 ≤ sizeLine; decide), fun S hS' => ?_⟩
    have hSD : S ≠ D := fun z => by rw [z, hD2] at hS'; cases hS'
    refine ⟨3, rfl, by decide, by decide, for_range (lo := 0) (n := 3) (fun i σ H' => ∃ (ts xs : List Addr) (v4 v5 v6 v7 v8 v9 : Option V), σ = [some (.ref sc), some (.ref p), some (.ref D), some (.ref S), v4, v5, v6, v7, v8, v9] ∧ H' D = some (.lst (ts.map V.ref)) ∧ ts.length = 3 ∧ H' S = some (.lst (xs.map V.ref)) ∧ xs.length = i ∧ (∀ t ∈ ts, TupOk H' t) ∧ ∀ (j : Nat) (t x : Addr), j < i → ts[j]? = some t → xs[j]? = some x → Good A H' t x)
      ⟨ts0, [], none, none, none, none, none, none, rfl, same_new hS' _ _ hD2, hlt, upd_same, rfl, fun t h => (hts t h).mono (same_new hS'), fun j t x h => absurd h (Nat.not_lt_zero _)⟩ ?_ ?_⟩
    · clear hts hlt hD2 hS' hP2 H2
      rintro i σ H2 hi ⟨ts, xs, v4, v5, v6, v7, v8, v9, rfl, hD2, hlt, hS2, hlx, hts, hok⟩
      have hi3 : i < ts.length := by omega
      have ei : (0 : Int) + (i : Nat) = (i : Nat) := Int.zero_add _
      have hat : atI (ts.map V.ref) ((0 : Int) + (i : Nat)) = some (.ref ts[i]) := by rw [ei]; exact atI_nat (by rw [List.getElem?_map, List.getElem?_eq_getElem hi3]; rfl)
      obtain ⟨a, b, ha, hb, e⟩ := hts ts[i] (List.getElem_mem hi3)
      refine ⟨_, rfl, _, rfl, D, _, _, _, rfl, rfl, SqL.of hD2, hat, _, _, 0, _, rfl, rfl, SqT.of e, rfl, ?_⟩
      refine ⟨_, rfl, _, rfl, D, _, _, _, rfl, rfl, SqL.of hD2, hat, _, _, 1, _, rfl, rfl, SqT.of e, rfl, ?_⟩
      refine ⟨_, rfl, a, rfl, fun H3 s3 => ⟨true, rfl, iteF ?_⟩⟩
      have hD3 := s3 _ _ hD2
      have hS3 := s3 _ _ hS2
      refine ⟨_, rfl, rfl, _, rfl, ?_⟩
      refine iteD (fun c => ?_) (fun c => ?_)
      · refine ⟨_, rfl, (by show 2 ≤ sizeLine; decide), fun q hq => ⟨_, rfl, _, rfl, D, _, _, i, rfl, rfl, same_new hq _ _ hD3, by rw [ei]; exact ixN_of (by rw [List.length_map]; omega), ?_⟩⟩
        have s4 := s3.trans (same_new (o := .tup [.int a, .int 1]) hq)
        have hq4 : (upd H3 q (.tup [.int a, .int 1])) q = some (.tup [.int a, .int 1]) := upd_same
        generalize upd H3 q (.tup [.int a, .int 1]) = H4 at s4 hq4 ⊢
        have hD4 := s4 _ _ hD2
        rw [show ((ts.map V.ref).set i (.ref q)) = (ts.set i q).map V.ref by rw [List.map_set]]
        have hS5 : (upd H4 D (.lst ((ts.set i q).map V.ref))) S = some (.lst (xs.map V.ref)) := by rw [upd_ne hSD]; exact s4 _ _ hS2
        have hD5 : (upd H4 D (.lst ((ts.set i q).map V.ref))) D = some (.lst ((ts.set i q).map V.ref)) := upd_same
        have hts5 : ∀ t ∈ ts.set i q, TupOk (upd H4 D (.lst ((ts.set i q).map V.ref))) t := fun t h => by
          rcases List.mem_or_eq_of_mem_set h with h | h
          · exact ((hts t h).mono s4).keep hD4
          · rw [h]; exact TupOk.keep ⟨a, 1, ha, Bits.one (by decide), hq4⟩ hD4
        have hok5 : ∀ (j : Nat) (t x : Addr), j < i → (ts.set i q)[j]? = some t → xs[j]? = some x → Good A (upd H4 D (.lst ((ts.set i q).map V.ref))) t x := fun j t x h h1 h2 => by
          rw [List.getElem?_set_ne (by omega)] at h1
          exact ((hok j t x h h1 h2).mono s4).keep hD4
        have hq5 : TupOk (upd H4 D (.lst ((ts.set i q).map V.ref))) q := TupOk.keep ⟨a, 1, ha, Bits.one (by decide), hq4⟩ hD4
        have hq6 : (upd H4 D (.lst ((ts.set i q).map V.ref))) q = some (.tup [.int a, .int 1]) := by
          rw [upd_ne (fun z => by rw [z, hD4] at hq4; cases hq4)]; exact hq4
        generalize upd H4 D (.lst ((ts.set i q).map V.ref)) = H5 at hS5 hD5 hts5 hok5 hq5 hq6 ⊢
        refine ⟨_, rfl, .inl ⟨rfl, _, SqL.of hS5⟩, _, rfl, ?_⟩
        intro x6 d6 hxn hdn hne
        refine ⟨x6, d6, a, 1, rfl, upd_same, fun _ => ⟨100, by decide, by decide, Bits.one (by decide)⟩, fun t6 b6 _ r6 => ⟨rfl, ?_⟩, fun c => absurd c (by decide)⟩
        have s6 := share_same (A := A) (t := t6) (b := b6) hxn hdn hne
        have hx6 : ShareAt A (upd (upd (upd H5 d6 (.own x6)) x6 (.ins A.c_Share d6 [])) x6 (.ins A.c_Share d6 (sflds t6 b6))) x6 t6 b6 := ⟨d6, upd_same⟩
        generalize upd (upd (upd H5 d6 (.own x6)) x6 (.ins A.c_Share d6 [])) x6 (.ins A.c_Share d6 (sflds t6 b6)) = H6 at s6 hx6 ⊢
        refine ⟨S, _, _, rfl, rfl, s6 _ _ hS5, small1000 (by rw [List.length_map]; omega), ?_⟩
        refine ⟨ts.set i q, xs ++ [x6], _, _, _, _, _, _, rfl, by rw [upd_ne hSD.symm]; exact s6 _ _ hD5, by rw [List.length_set]; exact hlt, by rw [upd_same, List.map_append]; rfl, by rw [List.length_append]; show xs.length + 1 = i + 1; omega, fun t h => ((hts5 t h).mono s6).keep (s6 _ _ hS5), ?_⟩
        intro j t x hj h1 h2
        by_cases hji : j < i
        · rw [List.getElem?_append_left (by omega)] at h2
          exact ((hok5 j t x hji h1 h2).mono s6).keep (s6 _ _ hS5)
        · have hj' : j = i := by omega
          subst hj'
          rw [List.getElem?_append_right (by omega), hlx, Nat.sub_self] at h2
          have hx' : x6 = x := Option.some.inj h2
          rw [List.getElem?_set_self (by omega)] at h1
          have ht' : q = t := Option.some.inj h1
          subst hx' ht'
          exact Good.keep ⟨a, 1, t6, b6, s6 _ _ hq6, by decide, ha, Bits.one (by decide), hx6, r6⟩ (s6 _ _ hS5)
      · have hb0 : b ≠ 0 := fun z => c (by rw [z])
        refine ⟨_, rfl, .inl ⟨rfl, _, SqL.of hS3⟩, _, rfl, _, rfl, ?_⟩
        intro x6 d6 hxn hdn hne
        refine ⟨x6, d6, a, b, rfl, upd_same, fun _ => ⟨100, by decide, by decide, hb⟩, fun t6 b6 _ r6 => ⟨rfl, ?_⟩, fun c => absurd c hb0⟩
        have s6 := share_same (A := A) (t := t6) (b := b6) hxn hdn hne
        have hx6 : ShareAt A (upd (upd (upd H3 d6 (.own x6)) x6 (.ins A.c_Share d6 [])) x6 (.ins A.c_Share d6 (sflds t6 b6))) x6 t6 b6 := ⟨d6, upd_same⟩
        generalize upd (upd (upd H3 d6 (.own x6)) x6 (.ins A.c_Share d6 [])) x6 (.ins A.c_Share d6 (sflds t6 b6)) = H6 at s6 hx6 ⊢
        refine ⟨S, _, _, rfl, rfl, s6 _ _ hS3, small1000 (by rw [List.length_map]; omega), ?_⟩
        have s7 := s3.trans s6
        refine ⟨ts, xs ++ [x6], _, _, _, _, _, _, rfl, by rw [upd_ne hSD.symm]; exact s6 _ _ hD3, hlt, by rw [upd_same, List.map_append]; rfl, by rw [List.length_append]; show xs.length + 1 = i + 1; omega, fun t h => ((hts t h).mono s7).keep (s6 _ _ hS3), ?_⟩
        intro j t x hj h1 h2
        by_cases hji : j < i
        · rw [List.getElem?_append_left (by omega)] at h2
          exact ((hok j t x hji h1 h2).mono s7).keep (s6 _ _ hS3)
        · have hj' : j = i := by omega
          subst hj'
          rw [List.getElem?_append_right (by omega), hlx, Nat.sub_self] at h2
          have hx' : x6 = x := Option.some.inj h2
          rw [List.getElem?_eq_getElem hi3] at h1
          have ht' : ts[j] = t := Option.some.inj h1
          subst hx'
          rw [← ht']
          exact Good.keep ⟨a, b, t6, b6, s7 _ _ e, hb0, ha, hb, hx6, r6⟩ (s6 _ _ hS3)
    rintro σ H8 ⟨ts, xs, v4, v5, v6, v7, v8, v9, rfl, hD8, hlt8, hS8, hlx8, _, hok8⟩
    have sit : Sit A H8 D S ts xs := ⟨hD8, hS8, hlt8, hlx8, fun j t x h1 h2 => hok8 j t x (by have := (List.getElem?_eq_some_iff.mp h1).1; omega) h1 h2⟩
    clear hok8 hS8 hD8 hts hS' hD2
    refine ⟨2, rfl, by decide, by decide, for_range (lo := 0) (n := 2) (fun i σ H9 => ∃ (v4 v5 v6 v7 v8 v9 : Option V), σ = [some (.ref sc), some (.ref p), some (.ref D), some (.ref S), v4, v5, v6, v7, v8, v9] ∧ Same H8 H9) ⟨_, _, _, _, _, _, rfl, Same.refl _⟩ ?_ ?_⟩
    · rintro i1 σ H9 hi1 ⟨v4, v5, v6, v7, v8, v9, rfl, s9⟩
      refine ⟨3, rfl, by decide, by decide, for_range (lo := 0) (n := 3) (fun i σ H9 => ∃ (v4 v5 v6 v7 v8 v9 : Option V), σ = [some (.ref sc), some (.ref p), some (.ref D), some (.ref S), v4, v5, v6, v7, v8, v9] ∧ Same H8 H9) ⟨_, _, _, _, _, _, rfl, s9⟩ ?_ ?_⟩
      · clear s9 H9
        rintro i2 σ H9 hi2 ⟨v4, v5, v6, v7, v8, v9, rfl, s9⟩
        have sit9 := sit.mono s9
        obtain ⟨t, x, ax, at', a, b, c, d, e, hb0, ha, hb, hX, hR⟩ := sit9.get hi2
        refine ⟨_, rfl, _, rfl, D, _, _, _, rfl, rfl, SqL.of sit9.r, at', t, _, 0, _, rfl, rfl, SqT.of e, rfl, ?_⟩
        refine ⟨_, rfl, _, rfl, D, _, _, _, rfl, rfl, SqL.of sit9.r, at', t, _, 1, _, rfl, rfl, SqT.of e, rfl, ?_⟩
        refine ⟨_, rfl, _, rfl, S, _, _, _, rfl, rfl, SqL.of sit9.s, ax, _, rfl, _, rfl, x, c, d, a, b, rfl, hX, hR, hb0, ha, hb, fun Ha sa => ⟨true, rfl, iteF ?_⟩⟩
        have s10 := s9.trans sa
        have sita := sit.mono s10
        refine ⟨_, rfl, _, rfl, S, _, _, _, rfl, rfl, SqL.of sita.s, ax, _, rfl, _, rfl, _, rfl, _, rfl, ?_⟩
        intro x3 d3 hxn hdn hne
        refine ⟨x3, d3, (-a), (-b), rfl, upd_same, fun _ => ⟨100, by decide, by decide, hb.neg⟩, fun t3 b3 _ r3 => ⟨rfl, ?_⟩, fun c => absurd c (by omega)⟩
        have s3 := share_same (A := A) (t := t3) (b := b3) hxn hdn hne
        have hx3 : ShareAt A (upd (upd (upd Ha d3 (.own x3)) x3 (.ins A.c_Share d3 [])) x3 (.ins A.c_Share d3 (sflds t3 b3))) x3 t3 b3 := ⟨d3, upd_same⟩
        generalize upd (upd (upd Ha d3 (.own x3)) x3 (.ins A.c_Share d3 [])) x3 (.ins A.c_Share d3 (sflds t3 b3)) = H3 at s3 hx3 ⊢
        refine ⟨x, x3, c, d, t3, b3, true, rfl, (hX.mono sa).mono s3, hx3, ?_, true, rfl, iteF ?_⟩
        · have hr3 := rep_neg r3
          rw [Int.neg_neg, Int.neg_neg] at hr3
          refine (decide_eq_true ?_).symm
          refine rep_uniq hR.pos hr3.pos hR.cop hr3.cop ?_
          exact rep_trans (t2 := c) (b2 := d) (t := a) (b := b) (T := t3) (B := b3) hR.cross hr3.cross.symm hb0
        have s13 := s10.trans s3
        have e13 := s3 _ _ (sa _ _ e)
        have hX13 := (hX.mono sa).mono s3
        refine ⟨3, rfl, by decide, by decide, for_range (lo := 0) (n := 3) (fun i σ H9 => ∃ (v5 v8 v9 : Option V), σ = [some (.ref sc), some (.ref p), some (.ref D), some (.ref S), some (.int (0 + (i2 : Nat))), v5, some (.int a), some (.int b), v8, v9] ∧ H9 = H3) ⟨_, _, _, rfl, rfl⟩ ?_ ?_⟩
        · rintro i3 σ Hc hi3 ⟨v5, v8, v9, rfl, rfl⟩
          have sitc := sit.mono s13
          obtain ⟨u, y, ay, au, a', b', c', d', e', hb0', ha', hb', hY, hR'⟩ := sitc.get hi3
          refine ⟨_, rfl, _, rfl, S, _, _, _, rfl, rfl, SqL.of sitc.s, ax, _, rfl, _, rfl, S, _, _, _, rfl, rfl, SqL.of sitc.s, ay, ?_⟩
          refine ⟨_, rfl, _, rfl, _, rfl, D, _, _, _, rfl, rfl, SqL.of sitc.r, au, u, _, 1, _, rfl, rfl, SqT.of e', rfl, _, _, rfl, rfl, ha.ok hb' (by decide) (by decide) (by decide), ?_⟩
          refine ⟨_, rfl, _, rfl, D, _, _, _, rfl, rfl, SqL.of sitc.r, au, u, _, 0, _, rfl, rfl, SqT.of e', rfl, _, rfl, _, _, rfl, rfl, ha'.ok hb (by decide) (by decide) (by decide), rfl, ?_⟩
          exact ⟨x, y, c, d, c', d', _, rfl, hX13, hY, due_eq hR hR' hb0 hb0', true, rfl, iteF ⟨_, _, _, rfl, rfl⟩⟩
        · rintro σ Hc ⟨v5, v8, v9, rfl, rfl⟩
          exact ⟨_, _, _, _, _, _, rfl, s13⟩
      · rintro σ H10 ⟨v4, v5, v6, v7, v8, v9, rfl, s10⟩
        exact ⟨_, _, _, _, _, _, rfl, s10⟩
    · rintro σ H10 ⟨v4, v5, v6, v7, v8, v9, rfl, s10⟩
      exact k H10
end
theorem all_mk {P : Program} {w : World} {K : PySem.W.Frag} {h : Heap} {mg : Str → Option Value} {fa : Addr} (X : K.In h) (G : h.Ns mainGlobals mg) (hfa : mg "law" = some (.ref fa))
    {c_Share c_GangError c_BadShare c_BadAmounts c_BadSpan c_Unknown f_GangError_init f_Share_init f_Share_sign f_Share_neg f_Share_abs f_Share_bool f_Share_eq f_pool f_draw f_number f_signed f_pair f_whole f_coprime f_is f_refused f_alone f_equal f_law : Addr}
    {od_GangError_init an_GangError_init : Option Addr} {sl_GangError_init : Array (Option Value)} {oc_GangError_init kV_GangError_init dc_GangError_init pm_GangError_init cd_GangError_init ct_GangError_init : Value}
    {od_Share_init an_Share_init : Option Addr} {sl_Share_init : Array (Option Value)} {oc_Share_init kV_Share_init dc_Share_init pm_Share_init cd_Share_init ct_Share_init : Value}
    {T_Share_init : Addr} {oT_Share_init : Value} {dT_Share_init : Option Addr} {nT_Share_init : Nat} {sT_Share_init : Array (Option Value)} {tk0_Share_init : Tok}
    {od_Share_sign an_Share_sign : Option Addr} {sl_Share_sign : Array (Option Value)} {oc_Share_sign kV_Share_sign dc_Share_sign pm_Share_sign cd_Share_sign ct_Share_sign : Value}
    {p_Share_sign : Addr} {rest_Share_sign : List Value}
    {od_Share_neg an_Share_neg : Option Addr} {sl_Share_neg : Array (Option Value)} {oc_Share_neg kV_Share_neg dc_Share_neg pm_Share_neg cd_Share_neg ct_Share_neg : Value}
    {od_Share_abs an_Share_abs : Option Addr} {sl_Share_abs : Array (Option Value)} {oc_Share_abs kV_Share_abs dc_Share_abs pm_Share_abs cd_Share_abs ct_Share_abs : Value}
    {od_Share_bool an_Share_bool : Option Addr} {sl_Share_bool : Array (Option Value)} {oc_Share_bool kV_Share_bool dc_Share_bool pm_Share_bool cd_Share_bool ct_Share_bool : Value}
    {od_Share_eq an_Share_eq : Option Addr} {sl_Share_eq : Array (Option Value)} {oc_Share_eq kV_Share_eq dc_Share_eq pm_Share_eq cd_Share_eq ct_Share_eq : Value}
    {od_pool an_pool : Option Addr} {sl_pool : Array (Option Value)} {oc_pool kV_pool dc_pool pm_pool cd_pool ct_pool : Value}
    {od_draw an_draw : Option Addr} {sl_draw : Array (Option Value)} {oc_draw kV_draw dc_draw pm_draw cd_draw ct_draw : Value}
    {od_number an_number : Option Addr} {sl_number : Array (Option Value)} {oc_number kV_number dc_number pm_number cd_number ct_number : Value}
    {od_signed an_signed : Option Addr} {sl_signed : Array (Option Value)} {oc_signed kV_signed dc_signed pm_signed cd_signed ct_signed : Value}
    {od_pair an_pair : Option Addr} {sl_pair : Array (Option Value)} {oc_pair kV_pair dc_pair pm_pair cd_pair ct_pair : Value}
    {od_whole an_whole : Option Addr} {sl_whole : Array (Option Value)} {oc_whole kV_whole dc_whole pm_whole cd_whole ct_whole : Value}
    {od_coprime an_coprime : Option Addr} {sl_coprime : Array (Option Value)} {oc_coprime kV_coprime dc_coprime pm_coprime cd_coprime ct_coprime : Value}
    {od_is an_is : Option Addr} {sl_is : Array (Option Value)} {oc_is kV_is dc_is pm_is cd_is ct_is : Value}
    {od_refused an_refused : Option Addr} {sl_refused : Array (Option Value)} {oc_refused kV_refused dc_refused pm_refused cd_refused ct_refused : Value}
    {od_alone an_alone : Option Addr} {sl_alone : Array (Option Value)} {oc_alone kV_alone dc_alone pm_alone cd_alone ct_alone : Value}
    {od_equal an_equal : Option Addr} {sl_equal : Array (Option Value)} {oc_equal kV_equal dc_equal pm_equal cd_equal ct_equal : Value}
    {od_law an_law : Option Addr} {sl_law : Array (Option Value)} {oc_law kV_law dc_law pm_law cd_law ct_law : Value}
    {nm_GangError q_GangError : Str} {N_GangError : Addr} {bs_GangError bm_GangError : List Value} {sn_GangError : List Str} {sub_GangError : List Value} {ab_GangError : Bool} {col_GangError : Option Bool} {dd_GangError : Option Addr} {m0_GangError m1_GangError m2_GangError m3_GangError m5_GangError : Option Value}
    {nm_BadShare q_BadShare : Str} {N_BadShare : Addr} {bs_BadShare bm_BadShare : List Value} {sn_BadShare : List Str} {sub_BadShare : List Value} {ab_BadShare : Bool} {col_BadShare : Option Bool} {dd_BadShare : Option Addr} {m0_BadShare m1_BadShare m2_BadShare m3_BadShare m5_BadShare : Option Value}
    {nm_BadAmounts q_BadAmounts : Str} {N_BadAmounts : Addr} {bs_BadAmounts bm_BadAmounts : List Value} {sn_BadAmounts : List Str} {sub_BadAmounts : List Value} {ab_BadAmounts : Bool} {col_BadAmounts : Option Bool} {dd_BadAmounts : Option Addr} {m0_BadAmounts m1_BadAmounts m2_BadAmounts m3_BadAmounts m5_BadAmounts : Option Value}
    {nm_BadSpan q_BadSpan : Str} {N_BadSpan : Addr} {bs_BadSpan bm_BadSpan : List Value} {sn_BadSpan : List Str} {sub_BadSpan : List Value} {ab_BadSpan : Bool} {col_BadSpan : Option Bool} {dd_BadSpan : Option Addr} {m0_BadSpan m1_BadSpan m2_BadSpan m3_BadSpan m5_BadSpan : Option Value}
    {nm_Unknown q_Unknown : Str} {N_Unknown : Addr} {bs_Unknown bm_Unknown : List Value} {sn_Unknown : List Str} {sub_Unknown : List Value} {ab_Unknown : Bool} {col_Unknown : Option Bool} {dd_Unknown : Option Addr} {m0_Unknown m1_Unknown m2_Unknown m3_Unknown m5_Unknown : Option Value}
    (nb_ValueError : PySem.W.nsIn K mainGlobals "ValueError" = some none)
    (nb_abs : PySem.W.nsIn K mainGlobals "abs" = some none)
    (nb_bool : PySem.W.nsIn K mainGlobals "bool" = some none)
    (nb_int : PySem.W.nsIn K mainGlobals "int" = some none)
    (nb_isinstance : PySem.W.nsIn K mainGlobals "isinstance" = some none)
    (nb_len : PySem.W.nsIn K mainGlobals "len" = some none)
    (nb_range : PySem.W.nsIn K mainGlobals "range" = some none)
    (ag_Share : PySem.W.nsIn K mainGlobals "Share" = some (some (.ref c_Share)))
    (ag_GangError : PySem.W.nsIn K mainGlobals "GangError" = some (some (.ref c_GangError)))
    (ag_BadShare : PySem.W.nsIn K mainGlobals "BadShare" = some (some (.ref c_BadShare)))
    (ag_BadAmounts : PySem.W.nsIn K mainGlobals "BadAmounts" = some (some (.ref c_BadAmounts)))
    (ag_BadSpan : PySem.W.nsIn K mainGlobals "BadSpan" = some (some (.ref c_BadSpan)))
    (ag_Unknown : PySem.W.nsIn K mainGlobals "Unknown" = some (some (.ref c_Unknown)))
    (at_GangError_init : PySem.W.findIn K (.ref c_GangError) "__init__" = some (some (.ref f_GangError_init)))
    (lk_GangError_init : K.lookup f_GangError_init = some ⟨oc_GangError_init, od_GangError_init, .func (PySem.W.fnOf "__init__" "GangError.__init__" (defArgs s_GangError_init) (defBody s_GangError_init) (defScope s_GangError_init) .none kV_GangError_init dc_GangError_init pm_GangError_init an_GangError_init cd_GangError_init ct_GangError_init), sl_GangError_init⟩)
    (co_GangError_init : PySem.W.codeIn K cd_GangError_init "GangError.__init__" = true)
    (ke_GangError_init : PySem.W.keepIn K (.ref f_GangError_init) = true)
    (fn_GangError_init : PySem.W.isFn K (.ref f_GangError_init) = true)
    (at_Share_init : PySem.W.findIn K (.ref c_Share) "__init__" = some (some (.ref f_Share_init)))
    (lk_Share_init : K.lookup f_Share_init = some ⟨oc_Share_init, od_Share_init, .func (PySem.W.fnOf "__init__" "Share.__init__" (defArgs s_Share_init) (defBody s_Share_init) (defScope s_Share_init) (.ref T_Share_init) kV_Share_init dc_Share_init pm_Share_init an_Share_init cd_Share_init ct_Share_init), sl_Share_init⟩)
    (co_Share_init : PySem.W.codeIn K cd_Share_init "Share.__init__" = true)
    (ke_Share_init : PySem.W.keepIn K (.ref f_Share_init) = true)
    (dl_Share_init : K.lookup T_Share_init = some ⟨oT_Share_init, dT_Share_init, .seq #[Value.int 1 tk0_Share_init] nT_Share_init, sT_Share_init⟩)
    (fn_Share_init : PySem.W.isFn K (.ref f_Share_init) = true)
    (p1_Share_sign : PySem.W.findIn K (.ref c_Share) "sign" = some (some (.ref p_Share_sign)))
    (p4_Share_sign : PySem.W.recIn K p_Share_sign "property" = some (.ref f_Share_sign :: rest_Share_sign))
    (lk_Share_sign : K.lookup f_Share_sign = some ⟨oc_Share_sign, od_Share_sign, .func (PySem.W.fnOf "sign" "Share.sign" (defArgs s_Share_sign) (defBody s_Share_sign) (defScope s_Share_sign) .none kV_Share_sign dc_Share_sign pm_Share_sign an_Share_sign cd_Share_sign ct_Share_sign), sl_Share_sign⟩)
    (co_Share_sign : PySem.W.codeIn K cd_Share_sign "Share.sign" = true)
    (ke_Share_sign : PySem.W.keepIn K (.ref f_Share_sign) = true)
    (p2_Share_sign : PySem.W.specialIn K (.ref p_Share_sign) "__get__" = some (some (.builtin "property.__get__")))
    (p3_Share_sign : PySem.W.takesIn K (.ref p_Share_sign) = some true)
    (at_Share_neg : PySem.W.findIn K (.ref c_Share) "__neg__" = some (some (.ref f_Share_neg)))
    (lk_Share_neg : K.lookup f_Share_neg = some ⟨oc_Share_neg, od_Share_neg, .func (PySem.W.fnOf "__neg__" "Share.__neg__" (defArgs s_Share_neg) (defBody s_Share_neg) (defScope s_Share_neg) .none kV_Share_neg dc_Share_neg pm_Share_neg an_Share_neg cd_Share_neg ct_Share_neg), sl_Share_neg⟩)
    (co_Share_neg : PySem.W.codeIn K cd_Share_neg "Share.__neg__" = true)
    (ke_Share_neg : PySem.W.keepIn K (.ref f_Share_neg) = true)
    (fn_Share_neg : PySem.W.isFn K (.ref f_Share_neg) = true)
    (at_Share_abs : PySem.W.findIn K (.ref c_Share) "__abs__" = some (some (.ref f_Share_abs)))
    (lk_Share_abs : K.lookup f_Share_abs = some ⟨oc_Share_abs, od_Share_abs, .func (PySem.W.fnOf "__abs__" "Share.__abs__" (defArgs s_Share_abs) (defBody s_Share_abs) (defScope s_Share_abs) .none kV_Share_abs dc_Share_abs pm_Share_abs an_Share_abs cd_Share_abs ct_Share_abs), sl_Share_abs⟩)
    (co_Share_abs : PySem.W.codeIn K cd_Share_abs "Share.__abs__" = true)
    (ke_Share_abs : PySem.W.keepIn K (.ref f_Share_abs) = true)
    (fn_Share_abs : PySem.W.isFn K (.ref f_Share_abs) = true)
    (at_Share_bool : PySem.W.findIn K (.ref c_Share) "__bool__" = some (some (.ref f_Share_bool)))
    (lk_Share_bool : K.lookup f_Share_bool = some ⟨oc_Share_bool, od_Share_bool, .func (PySem.W.fnOf "__bool__" "Share.__bool__" (defArgs s_Share_bool) (defBody s_Share_bool) (defScope s_Share_bool) .none kV_Share_bool dc_Share_bool pm_Share_bool an_Share_bool cd_Share_bool ct_Share_bool), sl_Share_bool⟩)
    (co_Share_bool : PySem.W.codeIn K cd_Share_bool "Share.__bool__" = true)
    (ke_Share_bool : PySem.W.keepIn K (.ref f_Share_bool) = true)
    (fn_Share_bool : PySem.W.isFn K (.ref f_Share_bool) = true)
    (at_Share_eq : PySem.W.findIn K (.ref c_Share) "__eq__" = some (some (.ref f_Share_eq)))
    (lk_Share_eq : K.lookup f_Share_eq = some ⟨oc_Share_eq, od_Share_eq, .func (PySem.W.fnOf "__eq__" "Share.__eq__" (defArgs s_Share_eq) (defBody s_Share_eq) (defScope s_Share_eq) .none kV_Share_eq dc_Share_eq pm_Share_eq an_Share_eq cd_Share_eq ct_Share_eq), sl_Share_eq⟩)
    (co_Share_eq : PySem.W.codeIn K cd_Share_eq "Share.__eq__" = true)
    (ke_Share_eq : PySem.W.keepIn K (.ref f_Share_eq) = true)
    (fn_Share_eq : PySem.W.isFn K (.ref f_Share_eq) = true)
    (at_pool : PySem.W.nsIn K mainGlobals "_law_pool" = some (some (.ref f_pool)))
    (lk_pool : K.lookup f_pool = some ⟨oc_pool, od_pool, .func (PySem.W.fnOf "_law_pool" "_law_pool" (defArgs s_pool) (defBody s_pool) (defScope s_pool) .none kV_pool dc_pool pm_pool an_pool cd_pool ct_pool), sl_pool⟩)
    (co_pool : PySem.W.codeIn K cd_pool "_law_pool" = true)
    (ke_pool : PySem.W.keepIn K (.ref f_pool) = true)
    (at_draw : PySem.W.nsIn K mainGlobals "_law_draw" = some (some (.ref f_draw)))
    (lk_draw : K.lookup f_draw = some ⟨oc_draw, od_draw, .func (PySem.W.fnOf "_law_draw" "_law_draw" (defArgs s_draw) (defBody s_draw) (defScope s_draw) .none kV_draw dc_draw pm_draw an_draw cd_draw ct_draw), sl_draw⟩)
    (co_draw : PySem.W.codeIn K cd_draw "_law_draw" = true)
    (ke_draw : PySem.W.keepIn K (.ref f_draw) = true)
    (at_number : PySem.W.nsIn K mainGlobals "_law_number" = some (some (.ref f_number)))
    (lk_number : K.lookup f_number = some ⟨oc_number, od_number, .func (PySem.W.fnOf "_law_number" "_law_number" (defArgs s_number) (defBody s_number) (defScope s_number) .none kV_number dc_number pm_number an_number cd_number ct_number), sl_number⟩)
    (co_number : PySem.W.codeIn K cd_number "_law_number" = true)
    (ke_number : PySem.W.keepIn K (.ref f_number) = true)
    (at_signed : PySem.W.nsIn K mainGlobals "_law_signed" = some (some (.ref f_signed)))
    (lk_signed : K.lookup f_signed = some ⟨oc_signed, od_signed, .func (PySem.W.fnOf "_law_signed" "_law_signed" (defArgs s_signed) (defBody s_signed) (defScope s_signed) .none kV_signed dc_signed pm_signed an_signed cd_signed ct_signed), sl_signed⟩)
    (co_signed : PySem.W.codeIn K cd_signed "_law_signed" = true)
    (ke_signed : PySem.W.keepIn K (.ref f_signed) = true)
    (at_pair : PySem.W.nsIn K mainGlobals "_law_pair" = some (some (.ref f_pair)))
    (lk_pair : K.lookup f_pair = some ⟨oc_pair, od_pair, .func (PySem.W.fnOf "_law_pair" "_law_pair" (defArgs s_pair) (defBody s_pair) (defScope s_pair) .none kV_pair dc_pair pm_pair an_pair cd_pair ct_pair), sl_pair⟩)
    (co_pair : PySem.W.codeIn K cd_pair "_law_pair" = true)
    (ke_pair : PySem.W.keepIn K (.ref f_pair) = true)
    (at_whole : PySem.W.nsIn K mainGlobals "_law_whole" = some (some (.ref f_whole)))
    (lk_whole : K.lookup f_whole = some ⟨oc_whole, od_whole, .func (PySem.W.fnOf "_law_whole" "_law_whole" (defArgs s_whole) (defBody s_whole) (defScope s_whole) .none kV_whole dc_whole pm_whole an_whole cd_whole ct_whole), sl_whole⟩)
    (co_whole : PySem.W.codeIn K cd_whole "_law_whole" = true)
    (ke_whole : PySem.W.keepIn K (.ref f_whole) = true)
    (at_coprime : PySem.W.nsIn K mainGlobals "_law_coprime" = some (some (.ref f_coprime)))
    (lk_coprime : K.lookup f_coprime = some ⟨oc_coprime, od_coprime, .func (PySem.W.fnOf "_law_coprime" "_law_coprime" (defArgs s_coprime) (defBody s_coprime) (defScope s_coprime) .none kV_coprime dc_coprime pm_coprime an_coprime cd_coprime ct_coprime), sl_coprime⟩)
    (co_coprime : PySem.W.codeIn K cd_coprime "_law_coprime" = true)
    (ke_coprime : PySem.W.keepIn K (.ref f_coprime) = true)
    (at_is : PySem.W.nsIn K mainGlobals "_law_is" = some (some (.ref f_is)))
    (lk_is : K.lookup f_is = some ⟨oc_is, od_is, .func (PySem.W.fnOf "_law_is" "_law_is" (defArgs s_is) (defBody s_is) (defScope s_is) .none kV_is dc_is pm_is an_is cd_is ct_is), sl_is⟩)
    (co_is : PySem.W.codeIn K cd_is "_law_is" = true)
    (ke_is : PySem.W.keepIn K (.ref f_is) = true)
    (at_refused : PySem.W.nsIn K mainGlobals "_law_refused" = some (some (.ref f_refused)))
    (lk_refused : K.lookup f_refused = some ⟨oc_refused, od_refused, .func (PySem.W.fnOf "_law_refused" "_law_refused" (defArgs s_refused) (defBody s_refused) (defScope s_refused) .none kV_refused dc_refused pm_refused an_refused cd_refused ct_refused), sl_refused⟩)
    (co_refused : PySem.W.codeIn K cd_refused "_law_refused" = true)
    (ke_refused : PySem.W.keepIn K (.ref f_refused) = true)
    (at_alone : PySem.W.nsIn K mainGlobals "_law_alone" = some (some (.ref f_alone)))
    (lk_alone : K.lookup f_alone = some ⟨oc_alone, od_alone, .func (PySem.W.fnOf "_law_alone" "_law_alone" (defArgs s_alone) (defBody s_alone) (defScope s_alone) .none kV_alone dc_alone pm_alone an_alone cd_alone ct_alone), sl_alone⟩)
    (co_alone : PySem.W.codeIn K cd_alone "_law_alone" = true)
    (ke_alone : PySem.W.keepIn K (.ref f_alone) = true)
    (at_equal : PySem.W.nsIn K mainGlobals "_law_equal" = some (some (.ref f_equal)))
    (lk_equal : K.lookup f_equal = some ⟨oc_equal, od_equal, .func (PySem.W.fnOf "_law_equal" "_law_equal" (defArgs s_equal) (defBody s_equal) (defScope s_equal) .none kV_equal dc_equal pm_equal an_equal cd_equal ct_equal), sl_equal⟩)
    (co_equal : PySem.W.codeIn K cd_equal "_law_equal" = true)
    (ke_equal : PySem.W.keepIn K (.ref f_equal) = true)
    (at_law : PySem.W.nsIn K mainGlobals "law" = some (some (.ref f_law)))
    (lk_law : K.lookup f_law = some ⟨oc_law, od_law, .func (PySem.W.fnOf "law" "law" (defArgs s_law) (defBody s_law) (defScope s_law) .none kV_law dc_law pm_law an_law cd_law ct_law), sl_law⟩)
    (co_law : PySem.W.codeIn K cd_law "law" = true)
    (ke_law : PySem.W.keepIn K (.ref f_law) = true)
    (pg_Share : PySem.W.plainGet K c_Share Str.empty = true)
    (hd_Share : PySem.W.hasDictIn K c_Share = true)
    (po_Share : PySem.W.plainOver K c_Share = true)
    (sa_Share : PySem.W.findIn K (.ref c_Share) "__setattr__" = some (some (.builtin "object.__setattr__")))
    (mk_Share : PySem.W.makesIn K c_Share = true)
    (kp_Share : PySem.W.keepIn K (.ref c_Share) = true)
    (sf_Share : PySem.W.selfFirst K c_Share = true)
    (k1_Share : PySem.W.findIn K (.ref c_Share) "__class__" = some (some (.builtin "object.__class__")))
    (k4_Share : PySem.W.mroIn K c_Share (.type "object") = some true)
    (no_Share_top : PySem.W.findIn K (.ref c_Share) "top" = some none)
    (no_Share_bottom : PySem.W.findIn K (.ref c_Share) "bottom" = some none)
    (kg : PySem.W.specialIn K (.builtin "object.__class__") "__get__" = some (some (.builtin "getset_descriptor.__get__")))
    (kt : PySem.W.takesIn K (.builtin "object.__class__") = some true)
    (xl_GangError : K.lookup c_GangError = some (excClassObj nm_GangError q_GangError c_GangError N_GangError bs_GangError bm_GangError true sn_GangError sub_GangError ab_GangError col_GangError dd_GangError m0_GangError m1_GangError m2_GangError m3_GangError m5_GangError "ValueError.__new__"))
    (xr_GangError : PySem.HandSPX.refsVE bm_GangError = true)
    (xsa_GangError : PySem.W.findIn K (.ref c_GangError) "__setattr__" = some (some (.builtin "object.__setattr__")))
    (xex_GangError : PySem.W.subIn K (.ref c_GangError) (.type "BaseException") = some true)
    (xty_GangError : PySem.W.typeIn K (.ref c_GangError) = some (.type "type"))
    (xkp_GangError : PySem.W.keepIn K (.ref c_GangError) = true)
    (xin_GangError : PySem.W.findIn K (.ref c_GangError) "__init__" = some (some (.ref f_GangError_init)))
    (xno_GangError : PySem.W.findIn K (.ref c_GangError) "subject" = some none)
    (xga_GangError : PySem.W.findIn K (.ref c_GangError) "__getattribute__" = some (some (.builtin "BaseException.__getattribute__")))
    (xgg_GangError : PySem.W.findIn K (.ref c_GangError) "__getattr__" = some none)
    (xhd_GangError : PySem.W.hasDictIn K c_GangError = true)
    (xk1_GangError : PySem.W.findIn K (.ref c_GangError) "__class__" = some (some (.builtin "object.__class__")))
    (xk4_GangError : PySem.W.mroIn K c_GangError (.type "object") = some true)
    (xem_GangError : PySem.W.subIn K (.ref c_GangError) (.ref c_GangError) = some true)
    (xl_BadShare : K.lookup c_BadShare = some (excClassObj nm_BadShare q_BadShare c_BadShare N_BadShare bs_BadShare bm_BadShare true sn_BadShare sub_BadShare ab_BadShare col_BadShare dd_BadShare m0_BadShare m1_BadShare m2_BadShare m3_BadShare m5_BadShare "ValueError.__new__"))
    (xr_BadShare : PySem.HandSPX.refsVE bm_BadShare = true)
    (xsa_BadShare : PySem.W.findIn K (.ref c_BadShare) "__setattr__" = some (some (.builtin "object.__setattr__")))
    (xex_BadShare : PySem.W.subIn K (.ref c_BadShare) (.type "BaseException") = some true)
    (xty_BadShare : PySem.W.typeIn K (.ref c_BadShare) = some (.type "type"))
    (xkp_BadShare : PySem.W.keepIn K (.ref c_BadShare) = true)
    (xin_BadShare : PySem.W.findIn K (.ref c_BadShare) "__init__" = some (some (.ref f_GangError_init)))
    (xno_BadShare : PySem.W.findIn K (.ref c_BadShare) "subject" = some none)
    (xga_BadShare : PySem.W.findIn K (.ref c_BadShare) "__getattribute__" = some (some (.builtin "BaseException.__getattribute__")))
    (xgg_BadShare : PySem.W.findIn K (.ref c_BadShare) "__getattr__" = some none)
    (xhd_BadShare : PySem.W.hasDictIn K c_BadShare = true)
    (xk1_BadShare : PySem.W.findIn K (.ref c_BadShare) "__class__" = some (some (.builtin "object.__class__")))
    (xk4_BadShare : PySem.W.mroIn K c_BadShare (.type "object") = some true)
    (xem_BadShare : PySem.W.subIn K (.ref c_BadShare) (.ref c_GangError) = some true)
    (xl_BadAmounts : K.lookup c_BadAmounts = some (excClassObj nm_BadAmounts q_BadAmounts c_BadAmounts N_BadAmounts bs_BadAmounts bm_BadAmounts true sn_BadAmounts sub_BadAmounts ab_BadAmounts col_BadAmounts dd_BadAmounts m0_BadAmounts m1_BadAmounts m2_BadAmounts m3_BadAmounts m5_BadAmounts "ValueError.__new__"))
    (xr_BadAmounts : PySem.HandSPX.refsVE bm_BadAmounts = true)
    (xsa_BadAmounts : PySem.W.findIn K (.ref c_BadAmounts) "__setattr__" = some (some (.builtin "object.__setattr__")))
    (xex_BadAmounts : PySem.W.subIn K (.ref c_BadAmounts) (.type "BaseException") = some true)
    (xty_BadAmounts : PySem.W.typeIn K (.ref c_BadAmounts) = some (.type "type"))
    (xkp_BadAmounts : PySem.W.keepIn K (.ref c_BadAmounts) = true)
    (xin_BadAmounts : PySem.W.findIn K (.ref c_BadAmounts) "__init__" = some (some (.ref f_GangError_init)))
    (xno_BadAmounts : PySem.W.findIn K (.ref c_BadAmounts) "subject" = some none)
    (xga_BadAmounts : PySem.W.findIn K (.ref c_BadAmounts) "__getattribute__" = some (some (.builtin "BaseException.__getattribute__")))
    (xgg_BadAmounts : PySem.W.findIn K (.ref c_BadAmounts) "__getattr__" = some none)
    (xhd_BadAmounts : PySem.W.hasDictIn K c_BadAmounts = true)
    (xk1_BadAmounts : PySem.W.findIn K (.ref c_BadAmounts) "__class__" = some (some (.builtin "object.__class__")))
    (xk4_BadAmounts : PySem.W.mroIn K c_BadAmounts (.type "object") = some true)
    (xem_BadAmounts : PySem.W.subIn K (.ref c_BadAmounts) (.ref c_GangError) = some true)
    (xl_BadSpan : K.lookup c_BadSpan = some (excClassObj nm_BadSpan q_BadSpan c_BadSpan N_BadSpan bs_BadSpan bm_BadSpan true sn_BadSpan sub_BadSpan ab_BadSpan col_BadSpan dd_BadSpan m0_BadSpan m1_BadSpan m2_BadSpan m3_BadSpan m5_BadSpan "ValueError.__new__"))
    (xr_BadSpan : PySem.HandSPX.refsVE bm_BadSpan = true)
    (xsa_BadSpan : PySem.W.findIn K (.ref c_BadSpan) "__setattr__" = some (some (.builtin "object.__setattr__")))
    (xex_BadSpan : PySem.W.subIn K (.ref c_BadSpan) (.type "BaseException") = some true)
    (xty_BadSpan : PySem.W.typeIn K (.ref c_BadSpan) = some (.type "type"))
    (xkp_BadSpan : PySem.W.keepIn K (.ref c_BadSpan) = true)
    (xin_BadSpan : PySem.W.findIn K (.ref c_BadSpan) "__init__" = some (some (.ref f_GangError_init)))
    (xno_BadSpan : PySem.W.findIn K (.ref c_BadSpan) "subject" = some none)
    (xga_BadSpan : PySem.W.findIn K (.ref c_BadSpan) "__getattribute__" = some (some (.builtin "BaseException.__getattribute__")))
    (xgg_BadSpan : PySem.W.findIn K (.ref c_BadSpan) "__getattr__" = some none)
    (xhd_BadSpan : PySem.W.hasDictIn K c_BadSpan = true)
    (xk1_BadSpan : PySem.W.findIn K (.ref c_BadSpan) "__class__" = some (some (.builtin "object.__class__")))
    (xk4_BadSpan : PySem.W.mroIn K c_BadSpan (.type "object") = some true)
    (xem_BadSpan : PySem.W.subIn K (.ref c_BadSpan) (.ref c_GangError) = some true)
    (xl_Unknown : K.lookup c_Unknown = some (excClassObj nm_Unknown q_Unknown c_Unknown N_Unknown bs_Unknown bm_Unknown true sn_Unknown sub_Unknown ab_Unknown col_Unknown dd_Unknown m0_Unknown m1_Unknown m2_Unknown m3_Unknown m5_Unknown "ValueError.__new__"))
    (xr_Unknown : PySem.HandSPX.refsVE bm_Unknown = true)
    (xsa_Unknown : PySem.W.findIn K (.ref c_Unknown) "__setattr__" = some (some (.builtin "object.__setattr__")))
    (xex_Unknown : PySem.W.subIn K (.ref c_Unknown) (.type "BaseException") = some true)
    (xty_Unknown : PySem.W.typeIn K (.ref c_Unknown) = some (.type "type"))
    (xkp_Unknown : PySem.W.keepIn K (.ref c_Unknown) = true)
    (xin_Unknown : PySem.W.findIn K (.ref c_Unknown) "__init__" = some (some (.ref f_GangError_init)))
    (xno_Unknown : PySem.W.findIn K (.ref c_Unknown) "subject" = some none)
    (xga_Unknown : PySem.W.findIn K (.ref c_Unknown) "__getattribute__" = some (some (.builtin "BaseException.__getattribute__")))
    (xgg_Unknown : PySem.W.findIn K (.ref c_Unknown) "__getattr__" = some none)
    (xhd_Unknown : PySem.W.hasDictIn K c_Unknown = true)
    (xk1_Unknown : PySem.W.findIn K (.ref c_Unknown) "__class__" = some (some (.builtin "object.__class__")))
    (xk4_Unknown : PySem.W.mroIn K c_Unknown (.type "object") = some true)
    (xem_Unknown : PySem.W.subIn K (.ref c_Unknown) (.ref c_GangError) = some true)
    (tI_GangError : PySem.W.typeIn K (.ref f_GangError_init) = some (.type "function"))
    (si_Share : PySem.W.subIn K (.ref c_Share) (.type "int") = some false)
    (ty_Share : PySem.W.typeIn K (.ref c_Share) = some (.type "type"))
    (st_int_Share : PySem.W.subIn K (.type "int") (.ref c_Share) = some false)
    (st_tuple_Share : PySem.W.subIn K (.type "tuple") (.ref c_Share) = some false)
    (gcd : PySem.W.nsIn K mainGlobals "gcd" = some (some (.builtin "math.gcd")))
    (ss_BadShare : PySem.W.subIn K (.ref c_BadShare) (.ref c_BadShare) = some true)
    (su_BadShare_BadShare : PySem.W.subIn K (.ref c_BadShare) (.ref c_BadShare) = some true)
    (su_BadShare_ValueError : PySem.W.subIn K (.ref c_BadShare) (.type "ValueError") = some true)
    (ss_BadAmounts : PySem.W.subIn K (.ref c_BadAmounts) (.ref c_BadAmounts) = some true)
    (su_BadShare_BadAmounts : PySem.W.subIn K (.ref c_BadShare) (.ref c_BadAmounts) = some false)
    (ss_BadSpan : PySem.W.subIn K (.ref c_BadSpan) (.ref c_BadSpan) = some true)
    (su_BadShare_BadSpan : PySem.W.subIn K (.ref c_BadShare) (.ref c_BadSpan) = some false)
    (ss_Unknown : PySem.W.subIn K (.ref c_Unknown) (.ref c_Unknown) = some true)
    (su_BadShare_Unknown : PySem.W.subIn K (.ref c_BadShare) (.ref c_Unknown) = some false)
    : ∃ fd : FuncData, (∀ (s : Shared) (v : Value), BindsTo s fd ⟨[v], []⟩ [("_law_script", v)]) ∧ ∀ base : Heap, K.In base → base.Ns mainGlobals mg → FnOk P w K mg base CX0 8 fa fd ["_law_script"] (spLaw K) := by
  have e := hfa.symm.trans (PySem.W.mg_of X G at_law)
  cases e
  let A : Adr := { c_Share := c_Share, c_GangError := c_GangError, c_BadShare := c_BadShare, c_BadAmounts := c_BadAmounts, c_BadSpan := c_BadSpan, c_Unknown := c_Unknown, f_GangError_init := f_GangError_init, d_GangError_init := PySem.W.fnOf "__init__" "GangError.__init__" (defArgs s_GangError_init) (defBody s_GangError_init) (defScope s_GangError_init) .none kV_GangError_init dc_GangError_init pm_GangError_init an_GangError_init cd_GangError_init ct_GangError_init, f_Share_init := f_Share_init, d_Share_init := PySem.W.fnOf "__init__" "Share.__init__" (defArgs s_Share_init) (defBody s_Share_init) (defScope s_Share_init) (.ref T_Share_init) kV_Share_init dc_Share_init pm_Share_init an_Share_init cd_Share_init ct_Share_init, f_Share_sign := f_Share_sign, d_Share_sign := PySem.W.fnOf "sign" "Share.sign" (defArgs s_Share_sign) (defBody s_Share_sign) (defScope s_Share_sign) .none kV_Share_sign dc_Share_sign pm_Share_sign an_Share_sign cd_Share_sign ct_Share_sign, f_Share_neg := f_Share_neg, d_Share_neg := PySem.W.fnOf "__neg__" "Share.__neg__" (defArgs s_Share_neg) (defBody s_Share_neg) (defScope s_Share_neg) .none kV_Share_neg dc_Share_neg pm_Share_neg an_Share_neg cd_Share_neg ct_Share_neg, f_Share_abs := f_Share_abs, d_Share_abs := PySem.W.fnOf "__abs__" "Share.__abs__" (defArgs s_Share_abs) (defBody s_Share_abs) (defScope s_Share_abs) .none kV_Share_abs dc_Share_abs pm_Share_abs an_Share_abs cd_Share_abs ct_Share_abs, f_Share_bool := f_Share_bool, d_Share_bool := PySem.W.fnOf "__bool__" "Share.__bool__" (defArgs s_Share_bool) (defBody s_Share_bool) (defScope s_Share_bool) .none kV_Share_bool dc_Share_bool pm_Share_bool an_Share_bool cd_Share_bool ct_Share_bool, f_Share_eq := f_Share_eq, d_Share_eq := PySem.W.fnOf "__eq__" "Share.__eq__" (defArgs s_Share_eq) (defBody s_Share_eq) (defScope s_Share_eq) .none kV_Share_eq dc_Share_eq pm_Share_eq an_Share_eq cd_Share_eq ct_Share_eq, f_pool := f_pool, d_pool := PySem.W.fnOf "_law_pool" "_law_pool" (defArgs s_pool) (defBody s_pool) (defScope s_pool) .none kV_pool dc_pool pm_pool an_pool cd_pool ct_pool, f_draw := f_draw, d_draw := PySem.W.fnOf "_law_draw" "_law_draw" (defArgs s_draw) (defBody s_draw) (defScope s_draw) .none kV_draw dc_draw pm_draw an_draw cd_draw ct_draw, f_number := f_number, d_number := PySem.W.fnOf "_law_number" "_law_number" (defArgs s_number) (defBody s_number) (defScope s_number) .none kV_number dc_number pm_number an_number cd_number ct_number, f_signed := f_signed, d_signed := PySem.W.fnOf "_law_signed" "_law_signed" (defArgs s_signed) (defBody s_signed) (defScope s_signed) .none kV_signed dc_signed pm_signed an_signed cd_signed ct_signed, f_pair := f_pair, d_pair := PySem.W.fnOf "_law_pair" "_law_pair" (defArgs s_pair) (defBody s_pair) (defScope s_pair) .none kV_pair dc_pair pm_pair an_pair cd_pair ct_pair, f_whole := f_whole, d_whole := PySem.W.fnOf "_law_whole" "_law_whole" (defArgs s_whole) (defBody s_whole) (defScope s_whole) .none kV_whole dc_whole pm_whole an_whole cd_whole ct_whole, f_coprime := f_coprime, d_coprime := PySem.W.fnOf "_law_coprime" "_law_coprime" (defArgs s_coprime) (defBody s_coprime) (defScope s_coprime) .none kV_coprime dc_coprime pm_coprime an_coprime cd_coprime ct_coprime, f_is := f_is, d_is := PySem.W.fnOf "_law_is" "_law_is" (defArgs s_is) (defBody s_is) (defScope s_is) .none kV_is dc_is pm_is an_is cd_is ct_is, f_refused := f_refused, d_refused := PySem.W.fnOf "_law_refused" "_law_refused" (defArgs s_refused) (defBody s_refused) (defScope s_refused) .none kV_refused dc_refused pm_refused an_refused cd_refused ct_refused, f_alone := f_alone, d_alone := PySem.W.fnOf "_law_alone" "_law_alone" (defArgs s_alone) (defBody s_alone) (defScope s_alone) .none kV_alone dc_alone pm_alone an_alone cd_alone ct_alone, f_equal := f_equal, d_equal := PySem.W.fnOf "_law_equal" "_law_equal" (defArgs s_equal) (defBody s_equal) (defScope s_equal) .none kV_equal dc_equal pm_equal an_equal cd_equal ct_equal, f_law := fa, d_law := PySem.W.fnOf "law" "law" (defArgs s_law) (defBody s_law) (defScope s_law) .none kV_law dc_law pm_law an_law cd_law ct_law }
  have T : Txt K mg A := {
    n_ValueError := PySem.W.mg_none_of X G nb_ValueError
    n_abs := PySem.W.mg_none_of X G nb_abs
    n_bool := PySem.W.mg_none_of X G nb_bool
    n_int := PySem.W.mg_none_of X G nb_int
    n_isinstance := PySem.W.mg_none_of X G nb_isinstance
    n_len := PySem.W.mg_none_of X G nb_len
    n_range := PySem.W.mg_none_of X G nb_range
    g_Share := PySem.W.mg_of X G ag_Share
    g_GangError := PySem.W.mg_of X G ag_GangError
    g_BadShare := PySem.W.mg_of X G ag_BadShare
    g_BadAmounts := PySem.W.mg_of X G ag_BadAmounts
    g_BadSpan := PySem.W.mg_of X G ag_BadSpan
    g_Unknown := PySem.W.mg_of X G ag_Unknown
    F_GangError_init := fun_mk (st := s_GangError_init) lk_GangError_init co_GangError_init ke_GangError_init
    b_GangError_init := (fun_mk (st := s_GangError_init) lk_GangError_init co_GangError_init ke_GangError_init).binds (ps := ["self", "subject"]) fun _ _ _ _ _ _ us hl => match us, hl with | [_, _], _ => rfl
    me_GangError_init := ⟨at_GangError_init, fn_GangError_init, ke_GangError_init⟩
    F_Share_init := ⟨⟨_, _, _, _, _, _, _, _, _, _, rfl, lk_Share_init, co_Share_init, .inr ⟨by simp, _, _, [Value.int 1 tk0_Share_init], _, rfl, dl_Share_init, rfl, .cons ⟨_, rfl⟩ (.nil)⟩, .inl rfl⟩, ke_Share_init⟩
    b_Share_init := binds_none (FunD.binds1 (ps := ["self", "top", "bottom"]) (show FunD K "__init__" "Share.__init__" (defArgs s_Share_init) (defBody s_Share_init) (defScope s_Share_init) [.int 1] [] f_Share_init (PySem.W.fnOf "__init__" "Share.__init__" (defArgs s_Share_init) (defBody s_Share_init) (defScope s_Share_init) (.ref T_Share_init) kV_Share_init dc_Share_init pm_Share_init an_Share_init cd_Share_init ct_Share_init) from ⟨⟨_, _, _, _, _, _, _, _, _, _, rfl, lk_Share_init, co_Share_init, .inr ⟨by simp, _, _, [Value.int 1 tk0_Share_init], _, rfl, dl_Share_init, rfl, .cons ⟨_, rfl⟩ (.nil)⟩, .inl rfl⟩, ke_Share_init⟩) 3 1 (by simp) rfl (fun T kV doc pm an cdv ct us its hu hi => match us, its, hu, hi with | [_, _, _], [_], _, _ => ⟨_, rfl, rfl⟩))
    e_Share_init := FunD.binds1 (ps := ["self", "top", "bottom"]) (show FunD K "__init__" "Share.__init__" (defArgs s_Share_init) (defBody s_Share_init) (defScope s_Share_init) [.int 1] [] f_Share_init (PySem.W.fnOf "__init__" "Share.__init__" (defArgs s_Share_init) (defBody s_Share_init) (defScope s_Share_init) (.ref T_Share_init) kV_Share_init dc_Share_init pm_Share_init an_Share_init cd_Share_init ct_Share_init) from ⟨⟨_, _, _, _, _, _, _, _, _, _, rfl, lk_Share_init, co_Share_init, .inr ⟨by simp, _, _, [Value.int 1 tk0_Share_init], _, rfl, dl_Share_init, rfl, .cons ⟨_, rfl⟩ (.nil)⟩, .inl rfl⟩, ke_Share_init⟩) 2 0 (by simp) rfl (fun T kV doc pm an cdv ct us its hu hi => match us, its, hu, hi with | [_, _], [_], _, _ => ⟨_, rfl, rfl⟩)
    me_Share_init := ⟨at_Share_init, fn_Share_init, ke_Share_init⟩
    F_Share_sign := fun_mk (st := s_Share_sign) lk_Share_sign co_Share_sign ke_Share_sign
    b_Share_sign := (fun_mk (st := s_Share_sign) lk_Share_sign co_Share_sign ke_Share_sign).binds (ps := ["self"]) fun _ _ _ _ _ _ us hl => match us, hl with | [_], _ => rfl
    pr_Share_sign := ⟨_, p1_Share_sign, p2_Share_sign, p3_Share_sign, _, p4_Share_sign⟩
    F_Share_neg := fun_mk (st := s_Share_neg) lk_Share_neg co_Share_neg ke_Share_neg
    b_Share_neg := (fun_mk (st := s_Share_neg) lk_Share_neg co_Share_neg ke_Share_neg).binds (ps := ["self"]) fun _ _ _ _ _ _ us hl => match us, hl with | [_], _ => rfl
    me_Share_neg := ⟨at_Share_neg, fn_Share_neg, ke_Share_neg⟩
    F_Share_abs := fun_mk (st := s_Share_abs) lk_Share_abs co_Share_abs ke_Share_abs
    b_Share_abs := (fun_mk (st := s_Share_abs) lk_Share_abs co_Share_abs ke_Share_abs).binds (ps := ["self"]) fun _ _ _ _ _ _ us hl => match us, hl with | [_], _ => rfl
    me_Share_abs := ⟨at_Share_abs, fn_Share_abs, ke_Share_abs⟩
    F_Share_bool := fun_mk (st := s_Share_bool) lk_Share_bool co_Share_bool ke_Share_bool
    b_Share_bool := (fun_mk (st := s_Share_bool) lk_Share_bool co_Share_bool ke_Share_bool).binds (ps := ["self"]) fun _ _ _ _ _ _ us hl => match us, hl with | [_], _ => rfl
    me_Share_bool := ⟨at_Share_bool, fn_Share_bool, ke_Share_bool⟩
    F_Share_eq := fun_mk (st := s_Share_eq) lk_Share_eq co_Share_eq ke_Share_eq
    b_Share_eq := (fun_mk (st := s_Share_eq) lk_Share_eq co_Share_eq ke_Share_eq).binds (ps := ["self", "other"]) fun _ _ _ _ _ _ us hl => match us, hl with | [_, _], _ => rfl
    me_Share_eq := ⟨at_Share_eq, fn_Share_eq, ke_Share_eq⟩
    F_pool := fun_mk (st := s_pool) lk_pool co_pool ke_pool
    b_pool := (fun_mk (st := s_pool) lk_pool co_pool ke_pool).binds (ps := ["_law_script"]) fun _ _ _ _ _ _ us hl => match us, hl with | [_], _ => rfl
    g_pool := PySem.W.mg_of X G at_pool
    F_draw := fun_mk (st := s_draw) lk_draw co_draw ke_draw
    b_draw := (fun_mk (st := s_draw) lk_draw co_draw ke_draw).binds (ps := ["_law_pool_here", "_law_many"]) fun _ _ _ _ _ _ us hl => match us, hl with | [_, _], _ => rfl
    g_draw := PySem.W.mg_of X G at_draw
    F_number := fun_mk (st := s_number) lk_number co_number ke_number
    b_number := (fun_mk (st := s_number) lk_number co_number ke_number).binds (ps := ["_law_pool_here", "_law_groups"]) fun _ _ _ _ _ _ us hl => match us, hl with | [_, _], _ => rfl
    g_number := PySem.W.mg_of X G at_number
    F_signed := fun_mk (st := s_signed) lk_signed co_signed ke_signed
    b_signed := (fun_mk (st := s_signed) lk_signed co_signed ke_signed).binds (ps := ["_law_pool_here", "_law_groups"]) fun _ _ _ _ _ _ us hl => match us, hl with | [_, _], _ => rfl
    g_signed := PySem.W.mg_of X G at_signed
    F_pair := fun_mk (st := s_pair) lk_pair co_pair ke_pair
    b_pair := (fun_mk (st := s_pair) lk_pair co_pair ke_pair).binds (ps := ["_law_pool_here"]) fun _ _ _ _ _ _ us hl => match us, hl with | [_], _ => rfl
    g_pair := PySem.W.mg_of X G at_pair
    F_whole := fun_mk (st := s_whole) lk_whole co_whole ke_whole
    b_whole := (fun_mk (st := s_whole) lk_whole co_whole ke_whole).binds (ps := ["_law_value"]) fun _ _ _ _ _ _ us hl => match us, hl with | [_], _ => rfl
    g_whole := PySem.W.mg_of X G at_whole
    F_coprime := fun_mk (st := s_coprime) lk_coprime co_coprime ke_coprime
    b_coprime := (fun_mk (st := s_coprime) lk_coprime co_coprime ke_coprime).binds (ps := ["_law_one", "_law_other"]) fun _ _ _ _ _ _ us hl => match us, hl with | [_, _], _ => rfl
    g_coprime := PySem.W.mg_of X G at_coprime
    F_is := fun_mk (st := s_is) lk_is co_is ke_is
    b_is := (fun_mk (st := s_is) lk_is co_is ke_is).binds (ps := ["_law_share", "_law_top", "_law_bottom"]) fun _ _ _ _ _ _ us hl => match us, hl with | [_, _, _], _ => rfl
    g_is := PySem.W.mg_of X G at_is
    F_refused := fun_mk (st := s_refused) lk_refused co_refused ke_refused
    b_refused := (fun_mk (st := s_refused) lk_refused co_refused ke_refused).binds (ps := ["_law_top"]) fun _ _ _ _ _ _ us hl => match us, hl with | [_], _ => rfl
    g_refused := PySem.W.mg_of X G at_refused
    F_alone := fun_mk (st := s_alone) lk_alone co_alone ke_alone
    b_alone := (fun_mk (st := s_alone) lk_alone co_alone ke_alone).binds (ps := ["_law_share", "_law_top", "_law_bottom"]) fun _ _ _ _ _ _ us hl => match us, hl with | [_, _, _], _ => rfl
    g_alone := PySem.W.mg_of X G at_alone
    F_equal := fun_mk (st := s_equal) lk_equal co_equal ke_equal
    b_equal := (fun_mk (st := s_equal) lk_equal co_equal ke_equal).binds (ps := ["_law_one", "_law_other", "_law_due"]) fun _ _ _ _ _ _ us hl => match us, hl with | [_, _, _], _ => rfl
    g_equal := PySem.W.mg_of X G at_equal
    F_law := fun_mk (st := s_law) lk_law co_law ke_law
    b_law := (fun_mk (st := s_law) lk_law co_law ke_law).binds (ps := ["_law_script"]) fun _ _ _ _ _ _ us hl => match us, hl with | [_], _ => rfl
    g_law := PySem.W.mg_of X G at_law
    cl_Share := ⟨pg_Share, hd_Share, po_Share, sa_Share⟩
    mk_Share := ⟨mk_Share, at_Share_init, fn_Share_init, kp_Share⟩
    sf_Share := sf_Share
    k1_Share := k1_Share
    k4_Share := k4_Share
    no_Share_top := no_Share_top
    no_Share_bottom := no_Share_bottom
    kg := kg
    kt := kt
    x_GangError := ⟨⟨⟨_, _, _, _, _, _, _, _, _, _, _, _, _, _, _, xl_GangError, xr_GangError⟩, xsa_GangError, xex_GangError, xty_GangError, xkp_GangError⟩, xin_GangError, tI_GangError, xno_GangError⟩
    xf_GangError := ⟨xga_GangError, xgg_GangError, xex_GangError, xhd_GangError⟩
    xc_GangError := ⟨xga_GangError, xgg_GangError, xex_GangError, xhd_GangError, xk1_GangError, kg, kt, xk4_GangError⟩
    xm_GangError := PySem.W.exm_ref xex_GangError xhd_GangError xty_GangError xem_GangError
    x_BadShare := ⟨⟨⟨_, _, _, _, _, _, _, _, _, _, _, _, _, _, _, xl_BadShare, xr_BadShare⟩, xsa_BadShare, xex_BadShare, xty_BadShare, xkp_BadShare⟩, xin_BadShare, tI_GangError, xno_BadShare⟩
    xf_BadShare := ⟨xga_BadShare, xgg_BadShare, xex_BadShare, xhd_BadShare⟩
    xc_BadShare := ⟨xga_BadShare, xgg_BadShare, xex_BadShare, xhd_BadShare, xk1_BadShare, kg, kt, xk4_BadShare⟩
    xm_BadShare := PySem.W.exm_ref xex_GangError xhd_GangError xty_GangError xem_BadShare
    x_BadAmounts := ⟨⟨⟨_, _, _, _, _, _, _, _, _, _, _, _, _, _, _, xl_BadAmounts, xr_BadAmounts⟩, xsa_BadAmounts, xex_BadAmounts, xty_BadAmounts, xkp_BadAmounts⟩, xin_BadAmounts, tI_GangError, xno_BadAmounts⟩
    xf_BadAmounts := ⟨xga_BadAmounts, xgg_BadAmounts, xex_BadAmounts, xhd_BadAmounts⟩
    xc_BadAmounts := ⟨xga_BadAmounts, xgg_BadAmounts, xex_BadAmounts, xhd_BadAmounts, xk1_BadAmounts, kg, kt, xk4_BadAmounts⟩
    xm_BadAmounts := PySem.W.exm_ref xex_GangError xhd_GangError xty_GangError xem_BadAmounts
    x_BadSpan := ⟨⟨⟨_, _, _, _, _, _, _, _, _, _, _, _, _, _, _, xl_BadSpan, xr_BadSpan⟩, xsa_BadSpan, xex_BadSpan, xty_BadSpan, xkp_BadSpan⟩, xin_BadSpan, tI_GangError, xno_BadSpan⟩
    xf_BadSpan := ⟨xga_BadSpan, xgg_BadSpan, xex_BadSpan, xhd_BadSpan⟩
    xc_BadSpan := ⟨xga_BadSpan, xgg_BadSpan, xex_BadSpan, xhd_BadSpan, xk1_BadSpan, kg, kt, xk4_BadSpan⟩
    xm_BadSpan := PySem.W.exm_ref xex_GangError xhd_GangError xty_GangError xem_BadSpan
    x_Unknown := ⟨⟨⟨_, _, _, _, _, _, _, _, _, _, _, _, _, _, _, xl_Unknown, xr_Unknown⟩, xsa_Unknown, xex_Unknown, xty_Unknown, xkp_Unknown⟩, xin_Unknown, tI_GangError, xno_Unknown⟩
    xf_Unknown := ⟨xga_Unknown, xgg_Unknown, xex_Unknown, xhd_Unknown⟩
    xc_Unknown := ⟨xga_Unknown, xgg_Unknown, xex_Unknown, xhd_Unknown, xk1_Unknown, kg, kt, xk4_Unknown⟩
    xm_Unknown := PySem.W.exm_ref xex_GangError xhd_GangError xty_GangError xem_Unknown
    si_Share := si_Share
    st_int_Share := st_int_Share
    kt_int_Share := kit_tb hd_Share ty_Share st_int_Share
    st_tuple_Share := st_tuple_Share
    kt_tuple_Share := kit_tb hd_Share ty_Share st_tuple_Share
    gcd := PySem.W.mg_of X G gcd
    kt_BadShare_BadShare := kit_sub xhd_BadShare xty_BadShare ss_BadShare su_BadShare_BadShare
    kt_BadShare_ValueError := kit_base (by decide +kernel) su_BadShare_ValueError
    kt_BadShare_BadAmounts := kit_sub xhd_BadAmounts xty_BadAmounts ss_BadAmounts su_BadShare_BadAmounts
    kt_BadShare_BadSpan := kit_sub xhd_BadSpan xty_BadSpan ss_BadSpan su_BadShare_BadSpan
    kt_BadShare_Unknown := kit_sub xhd_Unknown xty_Unknown ss_Unknown su_BadShare_Unknown
  }
  exact ⟨A.d_law, fun s v => .of_eq rfl, fun base _ _ => ok_law (base := base) T⟩
theorem walk {l : PySem.W.OpenLaw} {q : Program} {loose : List Str} {XP : (Str → Option Value) → Heap → Prop} {YP : World → Heap → Prop} {d : DefRec} {K : Params → PySem.W.Frag} (hn : l.most = some 63) (hdf : d.params.defaults = [])
    (hY : ∀ (w : World) (h : Heap), YP w h → (K w.params).In h)
    (F : ∀ (w : World) (mg : Str → Option Value) (fa : Addr) (h : Heap), (K w.params).In h → h.Ns mainGlobals mg → mg d.name = some (.ref fa) →
      ∃ fd : FuncData, (∀ (s : Shared) (u : Value), BindsTo s fd ⟨[u], []⟩ [("_law_script", u)]) ∧ ∀ base : Heap, (K w.params).In base → base.Ns mainGlobals mg → FnOk l.prog w (K w.params) mg base CX0 lawLvl fa fd ["_law_script"] (spLaw (K w.params))) :
    PySem.W.WalkO q loose XP YP l.row.toRowW d [] (fun f vs => PySem.call f vs) :=
  L2.walk_ofB (n := 63) (k := lawLvl) (x := "_law_script") (CX := fun _ => CX0) (sp := fun w => spLaw (K w.params)) hn (by decide) hdf ⟨rfl, by decide, by decide⟩ hY F (fun _ _ a ns hl hb _ hS => ⟨a, ns, rfl, hS, hl, hb, fun _ => rfl⟩) fun _ _ _ _ _ z => z
end LW
open PySem PySem.W PyProof.Rows
set_option maxRecDepth 100000 in
set_option maxHeartbeats 0 in
theorem PySem.Challenge.cw_gangbooks_k00_share_lowest_holds : PySem.Challenge.rw_gangbooks_k00_share_lowest.Holds := by
  w_on; o_law; k_head; (case hw => w_witness2)
  k_fill
  refine LW.walk (l := PySem.Challenge.rw_gangbooks_k00_share_lowest) rfl rfl (fun w h Y => PySem.W.kIn_of Y) ?F
  case F =>
    intro w mg fa h KX G hmg
    refine' LW.all_mk KX G hmg ?nb_ValueError ?nb_abs ?nb_bool ?nb_int ?nb_isinstance ?nb_len ?nb_range ?ag_Share ?ag_GangError ?ag_BadShare ?ag_BadAmounts ?ag_BadSpan ?ag_Unknown ?at_GangError_init ?lk_GangError_init ?co_GangError_init ?ke_GangError_init ?fn_GangError_init ?at_Share_init ?lk_Share_init ?co_Share_init ?ke_Share_init ?dl_Share_init ?fn_Share_init ?p1_Share_sign ?p4_Share_sign ?lk_Share_sign ?co_Share_sign ?ke_Share_sign ?p2_Share_sign ?p3_Share_sign ?at_Share_neg ?lk_Share_neg ?co_Share_neg ?ke_Share_neg ?fn_Share_neg ?at_Share_abs ?lk_Share_abs ?co_Share_abs ?ke_Share_abs ?fn_Share_abs ?at_Share_bool ?lk_Share_bool ?co_Share_bool ?ke_Share_bool ?fn_Share_bool ?at_Share_eq ?lk_Share_eq ?co_Share_eq ?ke_Share_eq ?fn_Share_eq ?at_pool ?lk_pool ?co_pool ?ke_pool ?at_draw ?lk_draw ?co_draw ?ke_draw ?at_number ?lk_number ?co_number ?ke_number ?at_signed ?lk_signed ?co_signed ?ke_signed ?at_pair ?lk_pair ?co_pair ?ke_pair ?at_whole ?lk_whole ?co_whole ?ke_whole ?at_coprime ?lk_coprime ?co_coprime ?ke_coprime ?at_is ?lk_is ?co_is ?ke_is ?at_refused ?lk_refused ?co_refused ?ke_refused ?at_alone ?lk_alone ?co_alone ?ke_alone ?at_equal ?lk_equal ?co_equal ?ke_equal ?at_law ?lk_law ?co_law ?ke_law ?pg_Share ?hd_Share ?po_Share ?sa_Share ?mk_Share ?kp_Share ?sf_Share ?k1_Share ?k4_Share ?no_Share_top ?no_Share_bottom ?kg ?kt ?xl_GangError ?xr_GangError ?xsa_GangError ?xex_GangError ?xty_GangError ?xkp_GangError ?xin_GangError ?xno_GangError ?xga_GangError ?xgg_GangError ?xhd_GangError ?xk1_GangError ?xk4_GangError ?xem_GangError ?xl_BadShare ?xr_BadShare ?xsa_BadShare ?xex_BadShare ?xty_BadShare ?xkp_BadShare ?xin_BadShare ?xno_BadShare ?xga_BadShare ?xgg_BadShare ?xhd_BadShare ?xk1_BadShare ?xk4_BadShare ?xem_BadShare ?xl_BadAmounts ?xr_BadAmounts ?xsa_BadAmounts ?xex_BadAmounts ?xty_BadAmounts ?xkp_BadAmounts ?xin_BadAmounts ?xno_BadAmounts ?xga_BadAmounts ?xgg_BadAmounts ?xhd_BadAmounts ?xk1_BadAmounts ?xk4_BadAmounts ?xem_BadAmounts ?xl_BadSpan ?xr_BadSpan ?xsa_BadSpan ?xex_BadSpan ?xty_BadSpan ?xkp_BadSpan ?xin_BadSpan ?xno_BadSpan ?xga_BadSpan ?xgg_BadSpan ?xhd_BadSpan ?xk1_BadSpan ?xk4_BadSpan ?xem_BadSpan ?xl_Unknown ?xr_Unknown ?xsa_Unknown ?xex_Unknown ?xty_Unknown ?xkp_Unknown ?xin_Unknown ?xno_Unknown ?xga_Unknown ?xgg_Unknown ?xhd_Unknown ?xk1_Unknown ?xk4_Unknown ?xem_Unknown ?tI_GangError ?si_Share ?ty_Share ?st_int_Share ?st_tuple_Share ?gcd ?ss_BadShare ?su_BadShare_BadShare ?su_BadShare_ValueError ?ss_BadAmounts ?su_BadShare_BadAmounts ?ss_BadSpan ?su_BadShare_BadSpan ?ss_Unknown ?su_BadShare_Unknown
    (case nb_ValueError => k_is)
    (case nb_abs => k_is)
    (case nb_bool => k_is)
    (case nb_int => k_is)
    (case nb_isinstance => k_is)
    (case nb_len => k_is)
    (case nb_range => k_is)
    (case ag_Share => k_is)
    (case ag_GangError => k_is)
    (case ag_BadShare => k_is)
    (case ag_BadAmounts => k_is)
    (case ag_BadSpan => k_is)
    (case ag_Unknown => k_is)
    (case at_GangError_init => k_is)
    (case lk_GangError_init => k_is)
    (case co_GangError_init => k_is)
    (case ke_GangError_init => k_is)
    (case fn_GangError_init => k_is)
    (case at_Share_init => k_is)
    (case lk_Share_init => k_is)
    (case co_Share_init => k_is)
    (case ke_Share_init => k_is)
    (case dl_Share_init => k_is)
    (case fn_Share_init => k_is)
    (case p1_Share_sign => k_is)
    (case p4_Share_sign => k_is)
    (case lk_Share_sign => k_is)
    (case co_Share_sign => k_is)
    (case ke_Share_sign => k_is)
    (case p2_Share_sign => k_is)
    (case p3_Share_sign => k_is)
    (case at_Share_neg => k_is)
    (case lk_Share_neg => k_is)
    (case co_Share_neg => k_is)
    (case ke_Share_neg => k_is)
    (case fn_Share_neg => k_is)
    (case at_Share_abs => k_is)
    (case lk_Share_abs => k_is)
    (case co_Share_abs => k_is)
    (case ke_Share_abs => k_is)
    (case fn_Share_abs => k_is)
    (case at_Share_bool => k_is)
    (case lk_Share_bool => k_is)
    (case co_Share_bool => k_is)
    (case ke_Share_bool => k_is)
    (case fn_Share_bool => k_is)
    (case at_Share_eq => k_is)
    (case lk_Share_eq => k_is)
    (case co_Share_eq => k_is)
    (case ke_Share_eq => k_is)
    (case fn_Share_eq => k_is)
    (case at_pool => k_is)
    (case lk_pool => k_is)
    (case co_pool => k_is)
    (case ke_pool => k_is)
    (case at_draw => k_is)
    (case lk_draw => k_is)
    (case co_draw => k_is)
    (case ke_draw => k_is)
    (case at_number => k_is)
    (case lk_number => k_is)
    (case co_number => k_is)
    (case ke_number => k_is)
    (case at_signed => k_is)
    (case lk_signed => k_is)
    (case co_signed => k_is)
    (case ke_signed => k_is)
    (case at_pair => k_is)
    (case lk_pair => k_is)
    (case co_pair => k_is)
    (case ke_pair => k_is)
    (case at_whole => k_is)
    (case lk_whole => k_is)
    (case co_whole => k_is)
    (case ke_whole => k_is)
    (case at_coprime => k_is)
    (case lk_coprime => k_is)
    (case co_coprime => k_is)
    (case ke_coprime => k_is)
    (case at_is => k_is)
    (case lk_is => k_is)
    (case co_is => k_is)
    (case ke_is => k_is)
    (case at_refused => k_is)
    (case lk_refused => k_is)
    (case co_refused => k_is)
    (case ke_refused => k_is)
    (case at_alone => k_is)
    (case lk_alone => k_is)
    (case co_alone => k_is)
    (case ke_alone => k_is)
    (case at_equal => k_is)
    (case lk_equal => k_is)
    (case co_equal => k_is)
    (case ke_equal => k_is)
    (case at_law => k_is)
    (case lk_law => k_is)
    (case co_law => k_is)
    (case ke_law => k_is)
    (case pg_Share => k_is)
    (case hd_Share => k_is)
    (case po_Share => k_is)
    (case sa_Share => k_is)
    (case mk_Share => k_is)
    (case kp_Share => k_is)
    (case sf_Share => k_is)
    (case k1_Share => k_is)
    (case k4_Share => k_is)
    (case no_Share_top => k_is)
    (case no_Share_bottom => k_is)
    (case kg => k_is)
    (case kt => k_is)
    (case xl_GangError => k_is)
    (case xr_GangError => first | rfl | decide +kernel)
    (case xsa_GangError => k_is)
    (case xex_GangError => k_is)
    (case xty_GangError => k_is)
    (case xkp_GangError => k_is)
    (case xin_GangError => k_is)
    (case xno_GangError => k_is)
    (case xga_GangError => k_is)
    (case xgg_GangError => k_is)
    (case xhd_GangError => k_is)
    (case xk1_GangError => k_is)
    (case xk4_GangError => k_is)
    (case xem_GangError => first | rfl | k_is)
    (case xl_BadShare => k_is)
    (case xr_BadShare => first | rfl | decide +kernel)
    (case xsa_BadShare => k_is)
    (case xex_BadShare => k_is)
    (case xty_BadShare => k_is)
    (case xkp_BadShare => k_is)
    (case xin_BadShare => k_is)
    (case xno_BadShare => k_is)
    (case xga_BadShare => k_is)
    (case xgg_BadShare => k_is)
    (case xhd_BadShare => k_is)
    (case xk1_BadShare => k_is)
    (case xk4_BadShare => k_is)
    (case xem_BadShare => first | rfl | k_is)
    (case xl_BadAmounts => k_is)
    (case xr_BadAmounts => first | rfl | decide +kernel)
    (case xsa_BadAmounts => k_is)
    (case xex_BadAmounts => k_is)
    (case xty_BadAmounts => k_is)
    (case xkp_BadAmounts => k_is)
    (case xin_BadAmounts => k_is)
    (case xno_BadAmounts => k_is)
    (case xga_BadAmounts => k_is)
    (case xgg_BadAmounts => k_is)
    (case xhd_BadAmounts => k_is)
    (case xk1_BadAmounts => k_is)
    (case xk4_BadAmounts => k_is)
    (case xem_BadAmounts => first | rfl | k_is)
    (case xl_BadSpan => k_is)
    (case xr_BadSpan => first | rfl | decide +kernel)
    (case xsa_BadSpan => k_is)
    (case xex_BadSpan => k_is)
    (case xty_BadSpan => k_is)
    (case xkp_BadSpan => k_is)
    (case xin_BadSpan => k_is)
    (case xno_BadSpan => k_is)
    (case xga_BadSpan => k_is)
    (case xgg_BadSpan => k_is)
    (case xhd_BadSpan => k_is)
    (case xk1_BadSpan => k_is)
    (case xk4_BadSpan => k_is)
    (case xem_BadSpan => first | rfl | k_is)
    (case xl_Unknown => k_is)
    (case xr_Unknown => first | rfl | decide +kernel)
    (case xsa_Unknown => k_is)
    (case xex_Unknown => k_is)
    (case xty_Unknown => k_is)
    (case xkp_Unknown => k_is)
    (case xin_Unknown => k_is)
    (case xno_Unknown => k_is)
    (case xga_Unknown => k_is)
    (case xgg_Unknown => k_is)
    (case xhd_Unknown => k_is)
    (case xk1_Unknown => k_is)
    (case xk4_Unknown => k_is)
    (case xem_Unknown => first | rfl | k_is)
    (case tI_GangError => k_is)
    (case si_Share => k_is)
    (case ty_Share => k_is)
    (case st_int_Share => k_is)
    (case st_tuple_Share => k_is)
    (case gcd => k_is)
    (case ss_BadShare => first | rfl | k_is)
    (case su_BadShare_BadShare => first | rfl | k_is)
    (case su_BadShare_ValueError => first | rfl | k_is)
    (case ss_BadAmounts => first | rfl | k_is)
    (case su_BadShare_BadAmounts => first | rfl | k_is)
    (case ss_BadSpan => first | rfl | k_is)
    (case su_BadShare_BadSpan => first | rfl | k_is)
    (case ss_Unknown => first | rfl | k_is)
    (case su_BadShare_Unknown => first | rfl | k_is)
