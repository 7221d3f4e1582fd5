import PyProof.Rows.All
import Wide.All
import OpenK.AllK
import Wide.FinOn
import PyProof.EqAt
import PyProof.EqKinds
import PyProof.TupleCall
import HandS.Base
import HandS.Call
import HandS.List
import HandS.Exc
import HandS.IsInst
import HandS.ExcOwn
import HandS.ExcInit
import HandS.ExcField
import HandS.ExcIs
import HandS.TryOnly
import HandS.CallSlots
import HandS.Words
import HandS.WordsExc
import KE.KExcIs
import HandS.Sort
import PyProof.Rows.RuleN_abs
import HandS.Comp
import HandS.Conv
import HandS.EndBits
import HandS.Gcd
import HandS.Property
import HandS.Defaults
import HandS.Wide
import PySem.Challenge.RW_gangbooks_k01_share_sums_products
set_option Elab.async false
set_option linter.all false
set_option maxRecDepth 100000
set_option maxHeartbeats 4000000
/-! own operators over the layer -/
namespace L2
open PySem PySem.Spec PyProof.Rows
theorem cmpBack_of {Q : Value → Shared → Prop} {v : V} {u : Value} {s : Shared} (r : RelV v u) (q : Q u s) : PySem.W.CmpBack Q u s := by
  cases v with
  | non => cases (show u = Value.none from r); exact q
  | bl b => cases (show u = Value.bool b from r); exact q
  | int i => obtain ⟨t, e⟩ := (show ∃ t, u = Value.int i t from r); cases e; exact q
  | str x => obtain ⟨t, e⟩ := (show ∃ t, u = Value.str x t from r); cases e; exact q
  | byt x => obtain ⟨t, e⟩ := (show ∃ t, u = Value.bytes x t from r); cases e; exact q
  | flt x => obtain ⟨t, e⟩ := (show ∃ t, u = Value.float x t from r); cases e; exact q
  | ref a => cases (show u = Value.ref a from r); exact q
  | ty n => cases (show u = Value.type n from r); exact q
section
variable {X : Cx} {pins : List (Addr × Obj)} {σ : St} {H : Hp} {s : Shared} {a C dx : Addr} {fs : List (Str × V)}
theorem Inv.instAt (I : Inv X pins σ H s) (e : H a = some (.ins C dx fs)) : ∃ od, PySem.W.InstAt s.heap a (PySem.W.instObj C dx) C (some od) := by
  obtain ⟨mA, J, _⟩ := ins_get I.hok e
  obtain ⟨od, h, _⟩ := J.look
  exact ⟨od, h⟩
end
section
variable {X : Cx} {CX : CXT} {k : Nat} {f C : Addr} {fd : FuncData} {ps : List Str} {sp : Sp} {dvs : List V} {ds : List Value} {E : XK}
/-- the callee runs, within some units of the C stack -/
theorem run_fnA {A : Around} {pins : List (Addr × Obj)} {σ : St} {H : Hp} {s : Shared} {Q : VK} {us : List Value} {vs : List V} (hfA : A.frames = X.A.frames) (F : FnOk X.prog X.w X.K X.mg X.base CX k f fd ps sp) (hr : Room k A) (hb : Binds X.K fd ps ds) (hd : Vals dvs ds) (hx : Passes CX X E)
    (I : Inv X pins σ H s) (r : Vals vs us) (h : sp (vs ++ dvs) H Q E) : wpAny (model X.prog X.w) A (call (.ref f) us) (EP X pins σ Q) X.xe s := by
  have r2 : Vals (vs ++ dvs) (us ++ ds) := r.append hd
  have hl : (us ++ ds).length = ps.length := by rw [← r2.length]; exact F.len _ _ _ _ h
  have e0 := I.env0
  have e1 : Env0 X.prog X.w X.K X.mg X.base A X.stack s H := ⟨hfA.trans e0.frames, e0.mod, e0.bs, e0.bsz, e0.funs, e0.frf, e0.hok, e0.bare⟩
  refine wpAny_call (codeAny_mono (F.run A X.stack s H ⟨us, []⟩ (us ++ ds) (vs ++ dvs) Q E hr e1 (hb s us I.kIn hl) r2 h) fun r s' hq => ?_)
  cases r with
  | error e => exact hx pins σ H s e s' I hq
  | ok fl =>
    cases fl with
    | ret u => exact I.after hq
    | next => exact False.elim hq
    | brk => exact False.elim hq
    | cont => exact False.elim hq
/-- x op y, both of the class at C -/
def rOwn (C : Addr) (sp : Sp) (E : XK) : R2 := fun x y H Q => ∃ a dx fs b dy gs, x = .ref a ∧ H a = some (.ins C dx fs) ∧ y = .ref b ∧ H b = some (.ins C dy gs) ∧ sp [x, y] H Q E
theorem op_own {op : Operator} (hm : Meth X.K C (PySem.dunder op.info.2) f) (hc : PySem.W.selfFirst X.K C = true) (F : FnOk X.prog X.w X.K X.mg X.base CX k f fd ps sp) (hr : Room k X.A) (hb : Binds X.K fd ps []) (hx : Passes CX X E) :
    OpR X (binaryOp op) (rOwn C sp E) := by
  intro pins s σ H x y v u Q I rx ry h
  obtain ⟨a, dx, fs, b, dy, gs, rfl, ea, rfl, eb, h⟩ := h
  obtain rfl : v = Value.ref a := rx
  obtain rfl : u = Value.ref b := ry
  obtain ⟨od, J⟩ := I.instAt ea
  obtain ⟨od', J'⟩ := I.instAt eb
  obtain ⟨m, fr⟩ := I.fr
  refine PySem.W.binop_K fr I.ok.mod.kin J J'.type hc hm.at_ hm.fn (thn (run_fnA (us := [.ref a, .ref b]) (vs := [.ref a, .ref b]) (dvs := []) rfl F hr hb .nil hx I (.cons rfl (.cons rfl .nil)) h) fun w s' q => ?_)
  obtain ⟨v', H', I', rv, q⟩ := q
  exact cmpBack_of rv ⟨v', H', I', rv, q⟩
/-- x op i, an int on the right -/
def rOwnI (C : Addr) (sp : Sp) (E : XK) : R2 := fun x y H Q => ∃ a dx fs i, x = .ref a ∧ H a = some (.ins C dx fs) ∧ y = .int i ∧ sp [x, y] H Q E
structure OwnI (K : PySem.W.Frag) (C : Addr) (op : Operator) : Prop where
  r : ∃ rc, PySem.W.findIn K (.ref C) (dunderR op.info.2) = some rc ∧ (rc = none ∨ ∃ g : Addr, rc = some (.ref g))
  i1 : ∃ fo, PySem.W.findIn K (.type "int") (PySem.dunder op.info.2) = some fo
  i2 : ∃ ro, PySem.W.findIn K (.type "int") (dunderR op.info.2) = some ro
  sub : PySem.W.subIn K (.type "int") (.ref C) = some false
theorem op_ownI {op : Operator} (hm : Meth X.K C (PySem.dunder op.info.2) f) (hc : PySem.W.selfFirst X.K C = true) (hi : OwnI X.K C op) (F : FnOk X.prog X.w X.K X.mg X.base CX k f fd ps sp) (hr : Room k X.A) (hb : Binds X.K fd ps []) (hx : Passes CX X E) :
    OpR X (binaryOp op) (rOwnI C sp E) := by
  intro pins s σ H x y v u Q I rx ry h
  obtain ⟨a, dx, fs, i, rfl, ea, rfl, h⟩ := h
  obtain rfl : v = Value.ref a := rx
  obtain ⟨t, rfl⟩ := (show ∃ t, u = Value.int i t from ry)
  obtain ⟨od, J⟩ := I.instAt ea
  obtain ⟨m, fr⟩ := I.fr
  obtain ⟨⟨rc, h1, h2⟩, ⟨fo, h3⟩, ⟨ro, h4⟩, h5⟩ := hi
  refine PySem.W.ksp_binT (T := "int") fr I.ok.mod.kin J rfl hc hm.at_ hm.fn h1 h2 h3 h4 h5 (thn (run_fnA (us := [.ref a, .int i t]) (vs := [.ref a, .int i]) (dvs := []) rfl F hr hb .nil hx I (.cons rfl (.cons ⟨t, rfl⟩ .nil)) h) fun w s' q => ?_)
  obtain ⟨v', H', I', rv, q⟩ := q
  exact cmpBack_of rv ⟨v', H', I', rv, q⟩
/-- -x -/
def rOwn1 (C : Addr) (sp : Sp) (E : XK) : V → Hp → VK → Prop := fun x H Q => ∃ a dx fs, x = .ref a ∧ H a = some (.ins C dx fs) ∧ sp [x] H Q E
theorem un_own (hm : Meth X.K C "__neg__" f) (F : FnOk X.prog X.w X.K X.mg X.base CX k f fd ps sp) (hr : Room k X.A) (hb : Binds X.K fd ps []) (hx : Passes CX X E) :
    UnR X (unaryOp .USub) (rOwn1 C sp E) := by
  intro pins s σ H x v Q I rx h
  obtain ⟨a, dx, fs, rfl, ea, h⟩ := h
  obtain rfl : v = Value.ref a := rx
  obtain ⟨od, J⟩ := I.instAt ea
  obtain ⟨m, fr⟩ := I.fr
  exact PySem.W.ksp_neg fr I.ok.mod.kin J hm.at_ hm.fn (run_fnA (us := [.ref a]) (vs := [.ref a]) (dvs := []) rfl F hr hb .nil hx I (.cons rfl .nil) h)
/-- truth by an own __bool__ -/
def rOwnT (C : Addr) (sp : Sp) (E : XK) : V → Hp → (Bool → Hp → Prop) → Prop := fun x H Q => ∃ a dx fs, x = .ref a ∧ H a = some (.ins C dx fs) ∧ sp [x] H (fun v H' => ∃ b, v = .bl b ∧ Q b H') E
theorem tru_ownA {A : Around} (hfA : A.frames = X.A.frames) (hm : Meth X.K C "__bool__" f) (F : FnOk X.prog X.w X.K X.mg X.base CX k f fd ps sp) (hr : Room k A) (hb : Binds X.K fd ps []) (hx : Passes CX X E) {pins : List (Addr × Obj)} {s : Shared} {σ : St} {H : Hp} {x : V} {v : Value} {Q : Bool → Hp → Prop}
    (I : Inv X pins σ H s) (rx : RelV x v) (h : rOwnT C sp E x H Q) : wpAny (model X.prog X.w) A (truthy v) (TP X pins σ Q) X.xe s := by
  obtain ⟨a, dx, fs, rfl, ea, h⟩ := h
  obtain rfl : v = Value.ref a := rx
  obtain ⟨od, J⟩ := I.instAt ea
  obtain ⟨m, fr⟩ := I.fr
  refine PySem.W.truthy_K fr I.ok.mod.kin J hm.at_ hm.fn (thn (run_fnA (us := [.ref a]) (vs := [.ref a]) (dvs := []) hfA F hr hb .nil hx I (.cons rfl .nil) h) fun w s' q => ?_)
  obtain ⟨v', H', I', rv, b, rfl, q⟩ := q
  obtain rfl : w = Value.bool b := rv
  exact ⟨H', I', q⟩
theorem tru_own (hm : Meth X.K C "__bool__" f) (F : FnOk X.prog X.w X.K X.mg X.base CX k f fd ps sp) (hr : Room k X.A) (hb : Binds X.K fd ps []) (hx : Passes CX X E) : TruR X (rOwnT C sp E) :=
  fun _ _ _ _ _ _ _ I rx h => tru_ownA rfl hm F hr hb hx I rx h
/-- v in x, by an own __contains__ that hands back a bool -/
def rOwnIn (C : Addr) (sp : Sp) (E : XK) : R2 := fun y x H Q => ∃ a dx fs, x = .ref a ∧ H a = some (.ins C dx fs) ∧ sp [x, y] H (fun v H' => ∃ b, v = .bl b ∧ Q (.bl b) H') E
theorem op_inOwn (hm : Meth X.K C "__contains__" f) (F : FnOk X.prog X.w X.K X.mg X.base CX k f fd ps sp) (hr : Room k X.A) (hb : Binds X.K fd ps []) (hx : Passes CX X E) : OpR X (compareOp .In) (rOwnIn C sp E) := by
  intro pins s σ H y x v u Q I ry rx h
  obtain ⟨a, dx, fs, rfl, ea, h⟩ := h
  obtain rfl : u = Value.ref a := rx
  obtain ⟨od, J⟩ := I.instAt ea
  obtain ⟨m, fr⟩ := I.fr
  refine PySem.W.in_K fr I.ok.mod.kin J hm.at_ hm.fn (thn (run_fnA (us := [.ref a, v]) (vs := [.ref a, y]) (dvs := []) rfl F hr hb .nil hx I (.cons rfl (.cons ry .nil)) h) fun w s' q => ?_)
  obtain ⟨v', H', I', rv, b, rfl, q⟩ := q
  obtain rfl : w = Value.bool b := rv
  exact wpAny_truthy_bool ⟨.bl b, H', I', rfl, q⟩
/-- len(x) by an own __len__ -/
def rOwnLen (C : Addr) (sp : Sp) (E : XK) : List V → Hp → VK → Prop := fun xs H Q => ∃ a dx fs, xs = [.ref a] ∧ H a = some (.ins C dx fs) ∧ sp [.ref a] H (fun v H' => ∃ n : Int, v = .int n ∧ 0 ≤ n ∧ n < 2 ^ 63 ∧ Q (.int n) H') E
theorem call_lenOwn (hm : Meth X.K C "__len__" f) (F : FnOk X.prog X.w X.K X.mg X.base CX k f fd ps sp) (hr : Room (k + 1) X.A) (hb : Binds X.K fd ps []) (hx : Passes CX X E) : CallR X (.builtin "len") (rOwnLen C sp E) := by
  intro pins s σ H xs us Q I r h
  obtain ⟨a, dx, fs, rfl, ea, h⟩ := h
  obtain ⟨u, rfl, ru⟩ := vals1 r
  obtain rfl : u = Value.ref a := ru
  obtain ⟨od, J⟩ := I.instAt ea
  obtain ⟨m, fr⟩ := I.fr
  refine PySem.W.len_K fr I.ok.mod.kin J hm.at_ hm.fn (thn (run_fnA (A := X.A.in1) (us := [.ref a]) (vs := [.ref a]) (dvs := []) rfl F hr.in1 hb .nil hx I (.cons rfl .nil) h) fun w s' q => ?_)
  obtain ⟨v', H', I', rv, n, rfl, h0, h1, q⟩ := q
  obtain ⟨t, rfl⟩ := (show ∃ t, w = Value.int n t from rv)
  exact ⟨⟨h0, h1⟩, .int n, H', I'.tok _, ⟨_, rfl⟩, q⟩
end
end L2

namespace L2
open PySem PySem.Spec PyProof.Rows
section
variable {X : Cx} {CX : CXT} {k : Nat} {f C : Addr} {fd : FuncData} {ps : List Str} {sp : Sp} {E : XK}
theorem meets_bool_any {prog : Program} {w : World} (x : Value) : MeetsIn prog w (Builtin.«bool.__new__» ⟨[.type "bool", x], []⟩) (fun A R s => wpAny (model prog w) A.in1 (truthy x) (fun b s' => R (.ok (.ret (.bool b))) s') (fun e s' => R (.error e) s') s) :=
  MeetsIn.of_wp fun A R s hs => by
    have f1 := F.conv_sub_bool
    obtain ⟨hp, g, d, tk, os⟩ := s
    repeat (any_goals (first | assumption | (with_reducible refine wpAny_bind (wpAny_mono hs (fun b s' q => ?_) fun _ _ z => z)) | (with_reducible refine wpAny_mono hs (fun b s' q => ?_) fun _ _ z => z) | wp_step))
    all_goals first | exact ⟨_, rfl, q⟩ | exact q | skip
/-- bool(x), by an own __bool__ -/
def rBoolOwn (C : Addr) (sp : Sp) (E : XK) : List V → Hp → VK → Prop := fun xs H Q => ∃ x, xs = [x] ∧ rOwnT C sp E x H fun b H' => Q (.bl b) H'
theorem call_boolOwn (hm : Meth X.K C "__bool__" f) (Fk : FnOk X.prog X.w X.K X.mg X.base CX k f fd ps sp) (hr : Room (k + 2) X.A) (hb : Binds X.K fd ps []) (hx : Passes CX X E) : CallR X (.type "bool") (rBoolOwn C sp E) := by
  intro pins s σ H xs us Q I r h
  obtain ⟨x, rfl, h⟩ := h
  obtain ⟨u, rfl, ru⟩ := vals1 r
  refine callType_newIn PySem.F.called_bool PySem.F.newNe_bool (PySem.F.typeCall_bool_1 u) (PySem.F.newCall_bool_1 u) (fun obj => PySem.F.args_object_init_2 obj u) PySem.F.entry_bool_new (meets_bool_any u) ?_
  refine thn (tru_ownA (A := X.A.in1.in1) rfl hm Fk hr.in1.in1 hb hx I ru h) fun b s' ⟨H', I', q⟩ => ?_
  exact ⟨rfl, .bl b, H', I', rfl, q⟩
end
end L2
namespace L2
open PySem PySem.Spec PyProof.Rows
section
variable {X : Cx} {CX : CXT} {k : Nat} {f C : Addr} {fd : FuncData} {ps : List Str} {sp : Sp} {E : XK}
/-- x == y by an own __eq__, y of the class or of a kind that is no subclass of it -/
def rEqOwn (K : PySem.W.Frag) (C : Addr) (sp : Sp) (E : XK) : R2 := fun x y H Q => ∃ a dx fs t, x = .ref a ∧ H a = some (.ins C dx fs) ∧ TyX K H y t ∧ PySem.W.notFirst K C t = true ∧ sp [x, y] H Q E
theorem op_eqOwn (hm : Meth X.K C "__eq__" f) (F : FnOk X.prog X.w X.K X.mg X.base CX k f fd ps sp) (hr : Room k X.A) (hb : Binds X.K fd ps []) (hx : Passes CX X E) : OpR X (compareOp .Eq) (rEqOwn X.K C sp E) := by
  intro pins s σ H x y v u Q I rx ry h
  obtain ⟨a, dx, fs, t, rfl, ea, ty, hn, h⟩ := h
  obtain rfl : v = Value.ref a := rx
  obtain ⟨od, J⟩ := I.instAt ea
  obtain ⟨m, fr⟩ := I.fr
  obtain ⟨P, Z, p, _⟩ := kit_of I ry ty
  have hb' := Z.ty (model X.prog X.w) _ I.kIn p
  show wpAny _ _ (richCompare .Eq (.ref a) u) _ _ _
  refine PySem.W.cmp_K (op := .Eq) hr.units0 fr I.ok.mod.kin J hb' hn hm.at_ hm.fn (thn (run_fnA (us := [.ref a, u]) (vs := [.ref a, y]) (dvs := []) rfl F hr hb .nil hx I (.cons rfl (.cons ry .nil)) h) fun w s' q => ?_)
  obtain ⟨v', H', I', rv, q⟩ := q
  exact cmpBack_of rv ⟨v', H', I', rv, q⟩
end
end L2
namespace PySem.W
open PySem PySem.Spec PySem.Calls PyProof.Rows
section
variable {prog : Program} {w : World} {A : Around} {E : Value → Shared → Prop} {s : Shared} {K : Frag} {x D : Addr} {ox : Obj}
theorem gb_kitx_exc {od : Option Obj} (hga : findIn K (.ref D) "__getattribute__" = some (some (.builtin "BaseException.__getattribute__"))) (hgt : findIn K (.ref D) "__getattr__" = some none) (hsub : subIn K (.ref D) (.type "BaseException") = some true) (hdct : hasDictIn K D = true) (ha : findIn K (.ref D) "__class__" = some (some (.builtin "object.__class__")))
    (hn : specialIn K (.builtin "object.__class__") "__get__" = some (some (.builtin "getset_descriptor.__get__"))) (htk : takesIn K (.builtin "object.__class__") = some true) (hm : mroIn K D (.type "object") = some true) :
    KitX K (.ref x) (.ref D) (fun h => InstAt h x ox D od) where
  ty := fun _ _ _ I => I.type
  it := fun _ _ X _ => by
    obtain ⟨cdD, hcD, _⟩ := any_some hdct
    unfold clsIn at hcD
    split at hcD
    · rename_i c' d' cd' sl' ho
      intro A' Q' E' s' k q
      unfold isType loadHead
      exact wpAny_bind (wpAny_loadPart (k _ _ (X _ _ ho)) (wpAny_pure q))
    · cases hcD
  ne := fun h tp dd its n sl X htp => by
    obtain ⟨cdD, hcD, _⟩ := any_some hdct
    refine Bool.eq_false_iff.mpr fun q => ?_
    have e : D = tp := Value.ref.inj (beq_iff_eq.mp q)
    subst e
    unfold clsIn at hcD
    split at hcD
    · rename_i c' d' cd' sl' ho
      have z := (X _ _ ho).symm.trans htp
      cases z
    · cases hcD
  ca := fun X I k => kx_classE X I hga hgt hsub (findObj_dataE (by obtain ⟨cd, hc, _⟩ := any_some hdct; rw [hc]; rfl) ha hn htk) hm k
end
end PySem.W
namespace L2
open PySem PySem.Spec PyProof.Rows
/-- isinstance(e, c), e the exception that the suite holds, with its own dict -/
def rIsX (K : PySem.W.Frag) (a : Addr) (cls : Value) (d : Option Addr) : List V → Hp → VK → Prop := fun xs H Q => ∃ (c : V) (cv : Value) (b : Bool) (D dd : Addr) (fs : List (Str × V)), xs = [.ref a, c] ∧ (∀ u, RelV c u → u = cv) ∧ cls = .ref D ∧ ExcC K D ∧ d = some dd ∧ H dd = some (.xd fs) ∧ PySem.W.kitOne K (.ref D) cv = some b ∧ Q (.bl b) H
theorem instX {X : Cx} {pins : List (Addr × Obj)} {σ : St} {H : Hp} {s : Shared} {a D dd : Addr} {oe : Obj} {pn : List (Addr × Obj)} {fs : List (Str × V)} (I : Inv (X.suite a ((a, oe) :: pn)) pins σ H s) (hz : Zc (.ref D) (some dd) oe) (hf : ∃ vs, oe.data = .fields vs) (he : H dd = some (.xd fs)) : ∃ od, PySem.W.InstAt s.heap a oe D (some od) := by
  obtain ⟨hget, _⟩ := I.pin (a, oe) (List.mem_append.mpr (.inl List.mem_cons_self))
  obtain ⟨vs, hv⟩ := hf
  obtain ⟨mA, ⟨od, es, ep, e1, e2, e3⟩, r⟩ := (show ObjOk X.prog X.w H s.heap dd (.xd fs) from I.hok dd _ he)
  exact ⟨od, hget, hz.1, by unfold PySem.W.notCls; rw [hv] <;> rfl, by rw [hz.2]; exact e1⟩
theorem call_isX {X : Cx} {a : Addr} {cls : Value} {d : Option Addr} {oe : Obj} {pn : List (Addr × Obj)} (hz : Zc cls d oe) (hf : ∃ vs, oe.data = .fields vs) : CallR (X.suite a ((a, oe) :: pn)) (.builtin "isinstance") (rIsX X.K a cls d) := by
  intro pins s σ H xs us Q I r h
  obtain ⟨c, cv, b, D, dd, fs, rfl, hcv, rfl, C, rfl, hd, e, q⟩ := h
  obtain ⟨u1, u2, rfl, rx, rt⟩ := vals2 r
  cases rx
  have ec := hcv _ rt
  subst ec
  obtain ⟨od, J⟩ := instX I hz hf hd
  exact PySem.W.kia_one (PySem.W.gb_kitx_exc C.hg C.hk C.hs C.hd C.ha C.hn C.ht C.hm) I.kIn J e (fun z => nomatch z) fun tk => ⟨.bl b, H, I.kept (t' := tk) fun _ _ z => z, rfl, q⟩
/-- isinstance(e, (c1, c2, ..)) -/
def rIsXT (K : PySem.W.Frag) (a : Addr) (cls : Value) (d : Option Addr) : List V → Hp → VK → Prop := fun xs H Q => ∃ (tp : Addr) (cs : List V) (us : List Value) (b : Bool) (D dd : Addr) (fs : List (Str × V)), xs = [.ref a, .ref tp] ∧ H tp = some (.tup cs) ∧ Paired ClsV cs us ∧ cls = .ref D ∧ ExcC K D ∧ d = some dd ∧ H dd = some (.xd fs) ∧ PySem.W.kitAny K (.ref D) us = some b ∧ Q (.bl b) H
theorem call_isXT {X : Cx} {a : Addr} {cls : Value} {d : Option Addr} {oe : Obj} {pn : List (Addr × Obj)} (hz : Zc cls d oe) (hf : ∃ vs, oe.data = .fields vs) : CallR (X.suite a ((a, oe) :: pn)) (.builtin "isinstance") (rIsXT X.K a cls d) := by
  intro pins s σ H xs us Q I r h
  obtain ⟨tp, cs, ws, b, D, dd, fs, rfl, hT, k, rfl, C, rfl, hd, e, q⟩ := h
  obtain ⟨u1, u2, rfl, rx, rt⟩ := vals2 r
  cases rx
  cases (show u2 = Value.ref tp from rt)
  obtain ⟨od, J⟩ := instX I hz hf hd
  obtain ⟨_, its, rv, o, h1, h2, n, h3⟩ := (show ObjOk X.prog X.w H s.heap tp (.tup cs) from I.hok tp _ hT)
  have e3 := ClsV.all k rv
  subst e3
  obtain ⟨oc, od, dt, sl⟩ := o
  simp only at h2 h3
  subst h2 h3
  exact PySem.W.kia_tup (PySem.W.gb_kitx_exc C.hg C.hk C.hs C.hd C.ha C.hn C.ht C.hm) I.kIn J h1 e (fun z => nomatch z) fun tk => ⟨.bl b, H, I.kept (t' := tk) fun _ _ z => z, rfl, q⟩
theorem exc_heap {H : Hp} {a d : Addr} {o1 o2 o3 u : HO} (h : H a = none) : upd (del (upd (upd (upd H a o1) d o2) a o3) a) d u = upd H d u := by
  funext b
  by_cases hd : b = d
  · subst hd; rw [upd_same, upd_same]
  · rw [upd_ne hd, upd_ne hd]
    by_cases ha : b = a
    · subst ha; rw [del_same, h]
    · rw [del_ne ha, upd_ne ha, upd_ne hd, upd_ne ha]
/-- what the classes of errors are, over one base with __init__(self, subject) -/
structure GExc (K : PySem.W.Frag) (C fI : Addr) : Prop where
  oex : OexC K C
  iC : PySem.W.findIn K (.ref C) "__init__" = some (some (.ref fI))
  tI : PySem.W.typeIn K (.ref fI) = some (.type "function")
  noS : PySem.W.findIn K (.ref C) "subject" = some none
/-- __init__(self, subject): self.subject = subject -/
def spGI (K : PySem.W.Frag) : Sp := fun vs H Q _ => ∃ (a C : Addr) (v : V), vs = [.ref a, v] ∧ OexC K C ∧ PySem.W.findIn K (.ref C) "subject" = some none ∧ H a = some (exo a C none) ∧
  ∀ dx, H dx = none → dx ≠ a → Q .non (upd (upd H dx (exd dx [(("subject" : Str), v)])) a (exo a C (some dx)))
/-- raise X(e): what it wants of e's value and the heap behind it -/
def RaiseG (K : PySem.W.Frag) (C : Addr) (W : WX) (σ : St) (v : V) (H1 : Hp) : Prop := ([v] : List V).length ≤ 1000 ∧ ∀ a, H1 a = none → spGI K (.ref a :: ([v] ++ [])) (upd H1 a (exo a C none))
  (fun v' H2 => v' = .non ∧ ∃ (d : Addr) (fs : List (Str × V)), H2 a = some (exo a C (some d)) ∧ H2 d = some (exd d fs) ∧ H1 d = none ∧ W (.ref C) (some d) σ (upd (del H2 a) d (.xd fs))) (fun _ _ _ => False)
theorem raiseG_in {K : PySem.W.Frag} {C fI : Addr} {W : WX} {σ : St} {v : V} {H1 : Hp} (T : GExc K C fI) (h : ∀ d, H1 d = none → W (.ref C) (some d) σ (upd H1 d (.xd [(("subject" : Str), v)]))) : RaiseG K C W σ v H1 := by
  refine ⟨by show 1 ≤ 1000; decide, fun a ha => ⟨a, C, v, rfl, T.oex, T.noS, upd_same, fun dx hdx hne => ⟨rfl, dx, [(("subject" : Str), v)], upd_same, ?_, ?_, ?_⟩⟩⟩
  · rw [upd_ne hne, upd_same]
  · rw [upd_ne hne] at hdx; exact hdx
  · rw [exc_heap ha]
    rw [upd_ne hne] at hdx
    exact h dx hdx
def tRaiseG (K : PySem.W.Frag) (C : Addr) (W : WX) (te : TE) : TS := fun _ σ H => te σ H fun v H1 => RaiseG K C W σ v H1
theorem ps_raiseG {X : Cx} {x : Str} {C fI : Addr} {k : Nat} {fd : FuncData} {ps : List Str} {W : WX} {e : Expr} {te : TE} {p pos pos2 : Pos} (hc : X.calm = true) (T : GExc X.K C fI)
    (F1 : FnOk X.prog X.w X.K X.mg X.base CX0 k fI fd ps (spGI X.K)) (hr : Room (k + 1) X.A) (hb : Binds X.K fd ps []) (hg : Gl X x) (hm : X.mg x = some (.ref C)) (tk : Takes X W) (ha : PE X e te)
    (hdb : (x == ("__debug__" : Str)) = false := by decide) (he : starEach [e] X.env = (false, eval e X.env) :: starEach [] X.env := by rfl) (hpl : (backTo pos (starEach [] X.env)).any (·.1) = false := by rfl) :
    PS X (.Raise (some (.Call (.Name x p) [e] [] pos)) none pos2) (tRaiseG X.K C W te) :=
  ps_raise (pos := pos2) hc tk (pmk_oex (p := p) (pos := pos) (dvs := []) T.oex T.iC T.tI F1 hr hb .nil (fun _ _ _ _ _ _ _ h => h.elim) hg hm (pa_cons ha pa_nil he) hdb he hpl)
/-- C(e, ..) of an own class in a try's body -/
def tMakeS (C : Addr) (sp : Sp) (E : St → XK) (t : TA) : TE := fun σ H Q => t σ H fun vs H1 => ∀ x dx, H1 x = none → H1 dx = none → dx ≠ x →
  sp (.ref x :: vs) (upd (upd H1 dx (.own x)) x (.ins C dx [])) (fun v H2 => v = .non ∧ Q (.ref x) H2) (E σ)
section
variable {X : Cx} {CX : CXT} {k : Nat} {f C : Addr} {fd : FuncData} {ps : List Str} {sp : Sp} {E : St → XK} {x : Str} {p pos : Pos} {e : Expr} {es : List Expr} {t : TA} {ta tb : TE}
theorem run_makeS {pins : List (Addr × Obj)} {σ : St} {H : Hp} {s : Shared} {Q : VK} {us : List Value} {vs : List V} (M : Mk X.K C f) (F : FnOk X.prog X.w X.K X.mg X.base CX k f fd ps sp) (hr : Room (k + 1) X.A) (hb : Binds X.K fd ps [])
    (hx : PassesAt CX X σ (E σ)) (I : Inv X pins σ H s) (r : Vals vs us)
    (h : ∀ x dx, H x = none → H dx = none → dx ≠ x → sp (.ref x :: vs) (upd (upd H dx (.own x)) x (.ins C dx [])) (fun v H2 => v = .non ∧ Q (.ref x) H2) (E σ)) :
    wpAny (model X.prog X.w) X.A (call (.ref C) us) (EP X pins σ Q) X.xe s := by
  have hq := h (s.heap.objs.size + 1) s.heap.objs.size (I.hok.fresh (Nat.le_succ _)) (I.hok.fresh (Nat.le_refl _)) (Nat.ne_of_lt (Nat.lt_succ_self _))
  have I2 := Inv.made (C := C) I
  have r2 : Vals (V.ref (s.heap.objs.size + 1) :: vs) (Value.ref (s.heap.objs.size + 1) :: us) := .cons rfl r
  have hl : (Value.ref (s.heap.objs.size + 1) :: us).length = ps.length := by
    have e := r2.length
    rw [F.len _ _ _ _ hq] at e
    exact e.symm
  have hb' := hb
  refine wpAny_call (make_map (f := f) I.kIn M.makes M.init (beq_iff_eq.mp M.fn) (codeAny_mono (F.run _ X.stack _ _ ⟨Value.ref (s.heap.objs.size + 1) :: us, []⟩ (Value.ref (s.heap.objs.size + 1) :: us) _ _ (E σ) (hr.make C us [])
    (I2.env0.make C us []) (by have z := hb _ (Value.ref (s.heap.objs.size + 1) :: us) I2.kIn (by rw [List.append_nil]; exact hl); rw [List.append_nil] at z; exact z) r2 hq) fun r s' hq' => ?_))
  cases r with
  | error e => exact hx pins _ _ e s' I2 hq'
  | ok fl =>
    cases fl with
    | ret u =>
      obtain ⟨v, H', I3, rv, ev, q3⟩ := I2.after hq'
      subst ev
      exact ⟨rv, ⟨V.ref (s.heap.objs.size + 1), H', I3, rfl, q3⟩⟩
    | next => exact False.elim hq'
    | brk => exact False.elim hq'
    | cont => exact False.elim hq'
theorem pe_makeS (M : Mk X.K C f) (F : FnOk X.prog X.w X.K X.mg X.base CX k f fd ps sp) (hr : Room (k + 1) X.A) (hg : Gl X x) (hm : X.mg x = some (.ref C)) (hb : Binds X.K fd ps []) (hx : ∀ σ, PassesAt CX X σ (E σ))
    (ha : PA X (e :: es) t) (hdb : (x == ("__debug__" : Str)) = false := by decide) (he : starEach (e :: es) X.env = (false, eval e X.env) :: starEach es X.env := by rfl) (hpl : (backTo pos (starEach es X.env)).any (·.1) = false := by rfl) :
    PE X (.Call (.Name x p) (e :: es) [] pos) (tMakeS C sp E t) := by
  refine ⟨fun pins s σ H Q I h => ?_⟩
  refine wpAny_Call_Name_kw (ld_glob I hg hm ?_ hdb)
  refine PySem.W.callWith_K (h₀ := X.base) I.ok.mod.kin M.kp (thn (ha.run pos pins s σ H _ I h) fun us s1 ⟨vs, H1, I1, r, q⟩ => ⟨I1.kIn, ?_⟩) he hpl
  exact run_makeS M F hr hb (hx σ) I1 r q
theorem run_fnS2 {pins : List (Addr × Obj)} {σ : St} {H : Hp} {s : Shared} {Q : VK} {us : List Value} {vs : List V} (F : FnOk X.prog X.w X.K X.mg X.base CX k f fd ps sp) (hr : Room k X.A) (hb : Binds X.K fd ps []) (hx : PassesAt CX X σ (E σ))
    (I : Inv X pins σ H s) (r : Vals vs us) (h : sp vs H Q (E σ)) : wpAny (model X.prog X.w) X.A (call (.ref f) us) (EP X pins σ Q) X.xe s :=
  run_fnSD (dvs := []) (ds := []) F hr hb .nil hx I r (by rw [List.append_nil]; exact h)
/-- x op y in a try's body: y of the class, or an int -/
def tOpS (C : Addr) (sp : Sp) (E : St → XK) (ta tb : TE) : TE := fun σ H Q => ta σ H fun x H1 => tb σ H1 fun y H2 => ∃ a dx fs, x = .ref a ∧ H2 a = some (.ins C dx fs) ∧ ((∃ b dy gs, y = .ref b ∧ H2 b = some (.ins C dy gs)) ∨ ∃ i, y = .int i) ∧ sp [x, y] H2 Q (E σ)
theorem pe_opS {op : Operator} (hm : Meth X.K C (PySem.dunder op.info.2) f) (hc : PySem.W.selfFirst X.K C = true) (hi : OwnI X.K C op) (F : FnOk X.prog X.w X.K X.mg X.base CX k f fd ps sp) (hr : Room k X.A) (hb : Binds X.K fd ps []) (hx : ∀ σ, PassesAt CX X σ (E σ))
    {l r : Expr} (ha : PE X l ta) (hb' : PE X r tb) : PE X (.BinOp l op r pos) (tOpS C sp E ta tb) := by
  refine ⟨fun pins s σ H Q I h => ?_⟩
  refine wpAny_BinOp (binT ha hb' I h fun v u s2 x y H2 I2 rx ry q => ?_)
  obtain ⟨a, dx, fs, rfl, ea, hy, q⟩ := q
  obtain rfl : v = Value.ref a := rx
  obtain ⟨od, J⟩ := I2.instAt ea
  obtain ⟨m, fr⟩ := I2.fr
  have run := run_fnS2 F hr hb (hx σ) I2 (.cons (show RelV (.ref a) (Value.ref a) from rfl) (.cons ry .nil)) q
  rcases hy with ⟨b, dy, gs, rfl, eb⟩ | ⟨i, rfl⟩
  · obtain rfl : u = Value.ref b := ry
    obtain ⟨od', J'⟩ := I2.instAt eb
    refine PySem.W.binop_K fr I2.ok.mod.kin J J'.type hc hm.at_ hm.fn (thn run fun w s' q => ?_)
    obtain ⟨v', H', I', rv, q⟩ := q
    exact cmpBack_of rv ⟨v', H', I', rv, q⟩
  · obtain ⟨t, rfl⟩ := (show ∃ t, u = Value.int i t from ry)
    obtain ⟨⟨rc, h1, h2⟩, ⟨fo, h3⟩, ⟨ro, h4⟩, h5⟩ := hi
    refine PySem.W.ksp_binT (T := "int") fr I2.ok.mod.kin J rfl hc hm.at_ hm.fn h1 h2 h3 h4 h5 (thn run fun w s' q => ?_)
    obtain ⟨v', H', I', rv, q⟩ := q
    exact cmpBack_of rv ⟨v', H', I', rv, q⟩
end
end L2
namespace L2
open PySem PySem.Spec PyProof.Rows
section
variable {X : Cx}
theorem rangeSize1 (a b : Int) : Builtin.Range.rangeSize a b 1 = if a < b then b - a else 0 := by
  unfold Builtin.Range.rangeSize
  rw [if_pos (by decide)]
  by_cases h : a < b
  · rw [if_pos h, if_pos h]; omega
  · rw [if_neg h, if_neg h]
theorem q_rlen (r : Addr) (a b : Int) (t u v : Tok) (hz : b - a < 2 ^ 63) :
    Meets (Builtin.«range.__len__» ⟨[.ref r], []⟩) (fun _ R s => s.heap.get? r = some { cls := .type "range", dict := none, data := .fields #[.int a t, .int b u, .int 1 v], slots := #[] } ∧ R (.ok (.ret (.int (if a < b then b - a else 0) s.toks))) { s with toks := s.toks + 1 }) :=
  .of_wp fun prog w A R s h => by
    obtain ⟨hp, g, d, tk, os⟩ := s
    obtain ⟨hl, h⟩ := h
    have hn : ¬ (Builtin.Range.rangeSize a b 1 ≥ 2 ^ 63) := by rw [rangeSize1]; split <;> omega
    wp_walk
    rw [rangeSize1] at hn ⊢
    rw [if_neg hn]
    wp_walk
    exact ⟨_, rfl, h⟩
/-- len(r), r a range with step 1 -/
def rLenRng : List V → Hp → VK → Prop := fun xs H Q => ∃ a lo hi, xs = [.ref a] ∧ H a = some (.rng lo hi) ∧ hi - lo < 2 ^ 63 ∧ Q (.int (if lo < hi then hi - lo else 0)) H
theorem call_lenRng : CallR X (.builtin "len") rLenRng := by
  intro pins s σ H xs us Q I r h
  obtain ⟨a, lo, hi, rfl, ea, hz, q⟩ := h
  obtain ⟨u, rfl, ru⟩ := vals1 r
  obtain rfl : u = Value.ref a := ru
  obtain ⟨t1, t2, t3, ho⟩ := I.hok a _ ea
  refine call_len_slot (T := "range") (n := if lo < hi then hi - lo else 0) ⟨_, ho, rfl⟩ PySem.F.slot_range_len (fun Q' q' => ?_) (by split <;> omega) (by split <;> omega) ⟨.int (if lo < hi then hi - lo else 0), H, (I.tok _), ⟨_, rfl⟩, q⟩
  exact call_meets PySem.F.slot_range_len ⟨_, ho, rfl⟩ PySem.F.entry_range_len (PySem.F.args_range_len_1 _) (q_rlen a lo hi t1 t2 t3 hz) ⟨ho, q'⟩
end
end L2
namespace L2
open PySem PySem.Spec PyProof.Rows
section
variable {X : Cx} {a : Expr} {ta : TE}
/-- * of any two ints whose product the machine takes -/
theorem op_mulX : OpR X (binaryOp .Mult) (rI IntMulOk fun i j => .int (i * j)) := opI fun _ _ _ _ _ _ _ hc q => mul_int q hc
theorem mulL {i j : Int} (h : -(2 ^ 64) < i ∧ i < 2 ^ 64) : IntMulOk i j := CMul.ok (.inl h)
theorem mulR {i j : Int} (h : -(2 ^ 64) < j ∧ j < 2 ^ 64) : IntMulOk i j := CMul.ok (.inr h)
/-- a test by an own truth -/
theorem pt_own {r : V → Hp → (Bool → Hp → Prop) → Prop} (ht : TruR X r) (ha : PE X a ta) (he : ∀ whole, isTrue a X.env whole = (do let v ← whole; standAt a.pos; holding [v] (truthy v)) := by intro _; rfl) :
    PT X a (fun σ H Q => ta σ H fun x H' => r x H' Q) := by
  refine ⟨fun pins s σ H Q I h => ?_⟩
  rw [he]
  refine wpAny_bind (thn (ha.run pins s σ H _ I h) fun v s1 ⟨x, H1, I1, r1, q1⟩ => ?_)
  exact wpAny_bind (wpAny_standAt (wpAny_holding (ht pins s1 σ H1 x v Q I1 r1 q1)))
end
/-- what was tracked stays, but for what stands at p -/
def SameBut (p : Addr) (H H' : Hp) : Prop := ∀ b o, b ≠ p → H b = some o → H' b = some o
theorem SameBut.refl {p : Addr} {H : Hp} : SameBut p H H := fun _ _ _ h => h
theorem SameBut.trans {p : Addr} {H H1 H2 : Hp} (a : SameBut p H H1) (b : SameBut p H1 H2) : SameBut p H H2 := fun c o n h => b c o n (a c o n h)
theorem Same.but {p : Addr} {H H' : Hp} (a : Same H H') : SameBut p H H' := fun c o _ h => a c o h
theorem same_new {H : Hp} {p : Addr} {o : HO} (h : H p = none) : Same H (upd H p o) := fun b u e => by rw [upd_ne (ne_of_none e h)]; exact e
theorem sameBut_upd {H : Hp} {p : Addr} {o : HO} : SameBut p H (upd H p o) := fun b u n e => by rw [upd_ne n]; exact e
theorem Same.seqT {K : PySem.W.Frag} {H H' : Hp} {a : Addr} {xs : List V} (e : Same H H') (h : SqT K H a xs) : SqT K H' a xs := by
  rcases h with (h | ⟨o, h⟩) | h
  · exact .inl (.inl (e _ _ h))
  · exact .inl (.inr ⟨o, e _ _ h⟩)
  · exact .inr h
theorem getMap {xs : List Int} {i : Nat} {y : V} (h : (xs.map V.int)[i]? = some y) : ∃ z, xs[i]? = some z ∧ y = V.int z := by
  rw [List.getElem?_map] at h
  cases e : xs[i]? with
  | none => rw [e] at h; cases h
  | some z => rw [e] at h; exact ⟨z, rfl, (Option.some.inj h).symm⟩
theorem bitsMul {i j : Int} (hi : Builtin.Int.intBits i ≤ 1048576) (hj : Builtin.Int.intBits j ≤ 1048576) : IntMulOk i j := IntMulOk.of_le hi hj (by decide)

theorem iteD {p : Prop} [Decidable p] {A B : Prop} (h1 : p → A) (h2 : ¬ p → B) : if decide p = true then A else B := by
  by_cases h : p
  · rw [decide_eq_true h, if_pos rfl]; exact h1 h
  · rw [decide_eq_false h, if_neg Bool.false_ne_true]; exact h2 h
theorem iteDN {p : Prop} [Decidable p] {A B : Prop} (h1 : p → B) (h2 : ¬ p → A) : if (!decide p) = true then A else B := by
  by_cases h : p
  · rw [decide_eq_true h]; exact iteF (h1 h)
  · rw [decide_eq_false h]; exact iteT (h2 h)
theorem qd {Q : VK} {H : Hp} {p q : Prop} [Decidable p] [Decidable q] (e : p ↔ q) (h : Q (.bl (decide p)) H) : Q (.bl (decide q)) H := by
  have z : decide p = decide q := by
    by_cases c : p
    · rw [decide_eq_true c, decide_eq_true (e.mp c)]
    · rw [decide_eq_false c, decide_eq_false fun y => c (e.mpr y)]
  rw [← z]; exact h
theorem qt {Q : VK} {H : Hp} {p : Prop} [Decidable p] (c : p) (h : Q (.bl (decide p)) H) : Q (.bl true) H := by
  rw [decide_eq_true c] at h; exact h
theorem qf {Q : VK} {H : Hp} {p : Prop} [Decidable p] (c : ¬ p) (h : Q (.bl (decide p)) H) : Q (.bl false) H := by
  rw [decide_eq_false c] at h; exact h

/-! ### the pool of draws -/
/-- the list of the pool: four ints, then ints of at least 1 -/
def poolL (a b c n : Int) (bs : List Int) : List V := [.int a, .int b, .int c, .int n] ++ bs.map V.int
def PoolAt (H : Hp) (p : Addr) : Prop := ∃ a b c n bs, H p = some (.lst (poolL a b c n bs)) ∧ bs.length ≤ 63 ∧ ∀ z ∈ bs, 1 ≤ z
theorem pool_len (a b c n : Int) (bs : List Int) : (poolL a b c n bs).length = 4 + bs.length := by
  unfold poolL; rw [List.length_append, List.length_map]; rfl
theorem pool_at0 {a b c n : Int} {bs : List Int} : atI (poolL a b c n bs) 0 = some (.int a) := atI_nat (j := 0) rfl
theorem pool_at1 {a b c n : Int} {bs : List Int} : atI (poolL a b c n bs) 1 = some (.int b) := atI_nat (j := 1) rfl
theorem pool_at2 {a b c n : Int} {bs : List Int} : atI (poolL a b c n bs) 2 = some (.int c) := atI_nat (j := 2) rfl
theorem pool_at3 {a b c n : Int} {bs : List Int} : atI (poolL a b c n bs) 3 = some (.int n) := atI_nat (j := 3) rfl
theorem pool_at4 {a b c n z : Int} {bs : List Int} : atI (poolL a b c n (z :: bs)) 4 = some (.int z) := atI_nat (j := 4) rfl
theorem ixN_of {n : Nat} {j : Nat} (h : j < n) : ixN n (j : Int) = some j := by
  unfold ixN
  rw [if_pos (by omega), if_pos (by omega)]
  simp
theorem pool_ix {a b c n : Int} {bs : List Int} (j : Nat) (h : j < 4) : ixN (poolL a b c n bs).length (j : Int) = some j := ixN_of (by rw [pool_len]; omega)
theorem pool_ix4 {a b c n z : Int} {bs : List Int} : ixN (poolL a b c n (z :: bs)).length 4 = some 4 := ixN_of (j := 4) (by rw [pool_len, List.length_cons]; omega)
theorem pool_seq4 {a b c n z : Int} {bs : List Int} : seqIndex? 4 (poolL a b c n (z :: bs)).length = some 4 := (ixN_seq pool_ix4).1
theorem PoolAt.of {H : Hp} {p : Addr} {a b c n : Int} {bs : List Int} (h : H p = some (.lst (poolL a b c n bs))) (hl : bs.length ≤ 63) (hz : ∀ z ∈ bs, 1 ≤ z) : PoolAt H p := ⟨a, b, c, n, bs, h, hl, hz⟩
theorem PoolAt.mono {H H' : Hp} {p : Addr} (h : PoolAt H p) (e : Same H H') : PoolAt H' p := let ⟨a, b, c, n, bs, q, hl, hz⟩ := h; ⟨a, b, c, n, bs, e _ _ q, hl, hz⟩
theorem PoolAt.ne {H : Hp} {p q : Addr} (h : PoolAt H p) (hq : H q = none) : p ≠ q := let ⟨_, _, _, _, _, e, _, _⟩ := h; ne_of_none e hq
theorem same_of_but {H H' : Hp} {p : Addr} (hp : H p = none) (s : SameBut p H H') : Same H H' := fun b o e => s b o (ne_of_none e hp) e
theorem dp2 {K : PySem.W.Frag} {H : Hp} {t : Addr} {a b : Int} (h : SqT K H t [.int a, .int b]) : Dp K H (.ref t) (.tuple [.int a, .int b]) := .tup h (.cons (.int a) (.cons (.int b) .nil))
theorem eqv2 (a b : Int) : PyData.eqv (.tuple [.int a, .int b]) (.tuple [.int a, .int b]) = true := by simp [PyData.eqv, PyData.eqvAll]
theorem eqv22 (a b c d : Int) : PyData.eqv (.tuple [.int a, .int b]) (.tuple [.int c, .int d]) = decide (a = c ∧ b = d) := by
  simp [PyData.eqv, PyData.eqvAll, Bool.decide_and]
  try rfl
theorem andV_two {p q : Prop} [Decidable p] [Decidable q] {Qk : VK} {σ : L2.St} {H : Hp} {tb : TE} (h1 : Qk (.bl (decide q)) H → tb σ H Qk) (h : Qk (.bl (decide p && decide q)) H) : if decide p = true then tb σ H Qk else Qk (.bl false) H := by
  by_cases c : p
  · rw [decide_eq_true c] at h ⊢; exact h1 h
  · rw [decide_eq_false c] at h ⊢; rw [if_neg Bool.false_ne_true]; exact h
theorem notFirst_self {K : PySem.W.Frag} {C : Addr} : PySem.W.notFirst K C (.ref C) = true := by unfold PySem.W.notFirst; simp
def spPool (K : PySem.W.Frag) : Sp := fun vs H Q _ => ∃ (a : Addr) (ns : List Int), vs = [.ref a] ∧ SqL K H a (ns.map V.int) ∧ ns.length ≤ 63 ∧ (∀ z ∈ ns, Builtin.Int.intBits z ≤ 1048576) ∧
  ∀ p H', H p = none → PoolAt H' p → SameBut p H H' → Q (.ref p) H'
def spDraw : Sp := fun vs H Q _ => ∃ (p : Addr) (m : Int), vs = [.ref p, .int m] ∧ PoolAt H p ∧ 1 ≤ m ∧ m < 1073741824 ∧ ∀ r H', 0 ≤ r → r < m → PoolAt H' p → SameBut p H H' → Q (.int r) H'

/-! ### the rules that speak of K, by the K at hand -/
section
variable {X : Cx} {o e : Expr} {ta tl : TE} {tg : Expr} {f : Str} {pos : Pos}
theorem op_eqDK (K : PySem.W.Frag) (hu : X.A.units + 64 < cLine) (hK : X.K = K := by rfl) : OpR X (compareOp .Eq) (rEqD K) := hK ▸ op_eqD hu
theorem op_neDK (K : PySem.W.Frag) (hu : X.A.units + 64 < cLine) (hK : X.K = K := by rfl) : OpR X (compareOp .NotEq) (rNeD K) := hK ▸ op_neD hu
theorem ix_tupK (K : PySem.W.Frag) (hK : X.K = K := by rfl) : IxR X (rIxT K) := hK ▸ ix_tup
theorem ix_listK (K : PySem.W.Frag) (hK : X.K = K := by rfl) : IxR X (rIxL K) := hK ▸ ix_list
theorem pe_fldK (K : PySem.W.Frag) (he : PE X e ta) (hb : attributeBase e f X.env (eval e X.env) = eval e X.env) (hK : X.K = K := by rfl) : PE X (.Attribute e f pos) (tFld K ta f) := hK ▸ pe_fld he hb
theorem op_in_seqK (K : PySem.W.Frag) (hK : X.K = K := by rfl) : OpR X (compareOp .In) (rIn K false) := hK ▸ op_in_seq
theorem op_notIn_seqK (K : PySem.W.Frag) (hK : X.K = K := by rfl) : OpR X (compareOp .NotIn) (rIn K true) := hK ▸ op_notIn_seq
theorem call_isiK' (K : PySem.W.Frag) (hK : X.K = K := by rfl) : CallR X (.builtin "isinstance") (rIsi K) := hK ▸ call_isi
theorem pi_listK (K : PySem.W.Frag) (hl : PE X o tl) (hK : X.K = K := by rfl) : PI X tg o (iList K tl) := hK ▸ pi_list hl
theorem pi_tupK (K : PySem.W.Frag) (hl : PE X o tl) (hK : X.K = K := by rfl) : PI X tg o (iTup K tl) := hK ▸ pi_tup hl
def rLenSq (K : PySem.W.Frag) : List V → Hp → VK → Prop := fun xs H Q => ∃ p ys, xs = [.ref p] ∧ (SqL K H p ys ∨ SqT K H p ys) ∧ Q (.int ys.length) H
theorem call_len_seqK (K : PySem.W.Frag) (hK : X.K = K := by rfl) : CallR X (.builtin "len") (rLenSq K) := hK ▸ call_len_seq
end
theorem kit_same {K : PySem.W.Frag} {t : Value} : PySem.W.kitOne K t t = some true := by
  unfold PySem.W.kitOne
  rw [if_pos (by simp)]
theorem kit_sub {K : PySem.W.Frag} {t C : Addr} {b : Bool} (hd : PySem.W.hasDictIn K C = true) (ty : PySem.W.typeIn K (.ref C) = some (.type "type")) (self : PySem.W.subIn K (.ref C) (.ref C) = some true) (h : PySem.W.subIn K (.ref t) (.ref C) = some b) :
    PySem.W.kitOne K (.ref t) (.ref C) = some b := by
  unfold PySem.W.kitOne
  by_cases e : t = C
  · subst e
    rw [if_pos (by simp)]
    exact self.symm.trans h
  · rw [if_neg (by simpa using e)]
    obtain ⟨cd, hc, _⟩ := PySem.W.any_some hd
    have e2 : ((PySem.W.clsIn K C).isSome && PySem.W.typeIn K (.ref C) == some (.type "type")) = true := by rw [hc, ty] <;> rfl
    show (if ((PySem.W.clsIn K C).isSome && PySem.W.typeIn K (.ref C) == some (.type "type")) = true then PySem.W.subIn K (.ref t) (.ref C) else none) = some b
    rw [if_pos e2]
    exact h
theorem kit_base {K : PySem.W.Frag} {t : Addr} {T : String} {b : Bool} (hm : PySem.W.kitMeta T = true) (h : PySem.W.subIn K (.ref t) (.type T) = some b) : PySem.W.kitOne K (.ref t) (.type T) = some b := by
  unfold PySem.W.kitOne
  rw [if_neg (by simp)]
  show (if PySem.W.kitMeta T = true then PySem.W.subIn K (.ref t) (.type T) else none) = some b
  rw [if_pos hm]
  exact h
end L2
namespace L2
open PySem PySem.Spec PyProof.Rows
theorem dec_add (i : Int) (t : Tok) (a C dx : Addr) : Meets (Builtin.«int.__add__» ⟨[.int i t, .ref a], []⟩) (fun _ R s => s.heap.get? a = some (PySem.W.instObj C dx) ∧ R (.ok (.ret .notImplemented)) s) :=
  .of_wp fun prog w A R s h => by obtain ⟨hp, g, d, tk, os⟩ := s; obtain ⟨hl, h⟩ := h; unfold PySem.W.instObj at hl; wp_walk; exact ⟨_, rfl, h⟩
theorem dec_sub (i : Int) (t : Tok) (a C dx : Addr) : Meets (Builtin.«int.__sub__» ⟨[.int i t, .ref a], []⟩) (fun _ R s => s.heap.get? a = some (PySem.W.instObj C dx) ∧ R (.ok (.ret .notImplemented)) s) :=
  .of_wp fun prog w A R s h => by obtain ⟨hp, g, d, tk, os⟩ := s; obtain ⟨hl, h⟩ := h; unfold PySem.W.instObj at hl; wp_walk; exact ⟨_, rfl, h⟩
theorem dec_mul (i : Int) (t : Tok) (a C dx : Addr) : Meets (Builtin.«int.__mul__» ⟨[.int i t, .ref a], []⟩) (fun _ R s => s.heap.get? a = some (PySem.W.instObj C dx) ∧ R (.ok (.ret .notImplemented)) s) :=
  .of_wp fun prog w A R s h => by obtain ⟨hp, g, d, tk, os⟩ := s; obtain ⟨hl, h⟩ := h; unfold PySem.W.instObj at hl; wp_walk; exact ⟨_, rfl, h⟩
theorem dec_eq (i : Int) (t : Tok) (a C dx : Addr) : Meets (Builtin.«int.__eq__» ⟨[.int i t, .ref a], []⟩) (fun _ R s => s.heap.get? a = some (PySem.W.instObj C dx) ∧ R (.ok (.ret .notImplemented)) s) :=
  .of_wp fun prog w A R s h => by obtain ⟨hp, g, d, tk, os⟩ := s; obtain ⟨hl, h⟩ := h; unfold PySem.W.instObj at hl; wp_walk; exact ⟨_, rfl, h⟩

/-- what the classes say of an operator with an int on the left -/
structure IntOp (op : Operator) (B : Builtin) (id : String) : Prop where
  fills : fillsNumberSlot (.type "int") op.info.2 = pure true
  slot : Slot "int" (PySem.dunder op.info.2) id
  entry : entryFor table id = some B
  args : ∀ a b, argsOk id ⟨[a, b], []⟩
  dec : ∀ (i : Int) (t : Tok) (a C dx : Addr), Meets (B ⟨[.int i t, .ref a], []⟩) (fun _ R s => s.heap.get? a = some (PySem.W.instObj C dx) ∧ R (.ok (.ret .notImplemented)) s)
theorem intAdd : IntOp .Add Builtin.«int.__add__» "int.__add__" := ⟨F.fills_int_add, F.slot_int_add, F.entry_int_add, F.args_int_add_2, dec_add⟩
theorem intSub : IntOp .Sub Builtin.«int.__sub__» "int.__sub__" := ⟨F.fills_int_sub, F.slot_int_sub, F.entry_int_sub, F.args_int_sub_2, dec_sub⟩
theorem intMul : IntOp .Mult Builtin.«int.__mul__» "int.__mul__" := ⟨F.fills_int_mul, F.slot_int_mul, F.entry_int_mul, F.args_int_mul_2, dec_mul⟩
open PySem.W in
theorem binop_IK {prog : Program} {w : World} {A : Around} {E : Value → Shared → Prop} {s : Shared} {K : Frag} {x C L f f0 dx : Addr} {h₀ : Heap} {m : Str → Option Value} {od : Option Obj} {op : Operator} {B : Builtin} {id : String} {i : Int} {t : Tok} {Q : Value → Shared → Prop} (J : IntOp op B id)
    (Fr0 : Fr h₀ L s.heap m) (X₀ : K.In h₀) (I : PySem.W.InstAt s.heap x (PySem.W.instObj C dx) C od) (hc : selfFirst K C = true) (hs : findIn K (.ref C) (PySem.dunder op.info.2) = some (some (.ref f0)))
    (hr : findIn K (.ref C) (dunderR op.info.2) = some (some (.ref f))) (hf : isFn K (.ref f) = true) (hsub : subIn K (.ref C) (.type "int") = some false)
    (h : wpAny (model prog w) A (call (.ref f) [.ref x, .int i t]) (PySem.W.CmpBack Q) E s) : wpAny (model prog w) A (binaryOp op (.int i t) (.ref x)) Q E s := by
  have X := X₀.keeps Fr0.keep
  obtain ⟨cd, rest, hcd, hm⟩ := ksp_first hc
  obtain ⟨hfT, slot, entry, args, dec⟩ := J
  rcases hi : op.info with ⟨sym, nm⟩
  rw [hi] at hs hr hfT slot
  dsimp only at hs hr hfT slot
  have hne : (Value.type "int" == Value.ref C) = false := Bool.eq_false_iff.mpr fun q => by cases beq_iff_eq.mp q
  simp only [binaryOp, hi]
  refine wpAny_holding (wpAny_bind ?_)
  unfold binaryOp1
  refine wpAny_bind (wpAny_typeOf (show s.TypeIs (.int i t) "int" from rfl) (wpAny_bind (I.type.here (wpAny_bind (wpAny_of_eq hfT ?_)))))
  simp only [hne, Bool.false_eq_true, if_false]
  refine wpAny_bind ((fills_K X hcd hm hs).here ?_)
  simp only [Bool.and_self, if_true]
  refine wpAny_bind ((looks_subIn X hsub).here ?_)
  have hpy : numberSlotInPython (.type "int") nm = pure false := rfl
  simp only [Bool.false_eq_true, if_false, pure_bind, Bool.not_false, Bool.and_self, if_true, hpy]
  refine wpAny_bind (wpAny_tryMethod_declines (T := "int") rfl slot (call_meets slot rfl entry (args _ _) (dec i t x C dx) ⟨I.at_, rfl, ?_⟩))
  show wpAny _ _ (tryMethod (.ref x) (dunderR nm) (.int i t) >>= _) _ _ _
  refine wpAny_bind (wpAny_mono (ksp_try X I hr hf h) (fun r s' hq => ?_) fun _ _ z => z)
  obtain ⟨v, rfl, q⟩ := hq
  first | exact wpAny_bind (wpAny_rule (wpAny_pure (wpAny_pure q))) | exact wpAny_rule (wpAny_pure (wpAny_pure q)) | exact wpAny_bind (wpAny_rule (wpAny_pure q))
open PySem.W in
theorem eq_IK {prog : Program} {w : World} {A : Around} {E : Value → Shared → Prop} {s : Shared} {K : Frag} {x C L f dx : Addr} {h₀ : Heap} {m : Str → Option Value} {od : Option Obj} {i : Int} {t : Tok} {Q : Value → Shared → Prop} (hu : A.units < cLine)
    (Fr0 : Fr h₀ L s.heap m) (X₀ : K.In h₀) (I : PySem.W.InstAt s.heap x (PySem.W.instObj C dx) C od) (hs : findIn K (.ref C) "__eq__" = some (some (.ref f))) (hf : isFn K (.ref f) = true) (hsub : subIn K (.ref C) (.type "int") = some false)
    (h : wpAny (model prog w) A (call (.ref f) [.ref x, .int i t]) (PySem.W.CmpBack Q) E s) : wpAny (model prog w) A (richCompare .Eq (.int i t) (.ref x)) Q E s := by
  have X := X₀.keeps Fr0.keep
  have one : wpAny (model prog w) A (tryCompare (.ref x) "__eq__" (.int i t)) (fun r s' => ∃ v, r = some v ∧ Q v s') E s := by
    unfold tryCompare
    refine wpAny_bind (ifBound_K X I hs hf (wpAny_mono h (fun v s' hv => ?_) fun _ _ e => e))
    cases v <;> first | exact hv.elim | exact wpAny_pure ⟨_, rfl, hv⟩
  have hne : (Value.type "int" != Value.ref C) = true := by
    have : (Value.type "int" == Value.ref C) = false := Bool.eq_false_iff.mpr fun q => by cases beq_iff_eq.mp q
    simp [bne, this]
  unfold richCompare
  refine wpAny_holding (wpAny_bind (wpAny_cRoomFor hu ?_))
  have ho : oneThing? .Eq (.int i t) (.ref x) = none := rfl
  rw [ho]
  refine wpAny_bind (wpAny_typeOf (show s.TypeIs (.int i t) "int" from rfl) (wpAny_bind (I.type.here ?_)))
  rw [if_pos hne]
  refine wpAny_bind ((looks_subIn X hsub).here ?_)
  simp only [Bool.false_eq_true, if_false]
  refine wpAny_bind (wpAny_tryCompare_declines (T := "int") rfl PySem.F.slot_int_eq (call_meets PySem.F.slot_int_eq rfl PySem.F.entry_int_eq (PySem.F.args_int_eq_2 _ _) (dec_eq i t x C dx) ⟨I.at_, rfl, ?_⟩))
  simp only [Bool.not_false, if_true]
  refine wpAny_bind (wpAny_mono one (fun r s' hq => ?_) fun _ _ z => z)
  obtain ⟨v, rfl, q⟩ := hq
  exact wpAny_pure q
section
variable {X : Cx} {CX : CXT} {k : Nat} {f f0 C : Addr} {fd : FuncData} {ps : List Str} {sp : Sp} {E : XK}
/-- i op x, an int on the left: x's reflected method at (x, i) -/
def rIOwn (C : Addr) (sp : Sp) (E : XK) : R2 := fun y x H Q => ∃ a dx fs i, x = .ref a ∧ H a = some (.ins C dx fs) ∧ y = .int i ∧ sp [x, y] H Q E
theorem op_iown {op : Operator} {B : Builtin} {id : String} (J : IntOp op B id) (hm0 : Meth X.K C (PySem.dunder op.info.2) f0) (hm : Meth X.K C (dunderR op.info.2) f) (hc : PySem.W.selfFirst X.K C = true) (hsub : PySem.W.subIn X.K (.ref C) (.type "int") = some false)
    (F : FnOk X.prog X.w X.K X.mg X.base CX k f fd ps sp) (hr : Room k X.A) (hb : Binds X.K fd ps []) (hx : Passes CX X E) : OpR X (binaryOp op) (rIOwn C sp E) := by
  intro pins s σ H y x v u Q I ry rx h
  obtain ⟨a, dx, fs, i, rfl, ea, rfl, h⟩ := h
  obtain rfl : u = Value.ref a := rx
  obtain ⟨t, rfl⟩ := (show ∃ t, v = Value.int i t from ry)
  obtain ⟨od, Ia⟩ := I.instAt ea
  obtain ⟨m, fr⟩ := I.fr
  refine binop_IK J fr I.ok.mod.kin Ia hc hm0.at_ hm.at_ hm.fn hsub (thn (run_fnA (us := [.ref a, .int i t]) (vs := [.ref a, .int i]) (dvs := []) rfl F hr hb .nil hx I (.cons rfl (.cons ⟨t, rfl⟩ .nil)) h) fun w s' q => ?_)
  obtain ⟨v', H', I', rv, q⟩ := q
  exact cmpBack_of rv ⟨v', H', I', rv, q⟩
theorem op_ieq (hm : Meth X.K C "__eq__" f) (hsub : PySem.W.subIn X.K (.ref C) (.type "int") = some false)
    (F : FnOk X.prog X.w X.K X.mg X.base CX k f fd ps sp) (hr : Room k X.A) (hb : Binds X.K fd ps []) (hx : Passes CX X E) : OpR X (compareOp .Eq) (rIOwn C sp E) := by
  intro pins s σ H y x v u Q I ry rx h
  obtain ⟨a, dx, fs, i, rfl, ea, rfl, h⟩ := h
  obtain rfl : u = Value.ref a := rx
  obtain ⟨t, rfl⟩ := (show ∃ t, v = Value.int i t from ry)
  obtain ⟨od, Ia⟩ := I.instAt ea
  obtain ⟨m, fr⟩ := I.fr
  show wpAny _ _ (richCompare .Eq (.int i t) (.ref a)) _ _ _
  refine eq_IK hr.units0 fr I.ok.mod.kin Ia hm.at_ hm.fn hsub (thn (run_fnA (us := [.ref a, .int i t]) (vs := [.ref a, .int i]) (dvs := []) rfl F hr hb .nil hx I (.cons rfl (.cons ⟨t, rfl⟩ .nil)) h) fun w s' q => ?_)
  obtain ⟨v', H', I', rv, q⟩ := q
  exact cmpBack_of rv ⟨v', H', I', rv, q⟩
end
/-- // by any divisor but 0, of less than 9000 bits -/
theorem op_fdivX {X : Cx} : OpR X (binaryOp .FloorDiv) (rI (fun _ j => j ≠ 0 ∧ j.natAbs.log2 < 9000) fun i j => .int (i.fdiv j)) := opI fun i j _ _ _ _ _ hc q => floordiv_int hc.1 q (.inl (PyProof.noPylong_of_log2 hc.2))
section
variable {X : Cx} {CX : CXT} {k : Nat} {f C : Addr} {fd : FuncData} {ps : List Str} {sp : Sp} {E : XK}
/-- abs(x), by an own __abs__ -/
def rAbsOwn (C : Addr) (sp : Sp) (E : XK) : List V → Hp → VK → Prop := fun xs H Q => ∃ a dx fs, xs = [.ref a] ∧ H a = some (.ins C dx fs) ∧ sp [.ref a] H Q E
theorem call_absOwn (hm : Meth X.K C "__abs__" f) (Fk : FnOk X.prog X.w X.K X.mg X.base CX k f fd ps sp) (hr : Room (k + 1) X.A) (hb : Binds X.K fd ps []) (hx : Passes CX X E) : CallR X (.builtin "abs") (rAbsOwn C sp E) := by
  intro pins s σ H xs us Q I r h
  obtain ⟨a, dx, fs, rfl, ea, h⟩ := h
  obtain ⟨u, rfl, ru⟩ := vals1 r
  obtain rfl : u = Value.ref a := ru
  obtain ⟨od, J⟩ := I.instAt ea
  refine PySem.Calls.call_function_entry kind_abs plain_abs entry_abs (args_abs _) ?_
  unfold Builtin.«abs»
  refine wpAny_bind (m := oneArg "abs" _) (wpAny_pure ?_)
  refine wpAny_bind (m := callSpecial? (.ref a) (Str.ofString "__abs__")) (PySem.W.special_fn I.kIn J hm.at_ (beq_iff_eq.mp hm.fn) (thn (run_fnA (A := X.A.in1) (us := [.ref a]) (vs := [.ref a]) (dvs := []) rfl Fk hr.in1 hb .nil hx I (.cons rfl .nil) h) fun w s' q => ?_))
  exact wpAny_pure ⟨_, rfl, q⟩
end
theorem kit_tb {K : PySem.W.Frag} {C : Addr} {T : String} {b : Bool} (hd : PySem.W.hasDictIn K C = true) (ty : PySem.W.typeIn K (.ref C) = some (.type "type")) (h : PySem.W.subIn K (.type T) (.ref C) = some b) : PySem.W.kitOne K (.type T) (.ref C) = some b := by
  unfold PySem.W.kitOne
  rw [if_neg (by simp)]
  obtain ⟨cd, hc, _⟩ := PySem.W.any_some hd
  have e2 : ((PySem.W.clsIn K C).isSome && PySem.W.typeIn K (.ref C) == some (.type "type")) = true := by rw [hc, ty] <;> rfl
  show (if ((PySem.W.clsIn K C).isSome && PySem.W.typeIn K (.ref C) == some (.type "type")) = true then PySem.W.subIn K (.type T) (.ref C) else none) = some b
  rw [if_pos e2]
  exact h
theorem notFirst_ty {K : PySem.W.Frag} {C : Addr} {T : String} (h : PySem.W.subIn K (.type T) (.ref C) = some false) : PySem.W.notFirst K C (.type T) = true := by unfold PySem.W.notFirst; rw [h]; simp
theorem binds_none {K : PySem.W.Frag} {fd : FuncData} {ps : List Str} (h : ∃ ds, Vals ([] : List V) ds ∧ Binds K fd ps ds) : Binds K fd ps [] := by
  obtain ⟨ds, r, b⟩ := h
  cases r
  exact b
end L2
/-! plain mathematics: lowest terms, Euclid's steps -/
namespace L2
/-- (t, b) is T / B in lowest terms -/
structure Rep (t b T B : Int) : Prop where
  pos : 1 ≤ b
  cross : t * B = T * b
  cop : Nat.gcd t.natAbs b.natAbs = 1
  st : t.natAbs ≤ T.natAbs
  sb : b.natAbs ≤ B.natAbs
theorem rep_of {T B : Int} (hB : B ≠ 0) {g : Nat} (hg : g = Nat.gcd T.natAbs B.natAbs) {f : Int} (hf : f = if B < 0 then -(g : Int) else (g : Int)) : f ≠ 0 ∧ f.natAbs ≤ B.natAbs ∧ Rep (T.fdiv f) (B.fdiv f) T B := by
  have hb0 : 0 < B.natAbs := Int.natAbs_pos.mpr hB
  have g0 : 0 < g := by rw [hg]; exact Nat.gcd_pos_of_pos_right _ hb0
  have gle : g ≤ B.natAbs := by rw [hg]; exact Nat.gcd_le_right _ hb0
  have d1 : (g : Int) ∣ T := by
    rw [hg]; exact Int.ofNat_dvd_left.mpr (Nat.gcd_dvd_left _ _)
  have d2 : (g : Int) ∣ B := by
    rw [hg]; exact Int.ofNat_dvd_left.mpr (Nat.gcd_dvd_right _ _)
  obtain ⟨t1, e1⟩ := d1
  obtain ⟨b1, e2⟩ := d2
  have gi : (g : Int) ≠ 0 := by omega
  have cop : Nat.gcd t1.natAbs b1.natAbs = 1 := by
    have h : g = g * Nat.gcd t1.natAbs b1.natAbs := by
      have : Nat.gcd T.natAbs B.natAbs = g * Nat.gcd t1.natAbs b1.natAbs := by
        rw [e1, e2, Int.natAbs_mul, Int.natAbs_mul, Int.natAbs_natCast, Nat.gcd_mul_left]
      rw [← hg] at this; exact this
    have h' : g * 1 = g * Nat.gcd t1.natAbs b1.natAbs := by rw [Nat.mul_one]; exact h
    exact (Nat.eq_of_mul_eq_mul_left g0 h').symm
  have st : t1.natAbs ≤ T.natAbs := by rw [e1, Int.natAbs_mul, Int.natAbs_natCast]; exact Nat.le_mul_of_pos_left _ g0
  have sb : b1.natAbs ≤ B.natAbs := by rw [e2, Int.natAbs_mul, Int.natAbs_natCast]; exact Nat.le_mul_of_pos_left _ g0
  by_cases hn : B < 0
  · rw [if_pos hn] at hf
    have ft : T.fdiv f = -t1 := by
      rw [hf, e1, show (g : Int) * t1 = -(g : Int) * (-t1) by rw [Int.neg_mul_neg]]
      exact Int.mul_fdiv_cancel_left _ (by omega)
    have fb : B.fdiv f = -b1 := by
      rw [hf, e2, show (g : Int) * b1 = -(g : Int) * (-b1) by rw [Int.neg_mul_neg]]
      exact Int.mul_fdiv_cancel_left _ (by omega)
    have hb1 : b1 < 0 := by
      have q : (g : Int) * b1 < (g : Int) * 0 := by rw [Int.mul_zero, ← e2]; exact hn
      exact Int.lt_of_mul_lt_mul_left q (by omega)
    refine ⟨by omega, by rw [hf, Int.natAbs_neg, Int.natAbs_natCast]; exact gle, ?_⟩
    rw [ft, fb]
    refine ⟨by omega, ?_, by rw [Int.natAbs_neg, Int.natAbs_neg]; exact cop, by rw [Int.natAbs_neg]; exact st, by rw [Int.natAbs_neg]; exact sb⟩
    rw [e1, e2, Int.neg_mul, Int.mul_neg, Int.mul_assoc, Int.mul_left_comm]
  · rw [if_neg hn] at hf
    have ft : T.fdiv f = t1 := by rw [hf, e1]; exact Int.mul_fdiv_cancel_left _ gi
    have fb : B.fdiv f = b1 := by rw [hf, e2]; exact Int.mul_fdiv_cancel_left _ gi
    have hb1 : 0 < b1 := by
      have q : (g : Int) * 0 < (g : Int) * b1 := by rw [Int.mul_zero, ← e2]; omega
      exact Int.lt_of_mul_lt_mul_left q (by omega)
    refine ⟨by omega, by rw [hf, Int.natAbs_natCast]; exact gle, ?_⟩
    rw [ft, fb]
    refine ⟨by omega, ?_, cop, st, sb⟩
    rw [e1, e2, Int.mul_assoc, Int.mul_left_comm]
/-- lowest terms are the only ones -/
theorem rep_uniq {t b t' b' : Int} (h : 1 ≤ b) (h' : 1 ≤ b') (c : Nat.gcd t.natAbs b.natAbs = 1) (c' : Nat.gcd t'.natAbs b'.natAbs = 1) (e : t * b' = t' * b) : t = t' ∧ b = b' := by
  have e1 : t.natAbs * b'.natAbs = t'.natAbs * b.natAbs := by rw [← Int.natAbs_mul, ← Int.natAbs_mul, e]
  have d1 : b.natAbs ∣ b'.natAbs := by
    refine Nat.Coprime.dvd_of_dvd_mul_left (k := b.natAbs) (m := t.natAbs) ?_ ?_
    · show Nat.gcd b.natAbs t.natAbs = 1
      rw [Nat.gcd_comm]; exact c
    · rw [e1]; exact Nat.dvd_mul_left _ _
  have d2 : b'.natAbs ∣ b.natAbs := by
    refine Nat.Coprime.dvd_of_dvd_mul_left (k := b'.natAbs) (m := t'.natAbs) ?_ ?_
    · show Nat.gcd b'.natAbs t'.natAbs = 1
      rw [Nat.gcd_comm]; exact c'
    · rw [← e1]; exact Nat.dvd_mul_left _ _
  have eb := Nat.dvd_antisymm d1 d2
  have eb' : b = b' := by omega
  subst eb'
  exact ⟨Int.eq_of_mul_eq_mul_right (by omega) e, rfl⟩
/-! ### Euclid -/
def Euc (a b i : Nat) : Prop := (i = 0 ∧ b < 2 ^ 200) ∨ (1 ≤ i ∧ b < a ∧ a * b * 2 ^ (i - 1) ≤ 2 ^ 400)
theorem Euc.turn {a b i : Nat} (h : Euc a b i) (hb : b ≠ 0) : Euc b (a % b) (i + 1) ∧ i ≤ 401 := by
  have hm : a % b < b := Nat.mod_lt _ (Nat.pos_of_ne_zero hb)
  rcases h with ⟨rfl, h⟩ | ⟨h1, h2, h3⟩
  · refine ⟨.inr ⟨Nat.le_refl _, hm, ?_⟩, Nat.zero_le _⟩
    show b * (a % b) * 2 ^ 0 ≤ 2 ^ 400
    have : b * (a % b) ≤ 2 ^ 200 * 2 ^ 200 := Nat.mul_le_mul (Nat.le_of_lt h) (Nat.le_of_lt (Nat.lt_trans hm h))
    rw [Nat.pow_zero, Nat.mul_one]
    rw [← Nat.pow_add] at this
    exact this
  · refine ⟨.inr ⟨by omega, hm, ?_⟩, ?_⟩
    · obtain ⟨j, rfl⟩ : ∃ j, i = j + 1 := ⟨i - 1, by omega⟩
      show b * (a % b) * 2 ^ (j + 1) ≤ 2 ^ 400
      have h2' : 2 * (a % b) ≤ a := by
        have e := Nat.div_add_mod a b
        have q : 1 ≤ a / b := Nat.div_pos (Nat.le_of_lt h2) (Nat.pos_of_ne_zero hb)
        have : b * 1 ≤ b * (a / b) := Nat.mul_le_mul_left _ q
        omega
      have e : b * (a % b) * 2 ^ (j + 1) = (b * (2 * (a % b))) * 2 ^ j := by
        rw [Nat.pow_succ, Nat.mul_comm (2 ^ j) 2, ← Nat.mul_assoc, Nat.mul_assoc b, Nat.mul_comm (a % b) 2]
      rw [e]
      refine Nat.le_trans (Nat.mul_le_mul_right _ (Nat.mul_le_mul_left b h2')) ?_
      rw [Nat.mul_comm b a]
      exact h3
    · have : 1 * 1 * 2 ^ (i - 1) ≤ a * b * 2 ^ (i - 1) := Nat.mul_le_mul_right _ (Nat.mul_le_mul (by omega) (by omega))
      simp only [Nat.one_mul] at this
      have q : i - 1 ≤ 400 := (Nat.pow_le_pow_iff_right (by decide)).mp (Nat.le_trans this h3)
      omega
theorem pow_le {m n : Nat} (h : m ≤ n) : (1000 : Int) ^ m ≤ 1000 ^ n := by
  induction h with
  | refl => exact Int.le_refl _
  | step h ih =>
    rename_i k
    have p : ∀ j : Nat, (0 : Int) ≤ 1000 ^ j := fun j => by
      induction j with
      | zero => decide
      | succ j ih => rw [Int.pow_succ]; omega
    rw [Nat.succ_eq_add_one, Int.pow_succ]
    have := p k
    omega
end L2
namespace LW
open PySem PySem.Spec PyProof.Rows L2
def top (i : Nat) : Stmt := PySem.Challenge.pw_gangbooks_k01_share_sums_products.main.body.getD i (.Pass ⟨0, 0, 0, 0⟩)
abbrev s_GangError_init : Stmt := inClass (top 3) 0
abbrev s_Share_init : Stmt := inClass (top 11) 0
abbrev s_Share_neg : Stmt := inClass (top 11) 14
abbrev s_as_share : Stmt := top 9
abbrev s_Share_add : Stmt := inClass (top 11) 5
abbrev s_Share_mul : Stmt := inClass (top 11) 9
abbrev s_Share_sub : Stmt := inClass (top 11) 7
abbrev s_Share_radd : Stmt := inClass (top 11) 6
abbrev s_Share_rsub : Stmt := inClass (top 11) 8
abbrev s_Share_rmul : Stmt := inClass (top 11) 10
abbrev s_Share_pow : Stmt := inClass (top 11) 13
abbrev s_pool : Stmt := top 13
abbrev s_draw : Stmt := top 14
abbrev s_number : Stmt := top 15
abbrev s_signed : Stmt := top 16
abbrev s_pair : Stmt := top 17
abbrev s_whole : Stmt := top 18
abbrev s_coprime : Stmt := top 19
abbrev s_is : Stmt := top 20
abbrev s_sums : Stmt := top 21
abbrev s_powers : Stmt := top 22
abbrev s_power : Stmt := top 23
abbrev s_law : Stmt := top 24
theorem sc_GangError_init : FnScope ["self", "subject"] ["self", "subject"] (defScope s_GangError_init) := ⟨rfl, rfl, rfl, by decide +kernel, rfl, by decide +kernel, by decide +kernel⟩
theorem sc_Share_init : FnScope ["self", "top", "bottom", "factor"] ["self", "top", "bottom"] (defScope s_Share_init) := ⟨rfl, rfl, rfl, by decide +kernel, rfl, by decide +kernel, by decide +kernel⟩
theorem sc_Share_neg : FnScope ["self"] ["self"] (defScope s_Share_neg) := ⟨rfl, rfl, rfl, by decide +kernel, rfl, by decide +kernel, by decide +kernel⟩
theorem sc_as_share : FnScope ["worth"] ["worth"] (defScope s_as_share) := ⟨rfl, rfl, rfl, by decide +kernel, rfl, by decide +kernel, by decide +kernel⟩
theorem sc_Share_add : FnScope ["self", "other", "more"] ["self", "other"] (defScope s_Share_add) := ⟨rfl, rfl, rfl, by decide +kernel, rfl, by decide +kernel, by decide +kernel⟩
theorem sc_Share_mul : FnScope ["self", "other", "factor"] ["self", "other"] (defScope s_Share_mul) := ⟨rfl, rfl, rfl, by decide +kernel, rfl, by decide +kernel, by decide +kernel⟩
theorem sc_Share_sub : FnScope ["self", "other"] ["self", "other"] (defScope s_Share_sub) := ⟨rfl, rfl, rfl, by decide +kernel, rfl, by decide +kernel, by decide +kernel⟩
theorem sc_Share_radd : FnScope ["self", "other"] ["self", "other"] (defScope s_Share_radd) := ⟨rfl, rfl, rfl, by decide +kernel, rfl, by decide +kernel, by decide +kernel⟩
theorem sc_Share_rsub : FnScope ["self", "other"] ["self", "other"] (defScope s_Share_rsub) := ⟨rfl, rfl, rfl, by decide +kernel, rfl, by decide +kernel, by decide +kernel⟩
theorem sc_Share_rmul : FnScope ["self", "other"] ["self", "other"] (defScope s_Share_rmul) := ⟨rfl, rfl, rfl, by decide +kernel, rfl, by decide +kernel, by decide +kernel⟩
theorem sc_Share_pow : FnScope ["self", "other", "power", "_"] ["self", "other"] (defScope s_Share_pow) := ⟨rfl, rfl, rfl, by decide +kernel, rfl, by decide +kernel, by decide +kernel⟩
theorem sc_pool : FnScope ["_law_script", "_law_pool_here", "_law_cell"] ["_law_script"] (defScope s_pool) := ⟨rfl, rfl, rfl, by decide +kernel, rfl, by decide +kernel, by decide +kernel⟩
theorem sc_draw : FnScope ["_law_pool_here", "_law_many", "_law_first", "_law_second", "_law_found"] ["_law_pool_here", "_law_many"] (defScope s_draw) := ⟨rfl, rfl, rfl, by decide +kernel, rfl, by decide +kernel, by decide +kernel⟩
theorem sc_number : FnScope ["_law_pool_here", "_law_groups", "_law_kind", "_law_count", "_law_number_here", "_law_k", "_law_part"] ["_law_pool_here", "_law_groups"] (defScope s_number) := ⟨rfl, rfl, rfl, by decide +kernel, rfl, by decide +kernel, by decide +kernel⟩
theorem sc_signed : FnScope ["_law_pool_here", "_law_groups", "_law_number_here"] ["_law_pool_here", "_law_groups"] (defScope s_signed) := ⟨rfl, rfl, rfl, by decide +kernel, rfl, by decide +kernel, by decide +kernel⟩
theorem sc_pair : FnScope ["_law_pool_here", "_law_factor", "_law_groups", "_law_top", "_law_bottom"] ["_law_pool_here"] (defScope s_pair) := ⟨rfl, rfl, rfl, by decide +kernel, rfl, by decide +kernel, by decide +kernel⟩
theorem sc_whole : FnScope ["_law_value"] ["_law_value"] (defScope s_whole) := ⟨rfl, rfl, rfl, by decide +kernel, rfl, by decide +kernel, by decide +kernel⟩
theorem sc_coprime : FnScope ["_law_one", "_law_other", "_law_k", "_law_rest"] ["_law_one", "_law_other"] (defScope s_coprime) := ⟨rfl, rfl, rfl, by decide +kernel, rfl, by decide +kernel, by decide +kernel⟩
theorem sc_is : FnScope ["_law_share", "_law_top", "_law_bottom"] ["_law_share", "_law_top", "_law_bottom"] (defScope s_is) := ⟨rfl, rfl, rfl, by decide +kernel, rfl, by decide +kernel, by decide +kernel⟩
theorem sc_sums : FnScope ["_law_one", "_law_a", "_law_other", "_law_b", "_law_cross"] ["_law_one", "_law_a", "_law_other", "_law_b"] (defScope s_sums) := ⟨rfl, rfl, rfl, by decide +kernel, rfl, by decide +kernel, by decide +kernel⟩
theorem sc_powers : FnScope ["_law_share", "_law_block"] ["_law_share", "_law_block"] (defScope s_powers) := ⟨rfl, rfl, rfl, by decide +kernel, rfl, by decide +kernel, by decide +kernel⟩
theorem sc_power : FnScope ["_law_share", "_law_block", "_law_top", "_law_bottom", "_law_k", "_law_power_here"] ["_law_share", "_law_block"] (defScope s_power) := ⟨rfl, rfl, rfl, by decide +kernel, rfl, by decide +kernel, by decide +kernel⟩
theorem sc_law : FnScope ["_law_script", "_law_pool_here", "_law_a", "_law_b", "_law_number_here", "_law_block", "_law_one", "_law_other", "_law_n", "_law_turn"] ["_law_script"] (defScope s_law) := ⟨rfl, rfl, rfl, by decide +kernel, rfl, by decide +kernel, by decide +kernel⟩
/-- where the top has put what the law uses -/
structure Adr where
  c_Share : Addr
  c_GangError : Addr
  c_BadShare : Addr
  f_GangError_init : Addr
  d_GangError_init : FuncData
  f_Share_init : Addr
  d_Share_init : FuncData
  f_Share_neg : Addr
  d_Share_neg : FuncData
  f_as_share : Addr
  d_as_share : FuncData
  f_Share_add : Addr
  d_Share_add : FuncData
  f_Share_mul : Addr
  d_Share_mul : FuncData
  f_Share_sub : Addr
  d_Share_sub : FuncData
  f_Share_radd : Addr
  d_Share_radd : FuncData
  f_Share_rsub : Addr
  d_Share_rsub : FuncData
  f_Share_rmul : Addr
  d_Share_rmul : FuncData
  f_Share_pow : Addr
  d_Share_pow : FuncData
  f_pool : Addr
  d_pool : FuncData
  f_draw : Addr
  d_draw : FuncData
  f_number : Addr
  d_number : FuncData
  f_signed : Addr
  d_signed : FuncData
  f_pair : Addr
  d_pair : FuncData
  f_whole : Addr
  d_whole : FuncData
  f_coprime : Addr
  d_coprime : FuncData
  f_is : Addr
  d_is : FuncData
  f_sums : Addr
  d_sums : FuncData
  f_powers : Addr
  d_powers : FuncData
  f_power : Addr
  d_power : FuncData
  f_law : Addr
  d_law : FuncData
structure Txt (K : PySem.W.Frag) (mg : Str → Option Value) (A : Adr) : Prop where
  n_abs : mg "abs" = none
  n_bool : mg "bool" = none
  n_int : mg "int" = none
  n_isinstance : mg "isinstance" = none
  n_len : mg "len" = none
  n_range : mg "range" = none
  g_Share : mg "Share" = some (.ref A.c_Share)
  g_GangError : mg "GangError" = some (.ref A.c_GangError)
  g_BadShare : mg "BadShare" = some (.ref A.c_BadShare)
  F_GangError_init : Fun K "__init__" "GangError.__init__" s_GangError_init A.f_GangError_init A.d_GangError_init
  b_GangError_init : Binds K A.d_GangError_init ["self", "subject"] []
  me_GangError_init : Meth K A.c_GangError "__init__" A.f_GangError_init
  F_Share_init : FunD K "__init__" "Share.__init__" (defArgs s_Share_init) (defBody s_Share_init) (defScope s_Share_init) [.int 1] [] A.f_Share_init A.d_Share_init
  b_Share_init : Binds K A.d_Share_init ["self", "top", "bottom"] []
  e_Share_init : ∃ ds, Vals [.int 1] ds ∧ Binds K A.d_Share_init ["self", "top", "bottom"] ds
  me_Share_init : Meth K A.c_Share "__init__" A.f_Share_init
  F_Share_neg : Fun K "__neg__" "Share.__neg__" s_Share_neg A.f_Share_neg A.d_Share_neg
  b_Share_neg : Binds K A.d_Share_neg ["self"] []
  me_Share_neg : Meth K A.c_Share "__neg__" A.f_Share_neg
  F_as_share : Fun K "as_share" "as_share" s_as_share A.f_as_share A.d_as_share
  b_as_share : Binds K A.d_as_share ["worth"] []
  g_as_share : mg "as_share" = some (.ref A.f_as_share)
  F_Share_add : Fun K "__add__" "Share.__add__" s_Share_add A.f_Share_add A.d_Share_add
  b_Share_add : Binds K A.d_Share_add ["self", "other"] []
  me_Share_add : Meth K A.c_Share "__add__" A.f_Share_add
  F_Share_mul : Fun K "__mul__" "Share.__mul__" s_Share_mul A.f_Share_mul A.d_Share_mul
  b_Share_mul : Binds K A.d_Share_mul ["self", "other"] []
  me_Share_mul : Meth K A.c_Share "__mul__" A.f_Share_mul
  F_Share_sub : Fun K "__sub__" "Share.__sub__" s_Share_sub A.f_Share_sub A.d_Share_sub
  b_Share_sub : Binds K A.d_Share_sub ["self", "other"] []
  me_Share_sub : Meth K A.c_Share "__sub__" A.f_Share_sub
  F_Share_radd : Fun K "__radd__" "Share.__radd__" s_Share_radd A.f_Share_radd A.d_Share_radd
  b_Share_radd : Binds K A.d_Share_radd ["self", "other"] []
  me_Share_radd : Meth K A.c_Share "__radd__" A.f_Share_radd
  F_Share_rsub : Fun K "__rsub__" "Share.__rsub__" s_Share_rsub A.f_Share_rsub A.d_Share_rsub
  b_Share_rsub : Binds K A.d_Share_rsub ["self", "other"] []
  me_Share_rsub : Meth K A.c_Share "__rsub__" A.f_Share_rsub
  F_Share_rmul : Fun K "__rmul__" "Share.__rmul__" s_Share_rmul A.f_Share_rmul A.d_Share_rmul
  b_Share_rmul : Binds K A.d_Share_rmul ["self", "other"] []
  me_Share_rmul : Meth K A.c_Share "__rmul__" A.f_Share_rmul
  F_Share_pow : Fun K "__pow__" "Share.__pow__" s_Share_pow A.f_Share_pow A.d_Share_pow
  b_Share_pow : Binds K A.d_Share_pow ["self", "other"] []
  me_Share_pow : Meth K A.c_Share "__pow__" A.f_Share_pow
  F_pool : Fun K "_law_pool" "_law_pool" s_pool A.f_pool A.d_pool
  b_pool : Binds K A.d_pool ["_law_script"] []
  g_pool : mg "_law_pool" = some (.ref A.f_pool)
  F_draw : Fun K "_law_draw" "_law_draw" s_draw A.f_draw A.d_draw
  b_draw : Binds K A.d_draw ["_law_pool_here", "_law_many"] []
  g_draw : mg "_law_draw" = some (.ref A.f_draw)
  F_number : Fun K "_law_number" "_law_number" s_number A.f_number A.d_number
  b_number : Binds K A.d_number ["_law_pool_here", "_law_groups"] []
  g_number : mg "_law_number" = some (.ref A.f_number)
  F_signed : Fun K "_law_signed" "_law_signed" s_signed A.f_signed A.d_signed
  b_signed : Binds K A.d_signed ["_law_pool_here", "_law_groups"] []
  g_signed : mg "_law_signed" = some (.ref A.f_signed)
  F_pair : Fun K "_law_pair" "_law_pair" s_pair A.f_pair A.d_pair
  b_pair : Binds K A.d_pair ["_law_pool_here"] []
  g_pair : mg "_law_pair" = some (.ref A.f_pair)
  F_whole : Fun K "_law_whole" "_law_whole" s_whole A.f_whole A.d_whole
  b_whole : Binds K A.d_whole ["_law_value"] []
  g_whole : mg "_law_whole" = some (.ref A.f_whole)
  F_coprime : Fun K "_law_coprime" "_law_coprime" s_coprime A.f_coprime A.d_coprime
  b_coprime : Binds K A.d_coprime ["_law_one", "_law_other"] []
  g_coprime : mg "_law_coprime" = some (.ref A.f_coprime)
  F_is : Fun K "_law_is" "_law_is" s_is A.f_is A.d_is
  b_is : Binds K A.d_is ["_law_share", "_law_top", "_law_bottom"] []
  g_is : mg "_law_is" = some (.ref A.f_is)
  F_sums : Fun K "_law_sums" "_law_sums" s_sums A.f_sums A.d_sums
  b_sums : Binds K A.d_sums ["_law_one", "_law_a", "_law_other", "_law_b"] []
  g_sums : mg "_law_sums" = some (.ref A.f_sums)
  F_powers : Fun K "_law_powers" "_law_powers" s_powers A.f_powers A.d_powers
  b_powers : Binds K A.d_powers ["_law_share", "_law_block"] []
  g_powers : mg "_law_powers" = some (.ref A.f_powers)
  F_power : Fun K "_law_power" "_law_power" s_power A.f_power A.d_power
  b_power : Binds K A.d_power ["_law_share", "_law_block"] []
  g_power : mg "_law_power" = some (.ref A.f_power)
  F_law : Fun K "law" "law" s_law A.f_law A.d_law
  b_law : Binds K A.d_law ["_law_script"] []
  g_law : mg "law" = some (.ref A.f_law)
  cl_Share : Cls K A.c_Share
  mk_Share : Mk K A.c_Share A.f_Share_init
  sf_Share : PySem.W.selfFirst K A.c_Share = true
  k1_Share : PySem.W.findIn K (.ref A.c_Share) "__class__" = some (some (.builtin "object.__class__"))
  k4_Share : PySem.W.mroIn K A.c_Share (.type "object") = some true
  no_Share_top : NoAttr K A.c_Share "top"
  no_Share_bottom : NoAttr K A.c_Share "bottom"
  i_Share_add : OwnI K A.c_Share .Add
  i_Share_sub : OwnI K A.c_Share .Sub
  i_Share_mul : OwnI K A.c_Share .Mult
  i_Share_pow : OwnI K A.c_Share .Pow
  kg : PySem.W.specialIn K (.builtin "object.__class__") "__get__" = some (some (.builtin "getset_descriptor.__get__"))
  kt : PySem.W.takesIn K (.builtin "object.__class__") = some true
  x_GangError : GExc K A.c_GangError A.f_GangError_init
  xf_GangError : XfC K A.c_GangError
  xc_GangError : ExcC K A.c_GangError
  xm_GangError : PySem.W.exmOne K (.ref A.c_GangError) (.ref A.c_GangError) = some true
  x_BadShare : GExc K A.c_BadShare A.f_GangError_init
  xf_BadShare : XfC K A.c_BadShare
  xc_BadShare : ExcC K A.c_BadShare
  xm_BadShare : PySem.W.exmOne K (.ref A.c_BadShare) (.ref A.c_GangError) = some true
  si_Share : PySem.W.subIn K (.ref A.c_Share) (.type "int") = some false
  st_int_Share : PySem.W.subIn K (.type "int") (.ref A.c_Share) = some false
  kt_int_Share : PySem.W.kitOne K (.type "int") (.ref A.c_Share) = some false
  gcd : mg "gcd" = some (.builtin "math.gcd")

def sflds (t b : Int) : List (Str × V) := putF "bottom" (.int b) (putF "top" (.int t) [])
theorem sflds_top (t b : Int) : (sflds t b).lookup ("top" : Str) = some (.int t) := by
  unfold sflds; rw [lookup_putF, if_neg (by decide +kernel), lookup_putF, if_pos rfl]
theorem sflds_bottom (t b : Int) : (sflds t b).lookup ("bottom" : Str) = some (.int b) := by
  unfold sflds; rw [lookup_putF, if_pos rfl]
def ShareAt (A : Adr) (H : Hp) (x : Addr) (t b : Int) : Prop := ∃ dx, H x = some (.ins A.c_Share dx (sflds t b))
theorem ShareAt.mono {A : Adr} {H H' : Hp} {x : Addr} {t b : Int} (h : ShareAt A H x t b) (k : Same H H') : ShareAt A H' x t b := let ⟨dx, q⟩ := h; ⟨dx, k _ _ q⟩
/-- fewer than n bits -/
def Bits (n : Nat) (x : Int) : Prop := x.natAbs < 2 ^ n
theorem Bits.log {n : Nat} {x : Int} (h : Bits n x) (h0 : 0 < n) : x.natAbs.log2 < n := PySem.Flt.log2_lt_of h0 h
theorem Bits.le {n : Nat} {x y : Int} (h : Bits n y) (e : x.natAbs ≤ y.natAbs) : Bits n x := Nat.lt_of_le_of_lt e h
theorem Bits.up {n m : Nat} {x : Int} (h : Bits n x) (e : n ≤ m) : Bits m x := Nat.lt_of_lt_of_le h (Nat.pow_le_pow_right (by decide) e)
theorem Bits.mul {n m : Nat} {x y : Int} (h : Bits n x) (h' : Bits m y) : Bits (n + m) (x * y) := by
  unfold Bits
  rw [Int.natAbs_mul, Nat.pow_add]
  exact Nat.mul_lt_mul'' h h'
theorem Bits.neg {n : Nat} {x : Int} (h : Bits n x) : Bits n (-x) := by unfold Bits; rw [Int.natAbs_neg]; exact h
theorem Bits.abs {n : Nat} {x : Int} (h : Bits n x) : Bits n (if x < 0 then -x else x) := by split; exact h.neg; exact h
theorem Bits.one {n : Nat} (h : 0 < n) : Bits n 1 := by
  show (1 : Nat) < 2 ^ n
  exact Nat.one_lt_two_pow (by omega)
theorem Bits.ok {n m : Nat} {x y : Int} (h : Bits n x) (h' : Bits m y) (h0 : 0 < n) (h1 : 0 < m) (e : n + m ≤ 1000000) : IntMulOk x y := by
  have a := h.log h0
  have b := h'.log h1
  exact CMulW.ok (by unfold CMulW; omega)
def RefusedS (A : Adr) (E : XK) (H : Hp) (s e : Int) : Prop := ∀ t d H', Same H H' → H' t = some (.tup [.int s, .int e]) → H' d = some (.xd [(("subject" : Str), .ref t)]) → E (.ref A.c_BadShare) (some d) H'
def NewShare (A : Adr) (Q : VK) (H : Hp) (T B : Int) : Prop := ∀ x H' t b, Same H H' → ShareAt A H' x t b → Rep t b T B → Q (.ref x) H'
def spSI (A : Adr) : Sp := fun vs H Q E => ∃ (p dx : Addr) (t0 b0 : Int), vs = [.ref p, .int t0, .int b0] ∧ H p = some (.ins A.c_Share dx []) ∧ (b0 ≠ 0 → ∃ n, 0 < n ∧ n ≤ 9000 ∧ Bits n b0) ∧ (∀ t b, b0 ≠ 0 → Rep t b t0 b0 → Q .non (upd H p (.ins A.c_Share dx (sflds t b)))) ∧ (b0 = 0 → RefusedS A E H t0 b0)
theorem share_same {A : Adr} {H : Hp} {x dx : Addr} {t b : Int} (hx : H x = none) (hd : H dx = none) (hne : dx ≠ x) : Same H (upd (upd (upd H dx (.own x)) x (.ins A.c_Share dx [])) x (.ins A.c_Share dx (sflds t b))) := by
  rw [upd_upd]
  exact (same_new hd).trans (same_new (by rw [upd_ne hne.symm]; exact hx))
theorem share_made {A : Adr} {H : Hp} {Q : VK} {E : XK} {t0 b0 : Int} {n : Nat} (hb : b0 ≠ 0) (h0 : 0 < n) (h1 : n ≤ 9000) (hB : Bits n b0) (k : NewShare A Q H t0 b0) : ∀ x dx, H x = none → H dx = none → dx ≠ x →
    spSI A (.ref x :: ([.int t0, .int b0] ++ [])) (upd (upd H dx (.own x)) x (.ins A.c_Share dx [])) (fun v H2 => v = .non ∧ Q (.ref x) H2) E := by
  intro x dx hx hd hne
  exact ⟨x, dx, t0, b0, rfl, upd_same, fun _ => ⟨n, h0, h1, hB⟩, fun t b _ r => ⟨rfl, k x _ t b (share_same hx hd hne) ⟨dx, upd_same⟩ r⟩, fun c => absurd c hb⟩
theorem rep_trans {t b T B t2 b2 : Int} (h : t2 * b = t * b2) (e : t * B = T * b) (hb : b ≠ 0) : t2 * B = T * b2 := by
  refine Int.eq_of_mul_eq_mul_right hb ?_
  calc t2 * B * b = (t2 * b) * B := by rw [Int.mul_assoc, Int.mul_comm B b, ← Int.mul_assoc]
    _ = (t * b2) * B := by rw [h]
    _ = (t * B) * b2 := by rw [Int.mul_assoc, Int.mul_comm b2 B, ← Int.mul_assoc]
    _ = (T * b) * b2 := by rw [e]
    _ = T * b2 * b := by rw [Int.mul_assoc, Int.mul_comm b b2, ← Int.mul_assoc]
theorem pos_of_mul {x y : Int} (h : 0 < x * y) (hy : 0 < y) : 0 < x := by
  rcases Int.lt_or_le 0 x with c | c
  · exact c
  · have := Int.mul_le_mul_of_nonneg_right c (Int.le_of_lt hy)
    rw [Int.zero_mul] at this
    omega
theorem neg_of_mul {x y : Int} (h : x * y < 0) (hy : 0 < y) : x < 0 := by
  rcases Int.lt_or_le x 0 with c | c
  · exact c
  · have := Int.mul_nonneg c (Int.le_of_lt hy)
    omega
def sg (t : Int) : Int := if t < 0 then -1 else if 0 < t then 1 else 0
theorem sgn_pos {t b T B : Int} (hb : 1 ≤ b) (hB : B ≠ 0) (e : t * B = T * b) : (0 < t ↔ 0 < T * B) ∧ (t < 0 ↔ T * B < 0) := by
  have q : t * (B * B) = (T * B) * b := by rw [← Int.mul_assoc, e, Int.mul_assoc, Int.mul_comm b B, ← Int.mul_assoc]
  have p2 : 0 < B * B := by
    rcases Int.lt_or_gt_of_ne hB with h | h
    · exact Int.mul_pos_of_neg_of_neg h h
    · exact Int.mul_pos h h
  generalize hP : T * B = P at q ⊢
  generalize hS : B * B = S at q p2
  have hb' : 0 < b := by omega
  refine ⟨⟨fun h => ?_, fun h => ?_⟩, ⟨fun h => ?_, fun h => ?_⟩⟩
  · have := Int.mul_pos h p2
    rw [q] at this
    exact pos_of_mul this hb'
  · have := Int.mul_pos h hb'
    rw [← q] at this
    exact pos_of_mul this p2
  · have := Int.mul_neg_of_neg_of_pos h p2
    rw [q] at this
    exact neg_of_mul this hb'
  · have := Int.mul_neg_of_neg_of_pos h hb'
    rw [← q] at this
    exact neg_of_mul this p2
def spBool (A : Adr) : Sp := fun vs H Q _ => ∃ (a : Addr) (t b : Int), vs = [.ref a] ∧ ShareAt A H a t b ∧ Q (.bl (!decide (V.int t = V.int 0))) H
def spSign (A : Adr) : Sp := fun vs H Q _ => ∃ (a : Addr) (t b : Int), vs = [.ref a] ∧ ShareAt A H a t b ∧ Q (.int (sg t)) H
def spNeg (A : Adr) : Sp := fun vs H Q _ => ∃ (a : Addr) (t b : Int) (n : Nat), vs = [.ref a] ∧ ShareAt A H a t b ∧ 1 ≤ b ∧ 0 < n ∧ n ≤ 9000 ∧ Bits n b ∧ NewShare A Q H (-t) b
def spAbs (A : Adr) : Sp := fun vs H Q _ => ∃ (a : Addr) (t b : Int) (n : Nat), vs = [.ref a] ∧ ShareAt A H a t b ∧ 1 ≤ b ∧ 0 < n ∧ n ≤ 9000 ∧ Bits n b ∧ NewShare A Q H (if t < 0 then -t else t) b
def spEq (K : PySem.W.Frag) (A : Adr) : Sp := fun vs H Q _ => ∃ (a : Addr) (y : V) (t b : Int), vs = [.ref a, y] ∧ ShareAt A H a t b ∧ ((∃ c t' b', y = .ref c ∧ ShareAt A H c t' b' ∧ Q (.bl (decide (t = t' ∧ b = b'))) H) ∨ (∃ ty, TyX K H y ty ∧ PySem.W.kitOne K ty (.ref A.c_Share) = some false ∧ Q (.bl false) H))
def spNumber : Sp := fun vs H Q _ => ∃ (p : Addr) (g : Nat), vs = [.ref p, .int g] ∧ PoolAt H p ∧ 1 ≤ g ∧ g ≤ 10 ∧ ∀ r H', 0 ≤ r → r < 1000 ^ g → PoolAt H' p → SameBut p H H' → Q (.int r) H'
def spSigned : Sp := fun vs H Q _ => ∃ (p : Addr) (g : Nat), vs = [.ref p, .int g] ∧ PoolAt H p ∧ 1 ≤ g ∧ g ≤ 10 ∧ ∀ r H', Bits (10 * g) r → PoolAt H' p → SameBut p H H' → Q (.int r) H'
theorem bits_of {r : Int} {g : Nat} (h0 : 0 ≤ r) (h : r < 1000 ^ g) : Bits (10 * g) r := by
  have e : ∀ k : Nat, (1000 : Int) ^ k ≤ ((2 ^ (10 * k) : Nat) : Int) := by
    intro k
    induction k with
    | zero => decide
    | succ k ih =>
      rw [Int.pow_succ, Nat.mul_succ, Nat.pow_add]
      have : (2 : Nat) ^ 10 = 1024 := by decide
      rw [this, Int.natCast_mul]
      have p : (0 : Int) ≤ ((2 ^ (10 * k) : Nat) : Int) := Int.natCast_nonneg _
      generalize ((2 ^ (10 * k) : Nat) : Int) = Z at *
      generalize (1000 : Int) ^ k = Y at *
      omega
  have := e g
  unfold Bits
  omega
def spWhole : Sp := fun vs H Q _ => ∃ i : Int, vs = [.int i] ∧ Q (.bl true) H
def spCop : Sp := fun vs H Q _ => ∃ a b : Nat, vs = [.int a, .int b] ∧ Nat.gcd a b = 1 ∧ b < 2 ^ 200 ∧ Q (.bl true) H
def spIs (A : Adr) : Sp := fun vs H Q _ => ∃ (x : Addr) (t b T B : Int) (n m : Nat), vs = [.ref x, .int T, .int B] ∧ ShareAt A H x t b ∧ 1 ≤ b ∧ t * B = T * b ∧ Nat.gcd t.natAbs b.natAbs = 1 ∧ Bits 200 b ∧ Bits n t ∧ 0 < n ∧ n ≤ 100000 ∧ Bits m T ∧ Bits m B ∧ 0 < m ∧ m ≤ 100000 ∧ Q (.bl true) H

structure Low (n : Nat) (t b : Int) : Prop where
  pos : 1 ≤ b
  cop : Nat.gcd t.natAbs b.natAbs = 1
  bt : Bits n t
  bb : Bits n b
  n0 : 0 < n
theorem Low.neg {n : Nat} {t b : Int} (h : Low n t b) : Low n (-t) b := ⟨h.pos, by rw [Int.natAbs_neg]; exact h.cop, h.bt.neg, h.bb, h.n0⟩
theorem Low.int {n : Nat} {i : Int} (h : Bits n i) (h0 : 0 < n) : Low n i 1 := ⟨by decide, Nat.gcd_one_right _, h, Bits.one h0, h0⟩
theorem Low.up {n m : Nat} {t b : Int} (h : Low n t b) (e : n ≤ m) : Low m t b := ⟨h.pos, h.cop, h.bt.up e, h.bb.up e, Nat.lt_of_lt_of_le h.n0 e⟩
theorem Low.rep {n : Nat} {t b T B : Int} (r : Rep t b T B) (hT : Bits n T) (hB : Bits n B) (h0 : 0 < n) : Low n t b := ⟨r.pos, r.cop, hT.le r.st, hB.le r.sb, h0⟩
def Wo (A : Adr) (H : Hp) (y : V) (t b : Int) : Prop := (∃ a, y = .ref a ∧ ShareAt A H a t b) ∨ (y = .int t ∧ b = 1)
theorem Wo.mono {A : Adr} {H H' : Hp} {y : V} {t b : Int} (h : Wo A H y t b) (s : Same H H') : Wo A H' y t b := by
  rcases h with ⟨a, e, h⟩ | h
  · exact .inl ⟨a, e, h.mono s⟩
  · exact .inr h
def Ex (A : Adr) (Q : VK) (H : Hp) (t b : Int) : Prop := ∀ x H', Same H H' → ShareAt A H' x t b → Q (.ref x) H'
theorem ex_new {A : Adr} {Q : VK} {H : Hp} {t b : Int} (h : 1 ≤ b) (c : Nat.gcd t.natAbs b.natAbs = 1) (k : Ex A Q H t b) : NewShare A Q H t b := fun x H' t' b' s hx r => by
  obtain ⟨rfl, rfl⟩ := rep_uniq r.pos h r.cop c r.cross
  exact k x H' s hx
theorem Low.ex {A : Adr} {Q : VK} {H : Hp} {n : Nat} {t b : Int} (h : Low n t b) (k : Ex A Q H t b) : NewShare A Q H t b := ex_new h.pos h.cop k
theorem NewShare.from {A : Adr} {Q : VK} {H H1 : Hp} {t b : Int} (k : NewShare A Q H t b) (s : Same H H1) : NewShare A Q H1 t b := fun x H' t' b' s' hx r => k x H' t' b' (s.trans s') hx r
theorem Bits.add {n : Nat} {x y : Int} (h : Bits n x) (h' : Bits n y) : Bits (n + 1) (x + y) := by
  unfold Bits at *
  rw [Nat.pow_succ]
  omega
def spAs (A : Adr) : Sp := fun vs H Q _ => ∃ (y : V) (t b : Int), vs = [y] ∧ Wo A H y t b ∧ Ex A Q H t b
def spAdd (A : Adr) : Sp := fun vs H Q _ => ∃ (a : Addr) (y : V) (t b u d : Int) (n m : Nat), vs = [.ref a, y] ∧ ShareAt A H a t b ∧ Wo A H y u d ∧ Low n t b ∧ Low m u d ∧ n + m ≤ 9000 ∧ NewShare A Q H (t * d + u * b) (b * d)
def spSub (A : Adr) : Sp := fun vs H Q _ => ∃ (a : Addr) (y : V) (t b u d : Int) (n m : Nat), vs = [.ref a, y] ∧ ShareAt A H a t b ∧ Wo A H y u d ∧ Low n t b ∧ Low m u d ∧ n + m ≤ 9000 ∧ NewShare A Q H (t * d + -u * b) (b * d)
def spMul (A : Adr) : Sp := fun vs H Q _ => ∃ (a : Addr) (y : V) (t b u d : Int) (n m : Nat), vs = [.ref a, y] ∧ ShareAt A H a t b ∧ Wo A H y u d ∧ Low n t b ∧ Low m u d ∧ n + m ≤ 9000 ∧ NewShare A Q H (t * u) (b * d)
def spRadd (A : Adr) : Sp := fun vs H Q _ => ∃ (a : Addr) (i u d : Int) (n m : Nat), vs = [.ref a, .int i] ∧ ShareAt A H a u d ∧ Low n u d ∧ Bits m i ∧ 0 < m ∧ n + m ≤ 9000 ∧ NewShare A Q H (i * d + u * 1) (1 * d)
def spRsub (A : Adr) : Sp := fun vs H Q _ => ∃ (a : Addr) (i u d : Int) (n m : Nat), vs = [.ref a, .int i] ∧ ShareAt A H a u d ∧ Low n u d ∧ Bits m i ∧ 0 < m ∧ n + m ≤ 9000 ∧ NewShare A Q H (i * d + -u * 1) (1 * d)
def spRmul (A : Adr) : Sp := fun vs H Q _ => ∃ (a : Addr) (i u d : Int) (n m : Nat), vs = [.ref a, .int i] ∧ ShareAt A H a u d ∧ Low n u d ∧ Bits m i ∧ 0 < m ∧ n + m ≤ 9000 ∧ NewShare A Q H (i * u) (1 * d)
theorem op_mix {X : Cx} {op : Operator} {r1 r2 r3 : R2} (h1 : OpR X (binaryOp op) r1) (h2 : OpR X (binaryOp op) r2) (h3 : OpR X (binaryOp op) r3) : OpR X (binaryOp op) (fun x y H Q => r1 x y H Q ∨ r2 x y H Q ∨ r3 x y H Q) := by
  intro pins s σ H x y v u Q I rx ry h
  rcases h with h | h | h
  · exact h1 _ _ _ _ _ _ _ _ _ I rx ry h
  · exact h2 _ _ _ _ _ _ _ _ _ I rx ry h
  · exact h3 _ _ _ _ _ _ _ _ _ I rx ry h

theorem low_pow {n : Nat} {t b : Int} (h : Low n t b) (i : Nat) : Low (n * i + 1) (t ^ i) (b ^ i) := by
  have bp : ∀ (x : Int), Bits n x → Bits (n * i + 1) (x ^ i) := by
    intro x hx
    unfold Bits at *
    rw [Int.natAbs_pow]
    refine Nat.lt_of_le_of_lt (Nat.pow_le_pow_left (Nat.le_of_lt hx) i) ?_
    rw [← Nat.pow_mul]
    exact Nat.pow_lt_pow_right (by decide) (by omega)
  refine ⟨?_, ?_, bp _ h.bt, bp _ h.bb, by omega⟩
  · have : 0 < b ^ i := Int.pow_pos (show 0 < b by have := h.pos; omega)
    omega
  · rw [Int.natAbs_pow, Int.natAbs_pow]
    exact Nat.Coprime.pow _ _ h.cop
def spPow (A : Adr) : Sp := fun vs H Q _ => ∃ (a : Addr) (t b : Int) (n : Nat), vs = [.ref a, .int n] ∧ ShareAt A H a t b ∧ Low 100 t b ∧ n ≤ 64 ∧ Ex A Q H (t ^ n) (b ^ n)
def spPair : Sp := fun vs H Q _ => ∃ p : Addr, vs = [.ref p] ∧ PoolAt H p ∧ ∀ t a b H', Bits 100 a → Bits 100 b → b ≠ 0 → t ≠ p → PoolAt H' p → SameBut p H H' → H' t = some (.tup [.int a, .int b]) → Q (.ref t) H'
def spSums (A : Adr) : Sp := fun vs H Q _ => ∃ (y z : V) (p q : Addr) (t b u d ta ba tb bb : Int), vs = [y, .ref p, z, .ref q] ∧ Wo A H y t b ∧ Wo A H z u d ∧ (∃ x, y = .ref x ∨ z = .ref x) ∧ Low 100 t b ∧ Low 100 u d ∧ t * ba = ta * b ∧ u * bb = tb * d ∧ Bits 100 ta ∧ Bits 100 ba ∧ Bits 100 tb ∧ Bits 100 bb ∧ H p = some (.tup [.int ta, .int ba]) ∧ H q = some (.tup [.int tb, .int bb]) ∧ ∀ H', Same H H' → Q (.bl true) H'
def spPows (A : Adr) : Sp := fun vs H Q _ => ∃ (x : Addr) (t b : Int) (m : Nat), vs = [.ref x, .int m] ∧ ShareAt A H x t b ∧ Low 100 t b ∧ m ≤ 12 ∧ ∀ (p : Addr) (xs : List Addr) (H' : Hp), Same H H' → H' p = some (.lst (xs.map V.ref)) → xs.length = 5 → (∀ (i : Nat) (y : Addr), xs[i]? = some y → ShareAt A H' y (t ^ (5 * m + i)) (b ^ (5 * m + i))) → Q (.ref p) H'
def spPower (A : Adr) : Sp := fun vs H Q _ => ∃ (x : Addr) (t b : Int) (m : Nat), vs = [.ref x, .int m] ∧ ShareAt A H x t b ∧ Low 100 t b ∧ m ≤ 12 ∧ ∀ H', Same H H' → Q (.bl true) H'
def spLaw (K : PySem.W.Frag) : Sp := fun vs H Q _ => ∃ (a : Addr) (ns : List Int), vs = [.ref a] ∧ SqL K H a (ns.map V.int) ∧ ns.length ≤ 63 ∧ (∀ z ∈ ns, Builtin.Int.intBits z ≤ 1048576) ∧ ∀ H', Q (.bl true) H'
abbrev lawLvl : Nat := 12
theorem powI {A : Adr} {H : Hp} {Q : VK} {E : XK} {x : Addr} {t b : Int} {n : Nat} {i : Int} (hX : ShareAt A H x t b) (hl : Low 100 t b) (hn : n ≤ 64) (e : i = n) (k : Ex A Q H (t ^ n) (b ^ n)) : rOwnI A.c_Share (spPow A) E (.ref x) (.int i) H Q := by
  subst e
  obtain ⟨dx, ho⟩ := id hX
  exact ⟨x, dx, _, _, rfl, ho, rfl, x, t, b, n, rfl, hX, hl, hn, k⟩
def MixR (C : Addr) (sp spr : Sp) (E1 E2 E3 : XK) (y z : V) (H : Hp) (Q : VK) : Prop := rOwn C sp E1 y z H Q ∨ rOwnI C sp E2 y z H Q ∨ rIOwn C spr E3 y z H Q
section
variable {A : Adr} {H : Hp} {Q : VK} {E1 E2 E3 : XK} {y z : V} {t b u d : Int}
theorem mixAdd (hy : Wo A H y t b) (hz : Wo A H z u d) (hr : ∃ x, y = .ref x ∨ z = .ref x) (hl : Low 100 t b) (hm : Low 100 u d) (k : NewShare A Q H (t * d + u * b) (b * d)) : MixR A.c_Share (spAdd A) (spRadd A) E1 E2 E3 y z H Q := by
  rcases hy with ⟨a, rfl, ha⟩ | ⟨rfl, rfl⟩
  · obtain ⟨dx, ho⟩ := id ha
    rcases id hz with ⟨c, rfl, hc⟩ | ⟨rfl, rfl⟩
    · obtain ⟨dy, ho2⟩ := id hc
      exact .inl ⟨a, dx, _, c, dy, _, rfl, ho, rfl, ho2, a, _, t, b, u, d, 100, 100, rfl, ha, hz, hl, hm, by decide, k⟩
    · exact .inr (.inl ⟨a, dx, _, u, rfl, ho, rfl, a, _, t, b, u, 1, 100, 100, rfl, ha, hz, hl, hm, by decide, k⟩)
  · rcases id hz with ⟨c, rfl, hc⟩ | ⟨rfl, rfl⟩
    · obtain ⟨dy, ho2⟩ := id hc
      exact .inr (.inr ⟨c, dy, _, t, rfl, ho2, rfl, c, t, u, d, 100, 100, rfl, hc, hm, hl.bt, by decide, by decide, k⟩)
    · obtain ⟨x, h | h⟩ := hr <;> cases h
theorem mixSub (hy : Wo A H y t b) (hz : Wo A H z u d) (hr : ∃ x, y = .ref x ∨ z = .ref x) (hl : Low 100 t b) (hm : Low 100 u d) (k : NewShare A Q H (t * d + -u * b) (b * d)) : MixR A.c_Share (spSub A) (spRsub A) E1 E2 E3 y z H Q := by
  rcases hy with ⟨a, rfl, ha⟩ | ⟨rfl, rfl⟩
  · obtain ⟨dx, ho⟩ := id ha
    rcases id hz with ⟨c, rfl, hc⟩ | ⟨rfl, rfl⟩
    · obtain ⟨dy, ho2⟩ := id hc
      exact .inl ⟨a, dx, _, c, dy, _, rfl, ho, rfl, ho2, a, _, t, b, u, d, 100, 100, rfl, ha, hz, hl, hm, by decide, k⟩
    · exact .inr (.inl ⟨a, dx, _, u, rfl, ho, rfl, a, _, t, b, u, 1, 100, 100, rfl, ha, hz, hl, hm, by decide, k⟩)
  · rcases id hz with ⟨c, rfl, hc⟩ | ⟨rfl, rfl⟩
    · obtain ⟨dy, ho2⟩ := id hc
      exact .inr (.inr ⟨c, dy, _, t, rfl, ho2, rfl, c, t, u, d, 100, 100, rfl, hc, hm, hl.bt, by decide, by decide, k⟩)
    · obtain ⟨x, h | h⟩ := hr <;> cases h
theorem mixMul (hy : Wo A H y t b) (hz : Wo A H z u d) (hr : ∃ x, y = .ref x ∨ z = .ref x) (hl : Low 100 t b) (hm : Low 100 u d) (k : NewShare A Q H (t * u) (b * d)) : MixR A.c_Share (spMul A) (spRmul A) E1 E2 E3 y z H Q := by
  rcases hy with ⟨a, rfl, ha⟩ | ⟨rfl, rfl⟩
  · obtain ⟨dx, ho⟩ := id ha
    rcases id hz with ⟨c, rfl, hc⟩ | ⟨rfl, rfl⟩
    · obtain ⟨dy, ho2⟩ := id hc
      exact .inl ⟨a, dx, _, c, dy, _, rfl, ho, rfl, ho2, a, _, t, b, u, d, 100, 100, rfl, ha, hz, hl, hm, by decide, k⟩
    · exact .inr (.inl ⟨a, dx, _, u, rfl, ho, rfl, a, _, t, b, u, 1, 100, 100, rfl, ha, hz, hl, hm, by decide, k⟩)
  · rcases id hz with ⟨c, rfl, hc⟩ | ⟨rfl, rfl⟩
    · obtain ⟨dy, ho2⟩ := id hc
      exact .inr (.inr ⟨c, dy, _, t, rfl, ho2, rfl, c, t, u, d, 100, 100, rfl, hc, hm, hl.bt, by decide, by decide, k⟩)
    · obtain ⟨x, h | h⟩ := hr <;> cases h
end
theorem cr_add {T B t b u d ta ba tb bb : Int} (hd : b * d ≠ 0) (h : T * (b * d) = (t * d + u * b) * B) (e1 : t * ba = ta * b) (e2 : u * bb = tb * d) : T * (ba * bb) = (ta * bb + tb * ba) * B := by
  refine rep_trans (t2 := T) (b2 := B) (t := t * d + u * b) (b := b * d) (T := ta * bb + tb * ba) (B := ba * bb) h ?_ hd
  grind
theorem cr_sub {T B t b u d ta ba tb bb : Int} (hd : b * d ≠ 0) (h : T * (b * d) = (t * d + -u * b) * B) (e1 : t * ba = ta * b) (e2 : u * bb = tb * d) : T * (ba * bb) = (ta * bb - tb * ba) * B := by
  refine rep_trans (t2 := T) (b2 := B) (t := t * d + -u * b) (b := b * d) (T := ta * bb - tb * ba) (B := ba * bb) h ?_ hd
  grind
theorem cr_mul {T B t b u d ta ba tb bb : Int} (hd : b * d ≠ 0) (h : T * (b * d) = (t * u) * B) (e1 : t * ba = ta * b) (e2 : u * bb = tb * d) : T * (ba * bb) = (ta * tb) * B := by
  refine rep_trans (t2 := T) (b2 := B) (t := t * u) (b := b * d) (T := ta * tb) (B := ba * bb) h ?_ hd
  grind
theorem Bits.sub {n : Nat} {x y : Int} (h : Bits n x) (h' : Bits n y) : Bits (n + 1) (x - y) := by
  unfold Bits at *
  rw [Nat.pow_succ]
  omega

section
variable {P : Program} {w : World} {K : PySem.W.Frag} {mg : Str → Option Value} {base : Heap} {A : Adr}
theorem ok_GangError_init (T : Txt K mg A) : FnOk P w K mg base CX0 1 A.f_GangError_init A.d_GangError_init ["self", "subject"] (spGI K) := by
  refine T.F_GangError_init.ok sc_GangError_init (fun vs H Q E h => ?_) (fun cdv Ar outer s H vs Q E hr h => ?_)
  · obtain ⟨a, C, v, rfl, _⟩ := h
    rfl
  · obtain ⟨a, C, v, rfl, hT, hn, ha, k⟩ := h
    refine ⟨_, (pss_one (ps_ost (pv 0) (pv 1))), ?_⟩
    exact ⟨_, rfl, _, rfl, a, C, rfl, hT, hn, .inl ⟨ha, k⟩⟩
theorem ok_Share_init (T : Txt K mg A) : FnOk P w K mg base (L2.CX P w) 3 A.f_Share_init A.d_Share_init ["self", "top", "bottom"] (spSI A) := by
  refine T.F_Share_init.ok (CX := (L2.CX P w)) sc_Share_init (fun vs H Q E h => ?_) (fun cdv Ar outer s H vs Q E hr h => ?_)
  · obtain ⟨p, dx, t0, b0, rfl, _⟩ := h
    rfl
  · obtain ⟨p, dx, t0, b0, rfl, hp, hbits, kG, kB⟩ := h
    refine ⟨_, (pss_cons (ps_if (pt_cmpR op_eq (pv 2) pe_int (nomark _)) (pss_one (ps_raiseG rfl T.x_BadShare (ok_GangError_init T) (hr.mono (by decide)) T.b_GangError_init rfl T.g_BadShare (takes_of rfl rfl rfl rfl) (pe_tup (pa_cons (pv 1) (pa_cons (pv 2) pa_nil))))) pss_nil)
        (pss_cons (ps_set (i := 3) sc_Share_init.nd rfl (Or.inl rfl) (pe_callBfun cr_gcd (by rfl) T.gcd (pa_cons (pv 1) (pa_cons (pv 2) pa_nil))))
        (pss_cons (ps_if (pt_cmpR op_lt (pv 2) pe_int (nomark _)) (pss_one (ps_set (i := 3) sc_Share_init.nd rfl (Or.inl rfl) (pe_un un_neg (pv 3)))) pss_nil)
        (pss_cons (ps_fld (pv 0) (pe_op op_fdivX (pv 1) (pv 3)) rfl)
        (pss_one (ps_fld (pv 0) (pe_op op_fdivX (pv 2) (pv 3)) rfl)))))), ?_⟩
    refine ⟨_, rfl, rfl, _, rfl, ?_⟩
    refine iteD (fun c => ?_) (fun c => ?_)
    · injection c with c
      refine ⟨_, rfl, _, rfl, (by show 2 ≤ sizeLine; decide), fun t ht => raiseG_in T.x_BadShare fun d hd => ?_⟩
      refine kB c t d _ ((same_new ht).trans (same_new hd)) ?_ upd_same
      rw [upd_ne (ne_of_none upd_same hd)]
      exact upd_same
    · have hb0 : b0 ≠ 0 := fun e => c (by rw [e])
      obtain ⟨n, hn0, hn1, hB⟩ := hbits hb0
      refine ⟨_, rfl, _, rfl, _, _, rfl, ?_⟩
      refine ⟨_, rfl, _, _, rfl, rfl, _, rfl, ?_⟩
      refine iteD (fun c => ?_) (fun c => ?_)
      · refine ⟨_, rfl, _, rfl, ?_⟩
        have rp := rep_of (T := t0) hb0 rfl (show -((Nat.gcd t0.natAbs b0.natAbs : Nat) : Int) = if b0 < 0 then -((Nat.gcd t0.natAbs b0.natAbs : Nat) : Int) else ((Nat.gcd t0.natAbs b0.natAbs : Nat) : Int) by rw [if_pos c])
        refine ⟨_, rfl, _, rfl, _, _, rfl, rfl, ⟨rp.1, Nat.lt_of_lt_of_le ((Bits.le hB rp.2.1).log hn0) hn1⟩, _, rfl, p, A.c_Share, dx, _, rfl, hp, T.cl_Share, T.no_Share_top, (by show 0 < 1000; decide), _, rfl, _, rfl, _, _, rfl, rfl, ⟨rp.1, Nat.lt_of_lt_of_le ((Bits.le hB rp.2.1).log hn0) hn1⟩, _, rfl, p, A.c_Share, dx, _, rfl, upd_same, T.cl_Share, T.no_Share_bottom, (by show 1 < 1000; decide), ?_⟩
        rw [upd_upd]
        exact kG _ _ hb0 rp.2.2
      · have rp := rep_of (T := t0) hb0 rfl (show ((Nat.gcd t0.natAbs b0.natAbs : Nat) : Int) = if b0 < 0 then -((Nat.gcd t0.natAbs b0.natAbs : Nat) : Int) else ((Nat.gcd t0.natAbs b0.natAbs : Nat) : Int) by rw [if_neg c])
        refine ⟨_, rfl, _, rfl, _, _, rfl, rfl, ⟨rp.1, Nat.lt_of_lt_of_le ((Bits.le hB rp.2.1).log hn0) hn1⟩, _, rfl, p, A.c_Share, dx, _, rfl, hp, T.cl_Share, T.no_Share_top, (by show 0 < 1000; decide), _, rfl, _, rfl, _, _, rfl, rfl, ⟨rp.1, Nat.lt_of_lt_of_le ((Bits.le hB rp.2.1).log hn0) hn1⟩, _, rfl, p, A.c_Share, dx, _, rfl, upd_same, T.cl_Share, T.no_Share_bottom, (by show 1 < 1000; decide), ?_⟩
        rw [upd_upd]
        exact kG _ _ hb0 rp.2.2
theorem ok_Share_neg (T : Txt K mg A) : FnOk P w K mg base CX0 5 A.f_Share_neg A.d_Share_neg ["self"] (spNeg A) := by
  refine T.F_Share_neg.ok sc_Share_neg (fun vs H Q E h => ?_) (fun cdv Ar outer s H vs Q E hr h => ?_)
  · obtain ⟨a, t, b, n, rfl, _⟩ := h
    rfl
  · obtain ⟨a, t, b, n, rfl, hS, hb, h1, h2, hB, k⟩ := h
    refine ⟨_, (pss_one (ps_ret (pe_make T.mk_Share (ok_Share_init T) (hr.mono (by decide)) rfl T.g_Share T.b_Share_init .nil passL (pa_cons (pe_un un_neg (pe_fldK K (pv 0) rfl)) (pa_cons (pe_fldK K (pv 0) rfl) pa_nil))))), ?_⟩
    obtain ⟨dx, ho⟩ := id hS
    refine ⟨_, rfl, a, A.c_Share, dx, _, _, rfl, ho, T.cl_Share, T.no_Share_top, sflds_top _ _, _, rfl, _, rfl, a, A.c_Share, dx, _, _, rfl, ho, T.cl_Share, T.no_Share_bottom, sflds_bottom _ _, ?_⟩
    exact share_made (by omega) h1 h2 hB k
theorem ok_as_share (T : Txt K mg A) : FnOk P w K mg base CX0 5 A.f_as_share A.d_as_share ["worth"] (spAs A) := by
  refine T.F_as_share.ok sc_as_share (fun vs H Q E h => ?_) (fun cdv Ar outer s H vs Q E hr h => ?_)
  · obtain ⟨y, t, b, rfl, _⟩ := h
    rfl
  · obtain ⟨y, t, b, rfl, hY, k⟩ := h
    refine ⟨_, (pss_cons (ps_if (pt_val (pe_callB (call_isiK' K) (by rfl) T.n_isinstance (by decide +kernel) (pa_cons (pv 0) (pa_cons (pe_glob (v := .ref A.c_Share) rfl T.g_Share rfl) pa_nil))) (by intro _; rfl)) (pss_one (ps_ret (pv 0))) pss_nil)
        (pss_one (ps_ret (pe_make T.mk_Share (ok_Share_init T) (hr.mono (by decide)) rfl T.g_Share (T.e_Share_init.choose_spec).2 (T.e_Share_init.choose_spec).1 passL (pa_cons (pv 0) pa_nil))))), ?_⟩
    rcases hY with ⟨a, rfl, hX⟩ | ⟨rfl, rfl⟩
    · obtain ⟨dx, ho⟩ := id hX
      exact ⟨_, rfl, _, _, _, _, true, rfl, .own _, .base (.ins ho T.cl_Share T.k1_Share T.kg T.kt T.k4_Share), kit_same, true, rfl, iteT ⟨_, rfl, k a H (Same.refl _) hX⟩⟩
    · refine ⟨_, rfl, _, _, _, _, false, rfl, .own _, .base (.int _), T.kt_int_Share, false, rfl, iteF ?_⟩
      refine ⟨_, rfl, ?_⟩
      exact share_made (by decide) (by decide) (by decide) (Bits.one (by decide) : Bits 1 1) (ex_new (by decide) (Nat.gcd_one_right _) k)
theorem ok_Share_add (T : Txt K mg A) : FnOk P w K mg base CX0 7 A.f_Share_add A.d_Share_add ["self", "other"] (spAdd A) := by
  refine T.F_Share_add.ok sc_Share_add (fun vs H Q E h => ?_) (fun cdv Ar outer s H vs Q E hr h => ?_)
  · obtain ⟨a, y, t, b, u, d, n, m, rfl, _⟩ := h
    rfl
  · obtain ⟨a, y, t, b, u, d, n, m, rfl, hX, hY, hl, hm, hle, k⟩ := h
    refine ⟨_, (pss_cons (ps_set (i := 2) sc_Share_add.nd rfl (Or.inl rfl) (pe_call (ok_as_share T) (hr.mono (by decide)) rfl T.g_as_share T.F_as_share.kp T.b_as_share .nil pass0 (pa_cons (pv 1) pa_nil)))
        (pss_one (ps_ret (pe_make T.mk_Share (ok_Share_init T) (hr.mono (by decide)) rfl T.g_Share T.b_Share_init .nil passL (pa_cons (pe_op op_add (pe_op op_mulX (pe_fldK K (pv 0) rfl) (pe_fldK K (pv 2) rfl)) (pe_op op_mulX (pe_fldK K (pv 2) rfl) (pe_fldK K (pv 0) rfl))) (pa_cons (pe_op op_mulX (pe_fldK K (pv 0) rfl) (pe_fldK K (pv 2) rfl)) pa_nil)))))), ?_⟩
    refine ⟨_, rfl, y, u, d, rfl, hY, ?_⟩
    intro x2 H2 s2 hx2
    obtain ⟨dx, ho⟩ := id (hX.mono s2)
    obtain ⟨d2, ho2⟩ := id hx2
    refine ⟨_, rfl, a, A.c_Share, dx, _, _, rfl, ho, T.cl_Share, T.no_Share_top, sflds_top _ _, _, rfl, x2, A.c_Share, d2, _, _, rfl, ho2, T.cl_Share, T.no_Share_bottom, sflds_bottom _ _, _, _, rfl, rfl, hl.bt.ok hm.bb hl.n0 hm.n0 (by omega), _, rfl, x2, A.c_Share, d2, _, _, rfl, ho2, T.cl_Share, T.no_Share_top, sflds_top _ _, _, rfl, a, A.c_Share, dx, _, _, rfl, ho, T.cl_Share, T.no_Share_bottom, sflds_bottom _ _, _, _, rfl, rfl, hm.bt.ok hl.bb hm.n0 hl.n0 (by omega), _, _, rfl, rfl, _, rfl, a, A.c_Share, dx, _, _, rfl, ho, T.cl_Share, T.no_Share_bottom, sflds_bottom _ _, _, rfl, x2, A.c_Share, d2, _, _, rfl, ho2, T.cl_Share, T.no_Share_bottom, sflds_bottom _ _, _, _, rfl, rfl, hl.bb.ok hm.bb hl.n0 hm.n0 (by omega), ?_⟩
    exact share_made (by have := Int.mul_pos (show 0 < b by have := hl.pos; omega) (show 0 < d by have := hm.pos; omega); omega) (by have := hl.n0; omega) hle (hl.bb.mul hm.bb) (k.from s2)
theorem ok_Share_mul (T : Txt K mg A) : FnOk P w K mg base CX0 7 A.f_Share_mul A.d_Share_mul ["self", "other"] (spMul A) := by
  refine T.F_Share_mul.ok sc_Share_mul (fun vs H Q E h => ?_) (fun cdv Ar outer s H vs Q E hr h => ?_)
  · obtain ⟨a, y, t, b, u, d, n, m, rfl, _⟩ := h
    rfl
  · obtain ⟨a, y, t, b, u, d, n, m, rfl, hX, hY, hl, hm, hle, k⟩ := h
    refine ⟨_, (pss_cons (ps_set (i := 2) sc_Share_mul.nd rfl (Or.inl rfl) (pe_call (ok_as_share T) (hr.mono (by decide)) rfl T.g_as_share T.F_as_share.kp T.b_as_share .nil pass0 (pa_cons (pv 1) pa_nil)))
        (pss_one (ps_ret (pe_make T.mk_Share (ok_Share_init T) (hr.mono (by decide)) rfl T.g_Share T.b_Share_init .nil passL (pa_cons (pe_op op_mulX (pe_fldK K (pv 0) rfl) (pe_fldK K (pv 2) rfl)) (pa_cons (pe_op op_mulX (pe_fldK K (pv 0) rfl) (pe_fldK K (pv 2) rfl)) pa_nil)))))), ?_⟩
    refine ⟨_, rfl, y, u, d, rfl, hY, ?_⟩
    intro x2 H2 s2 hx2
    obtain ⟨dx, ho⟩ := id (hX.mono s2)
    obtain ⟨d2, ho2⟩ := id hx2
    refine ⟨_, rfl, a, A.c_Share, dx, _, _, rfl, ho, T.cl_Share, T.no_Share_top, sflds_top _ _, _, rfl, x2, A.c_Share, d2, _, _, rfl, ho2, T.cl_Share, T.no_Share_top, sflds_top _ _, _, _, rfl, rfl, hl.bt.ok hm.bt hl.n0 hm.n0 (by omega), _, rfl, a, A.c_Share, dx, _, _, rfl, ho, T.cl_Share, T.no_Share_bottom, sflds_bottom _ _, _, rfl, x2, A.c_Share, d2, _, _, rfl, ho2, T.cl_Share, T.no_Share_bottom, sflds_bottom _ _, _, _, rfl, rfl, hl.bb.ok hm.bb hl.n0 hm.n0 (by omega), ?_⟩
    exact share_made (by have := Int.mul_pos (show 0 < b by have := hl.pos; omega) (show 0 < d by have := hm.pos; omega); omega) (by have := hl.n0; omega) hle (hl.bb.mul hm.bb) (k.from s2)
theorem ok_Share_sub (T : Txt K mg A) : FnOk P w K mg base CX0 8 A.f_Share_sub A.d_Share_sub ["self", "other"] (spSub A) := by
  refine T.F_Share_sub.ok sc_Share_sub (fun vs H Q E h => ?_) (fun cdv Ar outer s H vs Q E hr h => ?_)
  · obtain ⟨a, y, t, b, u, d, n, m, rfl, _⟩ := h
    rfl
  · obtain ⟨a, y, t, b, u, d, n, m, rfl, hX, hY, hl, hm, hle, k⟩ := h
    refine ⟨_, (pss_one (ps_ret (pe_op (op_own T.me_Share_add T.sf_Share (ok_Share_add T) (hr.mono (by decide)) T.b_Share_add pass0) (pv 0) (pe_un (un_own T.me_Share_neg (ok_Share_neg T) (hr.mono (by decide)) T.b_Share_neg pass0) (pe_call (ok_as_share T) (hr.mono (by decide)) rfl T.g_as_share T.F_as_share.kp T.b_as_share .nil pass0 (pa_cons (pv 1) pa_nil)))))), ?_⟩
    refine ⟨_, rfl, _, rfl, y, u, d, rfl, hY, ?_⟩
    intro x2 H2 s2 hx2
    obtain ⟨d2, ho2⟩ := id hx2
    refine ⟨x2, d2, _, rfl, ho2, x2, u, d, m, rfl, hx2, hm.pos, hm.n0, by omega, hm.bb, ?_⟩
    refine hm.neg.ex ?_
    intro x3 H3 s3 hx3
    have s23 := s2.trans s3
    obtain ⟨dx, ho⟩ := id (hX.mono s23)
    obtain ⟨d3, ho3⟩ := id hx3
    exact ⟨a, dx, _, x3, d3, _, rfl, ho, rfl, ho3, a, .ref x3, t, b, -u, d, n, m, rfl, hX.mono s23, .inl ⟨x3, rfl, hx3⟩, hl, hm.neg, hle, k.from s23⟩
theorem ok_Share_radd (T : Txt K mg A) : FnOk P w K mg base CX0 8 A.f_Share_radd A.d_Share_radd ["self", "other"] (spRadd A) := by
  refine T.F_Share_radd.ok sc_Share_radd (fun vs H Q E h => ?_) (fun cdv Ar outer s H vs Q E hr h => ?_)
  · obtain ⟨a, i, u, d, n, m, rfl, _⟩ := h
    rfl
  · obtain ⟨a, i, u, d, n, m, rfl, hX, hl, hi, h0, hle, k⟩ := h
    refine ⟨_, (pss_one (ps_ret (pe_op (op_ownI T.me_Share_add T.sf_Share T.i_Share_add (ok_Share_add T) (hr.mono (by decide)) T.b_Share_add pass0) (pv 0) (pv 1)))), ?_⟩
    obtain ⟨dx, ho⟩ := id hX
    refine ⟨_, rfl, _, rfl, a, dx, _, i, rfl, ho, rfl, a, .int i, u, d, i, 1, n, m, rfl, hX, .inr ⟨rfl, rfl⟩, hl, .int hi h0, hle, ?_⟩
    rw [Int.add_comm (u * 1) (i * d), Int.mul_comm d 1]
    exact k
theorem ok_Share_rsub (T : Txt K mg A) : FnOk P w K mg base CX0 8 A.f_Share_rsub A.d_Share_rsub ["self", "other"] (spRsub A) := by
  refine T.F_Share_rsub.ok sc_Share_rsub (fun vs H Q E h => ?_) (fun cdv Ar outer s H vs Q E hr h => ?_)
  · obtain ⟨a, i, u, d, n, m, rfl, _⟩ := h
    rfl
  · obtain ⟨a, i, u, d, n, m, rfl, hX, hl, hi, h0, hle, k⟩ := h
    refine ⟨_, (pss_one (ps_ret (pe_op (op_ownI T.me_Share_add T.sf_Share T.i_Share_add (ok_Share_add T) (hr.mono (by decide)) T.b_Share_add pass0) (pe_un (un_own T.me_Share_neg (ok_Share_neg T) (hr.mono (by decide)) T.b_Share_neg pass0) (pv 0)) (pv 1)))), ?_⟩
    obtain ⟨dx, ho⟩ := id hX
    refine ⟨_, rfl, a, dx, _, rfl, ho, a, u, d, n, rfl, hX, hl.pos, hl.n0, by omega, hl.bb, ?_⟩
    refine hl.neg.ex ?_
    intro x3 H3 s3 hx3
    obtain ⟨d3, ho3⟩ := id hx3
    refine ⟨_, rfl, x3, d3, _, i, rfl, ho3, rfl, x3, .int i, -u, d, i, 1, n, m, rfl, hx3, .inr ⟨rfl, rfl⟩, hl.neg, .int hi h0, hle, ?_⟩
    rw [Int.add_comm (-u * 1) (i * d), Int.mul_comm d 1]
    exact k.from s3
theorem ok_Share_rmul (T : Txt K mg A) : FnOk P w K mg base CX0 8 A.f_Share_rmul A.d_Share_rmul ["self", "other"] (spRmul A) := by
  refine T.F_Share_rmul.ok sc_Share_rmul (fun vs H Q E h => ?_) (fun cdv Ar outer s H vs Q E hr h => ?_)
  · obtain ⟨a, i, u, d, n, m, rfl, _⟩ := h
    rfl
  · obtain ⟨a, i, u, d, n, m, rfl, hX, hl, hi, h0, hle, k⟩ := h
    refine ⟨_, (pss_one (ps_ret (pe_op (op_ownI T.me_Share_mul T.sf_Share T.i_Share_mul (ok_Share_mul T) (hr.mono (by decide)) T.b_Share_mul pass0) (pv 0) (pv 1)))), ?_⟩
    obtain ⟨dx, ho⟩ := id hX
    refine ⟨_, rfl, _, rfl, a, dx, _, i, rfl, ho, rfl, a, .int i, u, d, i, 1, n, m, rfl, hX, .inr ⟨rfl, rfl⟩, hl, .int hi h0, hle, ?_⟩
    rw [Int.mul_comm u i, Int.mul_comm d 1]
    exact k
theorem ok_Share_pow (T : Txt K mg A) : FnOk P w K mg base CX0 8 A.f_Share_pow A.d_Share_pow ["self", "other"] (spPow A) := by
  refine T.F_Share_pow.ok sc_Share_pow (fun vs H Q E h => ?_) (fun cdv Ar outer s H vs Q E hr h => ?_)
  · obtain ⟨a, t, b, n, rfl, _⟩ := h
    rfl
  · obtain ⟨a, t, b, n, rfl, hX, hl, hn, k⟩ := h
    refine ⟨_, (pss_cons (ps_set (i := 2) sc_Share_pow.nd rfl (Or.inl rfl) (pe_make T.mk_Share (ok_Share_init T) (hr.mono (by decide)) rfl T.g_Share (T.e_Share_init.choose_spec).2 (T.e_Share_init.choose_spec).1 passL (pa_cons pe_int pa_nil)))
        (pss_cons (ps_for PassesOwn.never rfl (pi_range1 rfl T.n_range (pa_cons (pv 1) pa_nil)) (pg_name (i := 3) sc_Share_pow.nd rfl (Or.inl rfl))
        (pss_one (ps_set (i := 2) sc_Share_pow.nd rfl (Or.inl rfl) (pe_op (op_own T.me_Share_mul T.sf_Share (ok_Share_mul T) (hr.mono (by decide)) T.b_Share_mul pass0) (pv 2) (pv 0)))))
        (pss_one (ps_ret (pv 2))))), ?_⟩
    intro x1 d1 hxn hdn hne
    refine ⟨x1, d1, 1, 1, rfl, upd_same, fun _ => ⟨1, by decide, by decide, Bits.one (by decide)⟩, fun t1 b1 _ r1 => ⟨rfl, ?_⟩, fun c => absurd c (by decide)⟩
    have s1 := share_same (A := A) (t := t1) (b := b1) hxn hdn hne
    have hx1 : ShareAt A (upd (upd (upd H d1 (.own x1)) x1 (.ins A.c_Share d1 [])) x1 (.ins A.c_Share d1 (sflds t1 b1))) x1 t1 b1 := ⟨d1, upd_same⟩
    generalize upd (upd (upd H d1 (.own x1)) x1 (.ins A.c_Share d1 [])) x1 (.ins A.c_Share d1 (sflds t1 b1)) = H1 at s1 hx1 ⊢
    refine ⟨_, rfl, n, rfl, by omega, by omega, for_range (lo := 0) (n := (n : Int).toNat) (fun i σ H' => ∃ (x : Addr) (v3 : Option V), σ = [some (.ref a), some (.int n), some (.ref x), v3] ∧ Same H H' ∧ ShareAt A H' x (t ^ i) (b ^ i)) ⟨x1, none, rfl, s1, ?_⟩ ?_ ?_⟩
    · obtain ⟨rfl, rfl⟩ := rep_uniq (t' := 1) (b' := 1) r1.pos (by decide) r1.cop (by decide) r1.cross
      rw [Int.pow_zero, Int.pow_zero]
      exact hx1
    · rintro i σ H' hi ⟨x, v3, rfl, s', hx⟩
      have hi' : i < 64 := by omega
      obtain ⟨d0, h0⟩ := id hx
      obtain ⟨d1, h1⟩ := id (hX.mono s')
      refine ⟨_, rfl, _, rfl, x, d0, _, a, d1, _, rfl, h0, rfl, h1, x, .ref a, _, _, _, _, 100 * i + 1, 100, rfl, hx, .inl ⟨a, rfl, hX.mono s'⟩, low_pow hl i, hl, by omega, ?_⟩
      rw [← Int.pow_succ, ← Int.pow_succ]
      refine (low_pow hl (i + 1)).ex ?_
      intro x' H'' s'' hx'
      exact ⟨x', _, rfl, s'.trans s'', hx'⟩
    · rintro σ H' ⟨x, v3, rfl, s', hx⟩
      have e : (n : Int).toNat = n := Int.toNat_natCast n
      rw [e] at hx
      exact ⟨_, rfl, k x H' s' hx⟩
theorem ok_pool (T : Txt K mg A) : FnOk P w K mg base CX0 1 A.f_pool A.d_pool ["_law_script"] (spPool K) := by
  refine T.F_pool.ok sc_pool (fun vs H Q E h => ?_) (fun cdv Ar outer s H vs Q E hr h => ?_)
  · obtain ⟨a, ns, rfl, _⟩ := h
    rfl
  · obtain ⟨a, ns, rfl, hS, hl, hb, k⟩ := h
    refine ⟨_, (pss_cons (ps_set (i := 1) sc_pool.nd rfl (Or.inl rfl) (pe_lst (pa_cons pe_int (pa_cons pe_int (pa_cons pe_int (pa_cons pe_int pa_nil))))))
        (pss_cons (ps_for PassesOwn.never rfl (pi_listK K (pv 0)) (pg_name (i := 2) sc_pool.nd rfl (Or.inl rfl))
        (pss_one (ps_if (pt_cmpR op_ge (pv 2) (pe_op op_pow pe_int pe_int) (nomark _)) (pss_one (ps_expr (pe_bm PySem.F.plainAttrs_list PySem.F.slot_list_append PySem.F.type_list_append mt_append (pv 1) (pa_cons (pv 2) pa_nil)))) (pss_cons (ps_asg (pe_op op_mod (pe_callTy call_int1 (by rfl) T.n_int (by decide +kernel) (pa_cons (pe_op op_add (pe_op op_mulX (pe_ix (ix_listK K) (pv 1) pe_int (fun _ _ => rfl)) pe_int) (pv 2)) pa_nil)) pe_int) (pg_sub (pv 1) pe_int set_list))
        (pss_cons (ps_asg (pe_op op_mod (pe_callTy call_int1 (by rfl) T.n_int (by decide +kernel) (pa_cons (pe_op op_add (pe_op op_mulX (pe_ix (ix_listK K) (pv 1) pe_int (fun _ _ => rfl)) pe_int) (pe_op op_mulX (pv 2) (pv 2))) pa_nil)) pe_int) (pg_sub (pv 1) pe_int set_list))
        (pss_one (ps_asg (pe_op op_mod (pe_callTy call_int1 (by rfl) T.n_int (by decide +kernel) (pa_cons (pe_op op_add (pe_op op_mulX (pe_ix (ix_listK K) (pv 1) pe_int (fun _ _ => rfl)) pe_int) (pe_op op_mulX (pv 2) pe_int)) pa_nil)) pe_int) (pg_sub (pv 1) pe_int set_list))))))))
        (pss_one (ps_ret (pv 1))))), ?_⟩
    refine ⟨(by show 4 ≤ sizeLine; decide), fun p hp => ?_⟩
    have sp : Same H (upd H p (.lst (poolL 1 2 3 0 []))) := same_new hp
    refine ⟨_, rfl, a, rfl, ⟨_, sp.seq hS⟩, for_list (K := K) (a := a) (xs := ns.map V.int) (fun i σ H' => ∃ v x0 x1 x2 bs, σ = [some (.ref a), some (.ref p), v] ∧ SameBut p H H' ∧ H' p = some (.lst (poolL x0 x1 x2 0 bs)) ∧ bs.length ≤ i ∧ ∀ z ∈ bs, 1 ≤ z)
      ⟨none, 1, 2, 3, [], rfl, sp.but, upd_same, Nat.le_refl _, fun z h => absurd h List.not_mem_nil⟩ (fun i σ H' _ ⟨_, _, _, _, _, _, sb, _⟩ => (same_of_but hp sb).seq hS) ?_ ?_⟩
    · rintro i y σ H' hi ⟨v, x0, x1, x2, bs, rfl, sb, hp', hbl, hz⟩
      obtain ⟨z, hzi, rfl⟩ := getMap hi
      have hil : i < ns.length := (List.getElem?_eq_some_iff.mp hzi).1
      have hbits := hb z (List.mem_of_getElem? hzi)
      refine ⟨_, rfl, _, _, rfl, rfl, ⟨by decide, by decide, by decide⟩, _, _, rfl, rfl, _, rfl, ?_⟩
      refine iteD (fun c => ?_) (fun c => ?_)
      · refine ⟨_, rfl, .inl ⟨rfl, _, SqL.of hp'⟩, _, rfl, p, _, _, rfl, rfl, hp', small1000 (by rw [pool_len]; omega), ?_⟩
        refine ⟨some (.int z), x0, x1, x2, bs ++ [z], rfl, sb.trans sameBut_upd, ?_, by rw [List.length_append]; show bs.length + 1 ≤ i + 1; omega, fun q hq => ?_⟩
        · rw [upd_same]; simp [poolL]
        · rcases List.mem_append.mp hq with h | h
          · exact hz q h
          · rw [List.mem_singleton.mp h]
            have e18 : (10 : Int) ^ (18 : Int).toNat = 1000000000000000000 := by decide
            have c' : (1000000000000000000 : Int) ≤ z := e18 ▸ c
            omega
      · refine ⟨_, rfl, p, _, 0, _, rfl, rfl, SqL.of hp', pool_at0, _, _, rfl, rfl, mulR ⟨by decide, by decide⟩, _, rfl, _, _, rfl, rfl, .inl ⟨_, rfl, _, _, rfl, rfl, (by show (0 : Int) < 101; decide), _, rfl, p, _, _, 0, rfl, rfl, hp', pool_ix 0 (by decide), ?_⟩⟩
        refine ⟨_, rfl, p, _, 1, _, rfl, rfl, SqL.of (show _ = some (.lst (poolL _ x1 x2 0 bs)) from upd_same), pool_at1, _, _, rfl, rfl, mulR ⟨by decide, by decide⟩, _, rfl, _, rfl, _, _, rfl, rfl, bitsMul hbits hbits, _, _, rfl, rfl, .inl ⟨_, rfl, _, _, rfl, rfl, (by show (0 : Int) < 103; decide), _, rfl, p, _, _, 1, rfl, rfl, (show _ = some (.lst (poolL _ x1 x2 0 bs)) from upd_same), pool_ix 1 (by decide), ?_⟩⟩
        refine ⟨_, rfl, p, _, 2, _, rfl, rfl, SqL.of (show _ = some (.lst (poolL _ _ x2 0 bs)) from upd_same), pool_at2, _, _, rfl, rfl, mulR ⟨by decide, by decide⟩, _, rfl, _, _, rfl, rfl, mulR ⟨by decide, by decide⟩, _, _, rfl, rfl, .inl ⟨_, rfl, _, _, rfl, rfl, (by show (0 : Int) < 1009; decide), _, rfl, p, _, _, 2, rfl, rfl, (show _ = some (.lst (poolL _ _ x2 0 bs)) from upd_same), pool_ix 2 (by decide), ?_⟩⟩
        exact ⟨some (.int z), _, _, _, bs, rfl, sb.trans (sameBut_upd.trans (sameBut_upd.trans sameBut_upd)), upd_same, by omega, hz⟩
    · rintro σ H' ⟨v, x0, x1, x2, bs, rfl, sb, hp', hbl, hz⟩
      rw [List.length_map] at hbl
      exact ⟨_, rfl, k p H' hp (.of hp' (by omega) hz) sb⟩
theorem ok_draw (T : Txt K mg A) : FnOk P w K mg base CX0 1 A.f_draw A.d_draw ["_law_pool_here", "_law_many"] (spDraw) := by
  refine T.F_draw.ok sc_draw (fun vs H Q E h => ?_) (fun cdv Ar outer s H vs Q E hr h => ?_)
  · obtain ⟨p, m, rfl, _⟩ := h
    rfl
  · obtain ⟨p, m, rfl, hP, h0, h1, k⟩ := h
    refine ⟨_, (pss_cons (ps_asg (pe_op op_add (pe_ix (ix_listK K) (pv 0) pe_int (fun _ _ => rfl)) pe_int) (pg_sub (pv 0) pe_int set_list))
        (pss_cons (ps_if (pt_cmpR op_gt (pe_callB (call_len_seqK K) (by rfl) T.n_len (by decide +kernel) (pa_cons (pv 0) pa_nil)) pe_int (nomark _)) (pss_cons (ps_set (i := 4) sc_draw.nd rfl (Or.inl rfl) (pe_op op_mod (pe_callTy call_int1 (by rfl) T.n_int (by decide +kernel) (pa_cons (pe_ix (ix_listK K) (pv 0) pe_int (fun _ _ => rfl)) pa_nil)) (pv 1)))
        (pss_cons (ps_asg (pe_op op_fdiv (pe_ix (ix_listK K) (pv 0) pe_int (fun _ _ => rfl)) (pv 1)) (pg_sub (pv 0) pe_int set_list))
        (pss_cons (ps_if (pt_cmpR op_eq (pe_ix (ix_listK K) (pv 0) pe_int (fun _ _ => rfl)) pe_int (nomark _)) (pss_one (ps_expr (pe_bm PySem.F.plainAttrs_list PySem.F.slot_list_pop PySem.F.type_list_pop mt_popAt (pv 0) (pa_cons pe_int pa_nil)))) pss_nil)
        (pss_one (ps_ret (pv 4)))))) pss_nil)
        (pss_cons (ps_set (i := 2) sc_draw.nd rfl (Or.inl rfl) (pe_op op_mod (pe_callTy call_int1 (by rfl) T.n_int (by decide +kernel) (pa_cons (pe_op op_add (pe_ix (ix_listK K) (pv 0) pe_int (fun _ _ => rfl)) (pe_op op_mulX pe_int (pe_ix (ix_listK K) (pv 0) pe_int (fun _ _ => rfl)))) pa_nil)) pe_int))
        (pss_cons (ps_set (i := 3) sc_draw.nd rfl (Or.inl rfl) (pe_op op_mod (pe_callTy call_int1 (by rfl) T.n_int (by decide +kernel) (pa_cons (pe_op op_add (pe_ix (ix_listK K) (pv 0) pe_int (fun _ _ => rfl)) (pe_op op_mulX (pv 2) (pv 2))) pa_nil)) pe_int))
        (pss_one (ps_ret (pe_op op_mod (pe_op op_mod (pe_callTy call_int1 (by rfl) T.n_int (by decide +kernel) (pa_cons (pe_op op_add (pe_op op_add (pe_ix (ix_listK K) (pv 0) pe_int (fun _ _ => rfl)) (pe_op op_mulX pe_int (pe_ix (ix_listK K) (pv 0) pe_int (fun _ _ => rfl)))) (pe_op op_mulX (pv 3) (pv 3))) pa_nil)) pe_int) (pv 1)))))))), ?_⟩
    obtain ⟨x0, x1, x2, n, bs, hp, hl, hz⟩ := hP
    refine ⟨_, rfl, p, _, 3, _, rfl, rfl, SqL.of hp, pool_at3, _, _, rfl, rfl, _, rfl, p, _, _, 3, rfl, rfl, hp, pool_ix 3 (by decide), ?_⟩
    have s1 : SameBut p H (upd H p (.lst (poolL x0 x1 x2 (n + 1) bs))) := sameBut_upd
    have hp1 : (upd H p (.lst (poolL x0 x1 x2 (n + 1) bs))) p = some (.lst (poolL x0 x1 x2 (n + 1) bs)) := upd_same
    refine ⟨_, rfl, p, _, rfl, .inl (SqL.of hp1), _, _, rfl, rfl, _, rfl, ?_⟩
    refine iteD (fun c => ?_) (fun c => ?_)
    · rw [pool_len] at c
      cases bs with
      | nil => exact absurd c (by decide)
      | cons b bs =>
        have hb1 := hz b List.mem_cons_self
        have hm0 : 0 ≤ b % m := Int.emod_nonneg b (by omega)
        have hm1 : b % m < m := Int.emod_lt_of_pos b (by omega)
        have hq : 0 ≤ b / m := Int.ediv_nonneg (by omega) (by omega)
        have hz' : ∀ z ∈ bs, 1 ≤ z := fun z h => hz z (List.mem_cons_of_mem _ h)
        have hl' : bs.length + 1 ≤ 63 := hl
        refine ⟨_, rfl, p, _, 4, _, rfl, rfl, SqL.of hp1, pool_at4, .inl ⟨_, rfl, _, rfl, _, _, rfl, rfl, (by show (0 : Int) < m; omega), ?_⟩⟩
        refine ⟨_, rfl, p, _, 4, _, rfl, rfl, SqL.of hp1, pool_at4, _, rfl, _, _, rfl, rfl, ⟨by omega, h1⟩, _, rfl, p, _, _, 4, rfl, rfl, hp1, pool_ix4, ?_⟩
        have hp2 : (upd (upd H p (.lst (poolL x0 x1 x2 (n + 1) (b :: bs)))) p (.lst (poolL x0 x1 x2 (n + 1) (b / m :: bs)))) p = some (.lst (poolL x0 x1 x2 (n + 1) (b / m :: bs))) := upd_same
        refine ⟨_, rfl, p, _, 4, _, rfl, rfl, SqL.of hp2, pool_at4, rfl, _, rfl, ?_⟩
        refine iteD (fun c2 => ?_) (fun c2 => ?_)
        · refine ⟨_, rfl, .inl ⟨rfl, _, SqL.of hp2⟩, p, _, 4, 4, _, rfl, rfl, hp2, by decide, by decide, pool_seq4, rfl, ?_⟩
          exact ⟨_, rfl, k _ _ hm0 hm1 (.of (bs := bs) upd_same (by omega) hz') (s1.trans (sameBut_upd.trans sameBut_upd))⟩
        · refine ⟨_, rfl, k _ _ hm0 hm1 (.of hp2 hl fun z h => ?_) (s1.trans sameBut_upd)⟩
          rcases List.mem_cons.mp h with e | h
          · rw [e]
            have : b / m ≠ 0 := fun e => c2 (by rw [e])
            omega
          · exact hz' z h
    · refine ⟨_, rfl, p, _, 0, _, rfl, rfl, SqL.of hp1, pool_at0, _, rfl, p, _, 3, _, rfl, rfl, SqL.of hp1, pool_at3, _, _, rfl, rfl, mulL ⟨by decide, by decide⟩, _, _, rfl, rfl, .inl ⟨_, rfl, _, _, rfl, rfl, (by show (0 : Int) < 101; decide), ?_⟩⟩
      have f0 : 0 ≤ (x0 + 7 * (n + 1)) % 101 := Int.emod_nonneg _ (by decide)
      have f1 : (x0 + 7 * (n + 1)) % 101 < 101 := Int.emod_lt_of_pos _ (by decide)
      generalize (x0 + 7 * (n + 1)) % 101 = fi at f0 f1
      refine ⟨_, rfl, p, _, 1, _, rfl, rfl, SqL.of hp1, pool_at1, _, rfl, _, rfl, _, _, rfl, rfl, mulL ⟨by omega, by omega⟩, _, _, rfl, rfl, .inl ⟨_, rfl, _, _, rfl, rfl, (by show (0 : Int) < 103; decide), ?_⟩⟩
      have g0 : 0 ≤ (x1 + fi * fi) % 103 := Int.emod_nonneg _ (by decide)
      have g1 : (x1 + fi * fi) % 103 < 103 := Int.emod_lt_of_pos _ (by decide)
      generalize (x1 + fi * fi) % 103 = se at g0 g1
      refine ⟨_, rfl, p, _, 2, _, rfl, rfl, SqL.of hp1, pool_at2, _, rfl, p, _, 3, _, rfl, rfl, SqL.of hp1, pool_at3, _, _, rfl, rfl, mulL ⟨by decide, by decide⟩, _, _, rfl, rfl, _, rfl, _, rfl, _, _, rfl, rfl, mulL ⟨by omega, by omega⟩, _, _, rfl, rfl, .inl ⟨_, rfl, _, _, rfl, rfl, (by show (0 : Int) < 1009; decide), _, rfl, _, _, rfl, rfl, (by show (0 : Int) < m; omega), ?_⟩⟩
      exact k _ _ (Int.emod_nonneg _ (by omega)) (Int.emod_lt_of_pos _ (by omega)) (.of hp1 hl hz) s1
theorem ok_number (T : Txt K mg A) : FnOk P w K mg base CX0 2 A.f_number A.d_number ["_law_pool_here", "_law_groups"] (spNumber) := by
  refine T.F_number.ok sc_number (fun vs H Q E h => ?_) (fun cdv Ar outer s H vs Q E hr h => ?_)
  · obtain ⟨p, g, rfl, _⟩ := h
    rfl
  · obtain ⟨p, g, rfl, hP, g1, g2, k⟩ := h
    refine ⟨_, (pss_cons (ps_set (i := 2) sc_number.nd rfl (Or.inl rfl) (pe_call (ok_draw T) (hr.mono (by decide)) rfl T.g_draw T.F_draw.kp T.b_draw .nil pass0 (pa_cons (pv 0) (pa_cons pe_int pa_nil))))
        (pss_cons (ps_if (pt_cmpR op_eq (pv 2) pe_int (nomark _)) (pss_one (ps_ret (pe_call (ok_draw T) (hr.mono (by decide)) rfl T.g_draw T.F_draw.kp T.b_draw .nil pass0 (pa_cons (pv 0) (pa_cons pe_int pa_nil))))) pss_nil)
        (pss_cons (ps_set (i := 3) sc_number.nd rfl (Or.inl rfl) (pv 1))
        (pss_cons (ps_if (pt_cmpR op_gt (pv 2) pe_int (nomark _)) (pss_one (ps_set (i := 3) sc_number.nd rfl (Or.inl rfl) (pe_op op_add pe_int (pe_call (ok_draw T) (hr.mono (by decide)) rfl T.g_draw T.F_draw.kp T.b_draw .nil pass0 (pa_cons (pv 0) (pa_cons (pv 1) pa_nil)))))) pss_nil)
        (pss_cons (ps_set (i := 4) sc_number.nd rfl (Or.inl rfl) pe_int)
        (pss_cons (ps_for PassesOwn.never rfl (pi_range1 rfl T.n_range (pa_cons (pv 3) pa_nil)) (pg_name (i := 5) sc_number.nd rfl (Or.inl rfl))
        (pss_cons (ps_set (i := 6) sc_number.nd rfl (Or.inl rfl) pe_int)
        (pss_cons (ps_if (pt_cmpR op_gt (pv 2) pe_int (nomark _)) (pss_one (ps_set (i := 6) sc_number.nd rfl (Or.inl rfl) (pe_call (ok_draw T) (hr.mono (by decide)) rfl T.g_draw T.F_draw.kp T.b_draw .nil pass0 (pa_cons (pv 0) (pa_cons pe_int pa_nil))))) pss_nil)
        (pss_one (ps_set (i := 4) sc_number.nd rfl (Or.inl rfl) (pe_op op_add (pe_op op_mulX (pv 4) pe_int) (pv 6)))))))
        (pss_one (ps_ret (pv 4))))))))), ?_⟩
    refine ⟨_, rfl, p, 4, rfl, hP, by decide, by decide, fun kd H1 k0 k1 P1 s1 => ?_⟩
    refine ⟨_, rfl, rfl, _, rfl, ?_⟩
    refine iteD (fun c => ?_) (fun c => ?_)
    · refine ⟨_, rfl, p, 10, rfl, P1, by decide, by decide, fun r H2 r0 r1 P2 s2 => k r H2 r0 ?_ P2 (s1.trans s2)⟩
      have := pow_le g1
      rw [Int.pow_succ, Int.pow_zero] at this
      omega
    · refine ⟨_, rfl, ?_⟩
      refine ⟨_, rfl, _, _, rfl, rfl, _, rfl, ?_⟩
      refine iteD (fun c2 => ?_) (fun c2 => ?_)
      · refine ⟨_, rfl, _, rfl, p, g, rfl, P1, by omega, by omega, fun r H2 r0 r1 P2 s2 => ⟨_, _, rfl, rfl, ?_⟩⟩
        refine ⟨_, rfl, 1 + r, rfl, by omega, by omega, for_range (lo := 0) (n := (1 + r).toNat) (fun i σ H' => ∃ (n : Int) (v5 v6 : Option V), σ = [some (.ref p), some (.int g), some (.int kd), some (.int (1 + r)), some (.int n), v5, v6] ∧ 0 ≤ n ∧ n < 1000 ^ i ∧ PoolAt H' p ∧ SameBut p H H') ⟨0, none, none, rfl, by decide, by decide, P2, s1.trans s2⟩ ?_ ?_⟩
        · rintro i σ H' hi ⟨n, v5, v6, rfl, n0, n1, P', s'⟩
          refine ⟨_, rfl, _, _, rfl, rfl, _, rfl, ?_⟩
          refine iteD (fun _ => ?_) (fun z => absurd c2 z)
          refine ⟨_, rfl, p, 1000, rfl, P', by decide, by decide, fun q H3 q0 q1 P3 s3 => ?_⟩
          refine ⟨_, rfl, _, _, rfl, rfl, mulR ⟨by decide, by decide⟩, _, rfl, _, _, rfl, rfl, ?_⟩
          refine ⟨_, _, _, rfl, by omega, ?_, P3, s'.trans s3⟩
          rw [Int.pow_succ]; omega
        · rintro σ H' ⟨n, v5, v6, rfl, n0, n1, P', s'⟩
          refine ⟨_, rfl, k n H' n0 ?_ P' s'⟩
          have := pow_le (m := (1 + r).toNat) (n := g) (by omega)
          omega
      · refine ⟨_, rfl, g, rfl, by omega, by omega, for_range (lo := 0) (n := (g : Int).toNat) (fun i σ H' => ∃ (n : Int) (v5 v6 : Option V), σ = [some (.ref p), some (.int g), some (.int kd), some (.int g), some (.int n), v5, v6] ∧ 0 ≤ n ∧ n < 1000 ^ i ∧ H' = H1) ⟨0, none, none, rfl, by decide, by decide, rfl⟩ ?_ ?_⟩
        · rintro i σ H' hi ⟨n, v5, v6, rfl, n0, n1, rfl⟩
          refine ⟨_, rfl, _, _, rfl, rfl, _, rfl, ?_⟩
          refine iteD (fun z => absurd z c2) (fun _ => ?_)
          refine ⟨_, rfl, _, _, rfl, rfl, mulR ⟨by decide, by decide⟩, _, rfl, _, _, rfl, rfl, ?_⟩
          refine ⟨_, _, _, rfl, by omega, ?_, rfl⟩
          rw [Int.pow_succ]; omega
        · rintro σ H' ⟨n, v5, v6, rfl, n0, n1, rfl⟩
          exact ⟨_, rfl, k n _ n0 (by simpa using n1) P1 s1⟩
theorem ok_signed (T : Txt K mg A) : FnOk P w K mg base CX0 3 A.f_signed A.d_signed ["_law_pool_here", "_law_groups"] (spSigned) := by
  refine T.F_signed.ok sc_signed (fun vs H Q E h => ?_) (fun cdv Ar outer s H vs Q E hr h => ?_)
  · obtain ⟨p, g, rfl, _⟩ := h
    rfl
  · obtain ⟨p, g, rfl, hP, g1, g2, k⟩ := h
    refine ⟨_, (pss_cons (ps_set (i := 2) sc_signed.nd rfl (Or.inl rfl) (pe_call (ok_number T) (hr.mono (by decide)) rfl T.g_number T.F_number.kp T.b_number .nil pass0 (pa_cons (pv 0) (pa_cons (pv 1) pa_nil))))
        (pss_one (ps_ret (pe_op op_mulX (pv 2) (pe_op op_sub pe_int (pe_op op_mulX pe_int (pe_call (ok_draw T) (hr.mono (by decide)) rfl T.g_draw T.F_draw.kp T.b_draw .nil pass0 (pa_cons (pv 0) (pa_cons pe_int pa_nil))))))))), ?_⟩
    refine ⟨_, rfl, _, rfl, p, g, rfl, hP, g1, g2, fun r H1 r0 r1 P1 s1 => ?_⟩
    refine ⟨_, rfl, _, rfl, p, 2, rfl, P1, by decide, by decide, fun q H2 q0 q1 P2 s2 => ⟨_, _, rfl, rfl, mulL ⟨by decide, by decide⟩, _, _, rfl, rfl, _, _, rfl, rfl, mulR ⟨by omega, by omega⟩, ?_⟩⟩
    have hb := bits_of r0 r1
    refine k _ H2 ?_ P2 (s1.trans s2)
    rcases (show q = 0 ∨ q = 1 by omega) with rfl | rfl
    · exact hb.le (by simp)
    · exact hb.le (by simp)
theorem ok_pair (T : Txt K mg A) : FnOk P w K mg base CX0 4 A.f_pair A.d_pair ["_law_pool_here"] (spPair) := by
  refine T.F_pair.ok sc_pair (fun vs H Q E h => ?_) (fun cdv Ar outer s H vs Q E hr h => ?_)
  · obtain ⟨p, rfl, _⟩ := h
    rfl
  · obtain ⟨p, rfl, hP, k⟩ := h
    refine ⟨_, (pss_cons (ps_set (i := 1) sc_pair.nd rfl (Or.inl rfl) pe_int)
        (pss_cons (ps_set (i := 2) sc_pair.nd rfl (Or.inl rfl) pe_int)
        (pss_cons (ps_if (pt_cmpR op_eq (pe_call (ok_draw T) (hr.mono (by decide)) rfl T.g_draw T.F_draw.kp T.b_draw .nil pass0 (pa_cons (pv 0) (pa_cons pe_int pa_nil))) pe_int (nomark _)) (pss_cons (ps_set (i := 1) sc_pair.nd rfl (Or.inl rfl) (pe_call (ok_signed T) (hr.mono (by decide)) rfl T.g_signed T.F_signed.kp T.b_signed .nil pass0 (pa_cons (pv 0) (pa_cons pe_int pa_nil))))
        (pss_one (ps_set (i := 2) sc_pair.nd rfl (Or.inl rfl) pe_int))) pss_nil)
        (pss_cons (ps_set (i := 3) sc_pair.nd rfl (Or.inl rfl) (pe_op op_mulX (pe_call (ok_signed T) (hr.mono (by decide)) rfl T.g_signed T.F_signed.kp T.b_signed .nil pass0 (pa_cons (pv 0) (pa_cons (pv 2) pa_nil))) (pv 1)))
        (pss_cons (ps_set (i := 4) sc_pair.nd rfl (Or.inl rfl) (pe_op op_mulX (pe_call (ok_signed T) (hr.mono (by decide)) rfl T.g_signed T.F_signed.kp T.b_signed .nil pass0 (pa_cons (pv 0) (pa_cons (pv 2) pa_nil))) (pv 1)))
        (pss_cons (ps_if (pt_cmpR op_eq (pv 4) pe_int (nomark _)) (pss_one (ps_set (i := 4) sc_pair.nd rfl (Or.inl rfl) pe_int)) pss_nil)
        (pss_one (ps_ret (pe_tup (pa_cons (pv 3) (pa_cons (pv 4) pa_nil))))))))))), ?_⟩
    refine ⟨_, rfl, p, 2, rfl, hP, by decide, by decide, fun f H1 f0 f1 P1 s1 => ⟨rfl, _, rfl, ?_⟩⟩
    refine iteD (fun c => ?_) (fun c => ?_)
    · refine ⟨_, rfl, p, 5, rfl, P1, by decide, by decide, fun c H2 hc P2 s2 => ?_⟩
      refine ⟨_, rfl, _, rfl, p, 5, rfl, P2, by decide, by decide, fun a Ha ha Pa sa => ⟨_, rfl, _, _, rfl, rfl, ha.ok hc (by decide) (by decide) (by decide), _, rfl, _, rfl, p, 5, rfl, Pa, by decide, by decide, fun b Hb hb Pb sb => ⟨_, rfl, _, _, rfl, rfl, hb.ok hc (by decide) (by decide) (by decide), ?_⟩⟩⟩
      refine ⟨_, rfl, rfl, _, rfl, ?_⟩
      refine iteD (fun z => ?_) (fun z => ?_)
      · refine ⟨_, rfl, _, rfl, (by show 2 ≤ sizeLine; decide), fun t ht => ?_⟩
        exact k t _ _ _ (ha.mul hc) (Bits.one (by decide)) (by decide) (Pb.ne ht).symm (Pb.mono (same_new ht)) ((s1.trans s2).trans (sa.trans (sb.trans (same_new ht).but))) upd_same
      · refine ⟨_, rfl, _, rfl, (by show 2 ≤ sizeLine; decide), fun t ht => ?_⟩
        exact k t _ _ _ (ha.mul hc) (hb.mul hc) (fun e => z (congrArg V.int e)) (Pb.ne ht).symm (Pb.mono (same_new ht)) ((s1.trans s2).trans (sa.trans (sb.trans (same_new ht).but))) upd_same
    · have hone : Bits 1 1 := Bits.one (by decide)
      refine ⟨_, rfl, _, rfl, p, 10, rfl, P1, by decide, by decide, fun a Ha ha Pa sa => ⟨_, rfl, _, _, rfl, rfl, ha.ok hone (by decide) (by decide) (by decide), _, rfl, _, rfl, p, 10, rfl, Pa, by decide, by decide, fun b Hb hb Pb sb => ⟨_, rfl, _, _, rfl, rfl, hb.ok hone (by decide) (by decide) (by decide), ?_⟩⟩⟩
      refine ⟨_, rfl, rfl, _, rfl, ?_⟩
      refine iteD (fun z => ?_) (fun z => ?_)
      · refine ⟨_, rfl, _, rfl, (by show 2 ≤ sizeLine; decide), fun t ht => ?_⟩
        exact k t _ _ _ (by rw [Int.mul_one]; exact ha) (Bits.one (by decide)) (by decide) (Pb.ne ht).symm (Pb.mono (same_new ht)) (s1.trans (sa.trans (sb.trans (same_new ht).but))) upd_same
      · refine ⟨_, rfl, _, rfl, (by show 2 ≤ sizeLine; decide), fun t ht => ?_⟩
        exact k t _ _ _ (by rw [Int.mul_one]; exact ha) (by rw [Int.mul_one]; exact hb) (fun e => z (congrArg V.int e)) (Pb.ne ht).symm (Pb.mono (same_new ht)) (s1.trans (sa.trans (sb.trans (same_new ht).but))) upd_same
theorem ok_whole (T : Txt K mg A) : FnOk P w K mg base CX0 1 A.f_whole A.d_whole ["_law_value"] (spWhole) := by
  refine T.F_whole.ok sc_whole (fun vs H Q E h => ?_) (fun cdv Ar outer s H vs Q E hr h => ?_)
  · obtain ⟨i, rfl, _⟩ := h
    rfl
  · obtain ⟨i, rfl, k⟩ := h
    refine ⟨_, (pss_one (ps_ret (pe_and (pe_callB (call_isiK' K) (by rfl) T.n_isinstance (by decide +kernel) (pa_cons (pv 0) (pa_cons (pe_bltn (v := .ty "int") (by rfl) T.n_int (by decide +kernel) rfl) pa_nil))) (pe_one (pe_not (pe_callB (call_isiK' K) (by rfl) T.n_isinstance (by decide +kernel) (pa_cons (pv 0) (pa_cons (pe_bltn (v := .ty "bool") (by rfl) T.n_bool (by decide +kernel) rfl) pa_nil)))))))), ?_⟩
    exact ⟨_, rfl, _, _, _, _, true, rfl, .ty _, .base (.int _), kit_ty (by decide +kernel), true, rfl, iteT ⟨_, rfl, _, _, _, _, false, rfl, .ty _, .base (.int _), kit_ty (by decide +kernel), false, rfl, k⟩⟩
theorem ok_coprime (T : Txt K mg A) : FnOk P w K mg base CX0 1 A.f_coprime A.d_coprime ["_law_one", "_law_other"] (spCop) := by
  refine T.F_coprime.ok sc_coprime (fun vs H Q E h => ?_) (fun cdv Ar outer s H vs Q E hr h => ?_)
  · obtain ⟨a, b, rfl, _⟩ := h
    rfl
  · obtain ⟨a, b, rfl, hg, hb, k⟩ := h
    refine ⟨_, (pss_cons (ps_for PassesOwn.never rfl (pi_range1 rfl T.n_range (pa_cons pe_int pa_nil)) (pg_name (i := 2) sc_coprime.nd rfl (Or.inl rfl))
        (pss_cons (ps_if (pt_cmpR op_eq (pv 1) pe_int (nomark _)) (pss_one (ps_ret (pe_cmpR op_eq (pv 0) pe_int (nomark _)))) pss_nil)
        (pss_cons (ps_set (i := 3) sc_coprime.nd rfl (Or.inl rfl) (pe_op op_mod (pe_callTy call_int1 (by rfl) T.n_int (by decide +kernel) (pa_cons (pv 0) pa_nil)) (pv 1)))
        (pss_cons (ps_set (i := 0) sc_coprime.nd rfl (Or.inl rfl) (pv 1))
        (pss_one (ps_set (i := 1) sc_coprime.nd rfl (Or.inl rfl) (pv 3)))))))
        (pss_one (ps_ret pe_bl))), ?_⟩
    refine ⟨500, rfl, by decide, by decide, for_range (lo := 0) (n := 500) (fun i σ H' => ∃ (a b : Nat) (v2 v3 : Option V), σ = [some (.int a), some (.int b), v2, v3] ∧ H' = H ∧ Nat.gcd a b = 1 ∧ Euc a b i ∧ i ≤ 402) ⟨a, b, none, none, rfl, rfl, hg, .inl ⟨rfl, hb⟩, by omega⟩ ?_ ?_⟩
    · rintro i σ H' hi ⟨a, b, v2, v3, rfl, rfl, hg, he, hi2⟩
      refine ⟨_, rfl, rfl, _, rfl, ?_⟩
      refine iteD (fun c => ?_) (fun c => ?_)
      · injection c with c
        have hb0 : b = 0 := by omega
        subst hb0
        rw [Nat.gcd_zero_right] at hg
        subst hg
        exact ⟨_, rfl, rfl, k⟩
      · have hb0 : b ≠ 0 := fun e => c (by rw [e]; rfl)
        obtain ⟨he', hi3⟩ := he.turn hb0
        refine ⟨_, rfl, .inl ⟨_, rfl, _, rfl, _, _, rfl, rfl, (by show (0 : Int) < b; omega), ?_⟩⟩
        refine ⟨_, rfl, _, rfl, b, a % b, _, _, rfl, rfl, ?_, he', by omega⟩
        rw [Nat.gcd_comm, ← Nat.gcd_rec, Nat.gcd_comm]
        exact hg
    · rintro σ H' ⟨a, b, v2, v3, rfl, rfl, hg, he, hi2⟩
      exact absurd hi2 (by decide)
theorem ok_is (T : Txt K mg A) : FnOk P w K mg base CX0 2 A.f_is A.d_is ["_law_share", "_law_top", "_law_bottom"] (spIs A) := by
  refine T.F_is.ok sc_is (fun vs H Q E h => ?_) (fun cdv Ar outer s H vs Q E hr h => ?_)
  · obtain ⟨x, t, b, tt, bb, n, m, rfl, _⟩ := h
    rfl
  · obtain ⟨x, t, b, tt, bb, n, m, rfl, hX, h1, hc, hcop, hb, hbt, hn, hn1, hbT, hbB, hm, hm1, k⟩ := h
    refine ⟨_, (pss_cons (ps_if (PW.pt (pw_or (pt_not (pt_val (pe_callB (call_isiK' K) (by rfl) T.n_isinstance (by decide +kernel) (pa_cons (pv 0) (pa_cons (pe_glob (v := .ref A.c_Share) rfl T.g_Share rfl) pa_nil))) (by intro _; rfl))) (pw_or (pt_not (pt_val (pe_call (ok_whole T) (hr.mono (by decide)) rfl T.g_whole T.F_whole.kp T.b_whole .nil pass0 (pa_cons (pe_fldK K (pv 0) rfl) pa_nil)) (by intro _; rfl))) (pw_or1 (pt_not (pt_val (pe_call (ok_whole T) (hr.mono (by decide)) rfl T.g_whole T.F_whole.kp T.b_whole .nil pass0 (pa_cons (pe_fldK K (pv 0) rfl) pa_nil)) (by intro _; rfl))))))) (pss_one (ps_ret pe_bl)) pss_nil)
        (pss_cons (ps_if (PW.pt (pw_or (pt_cmpR op_lt (pe_fldK K (pv 0) rfl) pe_int (nomark _)) (pw_or1 (pt_cmpR op_ne (pe_op op_mulX (pe_fldK K (pv 0) rfl) (pv 2)) (pe_op op_mulX (pv 1) (pe_fldK K (pv 0) rfl)) (nomark _))))) (pss_one (ps_ret pe_bl)) pss_nil)
        (pss_one (ps_ret (pe_call (ok_coprime T) (hr.mono (by decide)) rfl T.g_coprime T.F_coprime.kp T.b_coprime .nil pass0 (pa_cons (pe_callB call_abs (by rfl) T.n_abs (by decide +kernel) (pa_cons (pe_fldK K (pv 0) rfl) pa_nil)) (pa_cons (pe_fldK K (pv 0) rfl) pa_nil))))))), ?_⟩
    obtain ⟨dx, ho⟩ := id hX
    refine ⟨_, rfl, _, _, _, _, true, rfl, .own _, .base (.ins ho T.cl_Share T.k1_Share T.kg T.kt T.k4_Share), kit_same, true, rfl, iteF ⟨_, rfl, x, A.c_Share, dx, _, _, rfl, ho, T.cl_Share, T.no_Share_top, sflds_top _ _, t, rfl, true, rfl, iteF ⟨_, rfl, x, A.c_Share, dx, _, _, rfl, ho, T.cl_Share, T.no_Share_bottom, sflds_bottom _ _, b, rfl, true, rfl, iteF ?_⟩⟩⟩
    refine ⟨_, rfl, x, A.c_Share, dx, _, _, rfl, ho, T.cl_Share, T.no_Share_bottom, sflds_bottom _ _, _, _, rfl, rfl, _, rfl, ?_⟩
    refine iteD (fun z => absurd h1 (by omega)) (fun _ => ?_)
    refine ⟨_, rfl, x, A.c_Share, dx, _, _, rfl, ho, T.cl_Share, T.no_Share_top, sflds_top _ _, _, rfl, _, _, rfl, rfl, hbt.ok hbB hn hm (by omega), _, rfl, _, rfl, x, A.c_Share, dx, _, _, rfl, ho, T.cl_Share, T.no_Share_bottom, sflds_bottom _ _, _, _, rfl, rfl, hbT.ok hb hm (by decide) (by omega), rfl, _, rfl, ?_⟩
    refine iteNS (congrArg V.int hc) ?_
    refine ⟨_, rfl, x, A.c_Share, dx, _, _, rfl, ho, T.cl_Share, T.no_Share_top, sflds_top _ _, _, rfl, _, rfl, x, A.c_Share, dx, _, _, rfl, ho, T.cl_Share, T.no_Share_bottom, sflds_bottom _ _, t.natAbs, b.natAbs, ?_, hcop, hb, k⟩
    have e1 : (if t < 0 then -t else t) = (t.natAbs : Int) := by split <;> omega
    have e2 : b = (b.natAbs : Int) := by omega
    first | (rw [e1, ← e2]; done) | (rw [e1, ← e2]; rfl)
theorem ok_sums (T : Txt K mg A) : FnOk P w K mg base CX0 10 A.f_sums A.d_sums ["_law_one", "_law_a", "_law_other", "_law_b"] (spSums A) := by
  refine T.F_sums.ok sc_sums (fun vs H Q E h => ?_) (fun cdv Ar outer s H vs Q E hr h => ?_)
  · obtain ⟨y, z, p, q, t, b, u, d, ta, ba, tb, bb, rfl, _⟩ := h
    rfl
  · obtain ⟨y, z, p, q, t, b, u, d, ta, ba, tb, bb, rfl, hy, hz, hr2, hl, hm, e1, e2, hta, hba, htb, hbb, hp, hq, k⟩ := h
    refine ⟨_, (pss_cons (ps_set (i := 4) sc_sums.nd rfl (Or.inl rfl) (pe_op op_mulX (pe_ix (ix_tupK K) (pv 1) pe_int (fun _ _ => rfl)) (pe_ix (ix_tupK K) (pv 3) pe_int (fun _ _ => rfl))))
        (pss_cons (ps_if (pt_not (pt_val (pe_call (ok_is T) (hr.mono (by decide)) rfl T.g_is T.F_is.kp T.b_is .nil pass0 (pa_cons (pe_op (op_mix (op_own T.me_Share_add T.sf_Share (ok_Share_add T) (hr.mono (by decide)) T.b_Share_add pass0) (op_ownI T.me_Share_add T.sf_Share T.i_Share_add (ok_Share_add T) (hr.mono (by decide)) T.b_Share_add pass0) (op_iown intAdd T.me_Share_add T.me_Share_radd T.sf_Share T.si_Share (ok_Share_radd T) (hr.mono (by decide)) T.b_Share_radd pass0)) (pv 0) (pv 2)) (pa_cons (pe_op op_add (pe_op op_mulX (pe_ix (ix_tupK K) (pv 1) pe_int (fun _ _ => rfl)) (pe_ix (ix_tupK K) (pv 3) pe_int (fun _ _ => rfl))) (pe_op op_mulX (pe_ix (ix_tupK K) (pv 3) pe_int (fun _ _ => rfl)) (pe_ix (ix_tupK K) (pv 1) pe_int (fun _ _ => rfl)))) (pa_cons (pv 4) pa_nil)))) (by intro _; rfl))) (pss_one (ps_ret pe_bl)) pss_nil)
        (pss_cons (ps_if (pt_not (pt_val (pe_call (ok_is T) (hr.mono (by decide)) rfl T.g_is T.F_is.kp T.b_is .nil pass0 (pa_cons (pe_op (op_mix (op_own T.me_Share_sub T.sf_Share (ok_Share_sub T) (hr.mono (by decide)) T.b_Share_sub pass0) (op_ownI T.me_Share_sub T.sf_Share T.i_Share_sub (ok_Share_sub T) (hr.mono (by decide)) T.b_Share_sub pass0) (op_iown intSub T.me_Share_sub T.me_Share_rsub T.sf_Share T.si_Share (ok_Share_rsub T) (hr.mono (by decide)) T.b_Share_rsub pass0)) (pv 0) (pv 2)) (pa_cons (pe_op op_sub (pe_op op_mulX (pe_ix (ix_tupK K) (pv 1) pe_int (fun _ _ => rfl)) (pe_ix (ix_tupK K) (pv 3) pe_int (fun _ _ => rfl))) (pe_op op_mulX (pe_ix (ix_tupK K) (pv 3) pe_int (fun _ _ => rfl)) (pe_ix (ix_tupK K) (pv 1) pe_int (fun _ _ => rfl)))) (pa_cons (pv 4) pa_nil)))) (by intro _; rfl))) (pss_one (ps_ret pe_bl)) pss_nil)
        (pss_one (ps_ret (pe_call (ok_is T) (hr.mono (by decide)) rfl T.g_is T.F_is.kp T.b_is .nil pass0 (pa_cons (pe_op (op_mix (op_own T.me_Share_mul T.sf_Share (ok_Share_mul T) (hr.mono (by decide)) T.b_Share_mul pass0) (op_ownI T.me_Share_mul T.sf_Share T.i_Share_mul (ok_Share_mul T) (hr.mono (by decide)) T.b_Share_mul pass0) (op_iown intMul T.me_Share_mul T.me_Share_rmul T.sf_Share T.si_Share (ok_Share_rmul T) (hr.mono (by decide)) T.b_Share_rmul pass0)) (pv 0) (pv 2)) (pa_cons (pe_op op_mulX (pe_ix (ix_tupK K) (pv 1) pe_int (fun _ _ => rfl)) (pe_ix (ix_tupK K) (pv 3) pe_int (fun _ _ => rfl))) (pa_cons (pv 4) pa_nil))))))))), ?_⟩
    have s0 : Same H H := Same.refl _
    have hbd : b * d ≠ 0 := by have := Int.mul_pos (show 0 < b by have := hl.pos; omega) (show 0 < d by have := hm.pos; omega); omega
    refine ⟨_, rfl, p, _, 1, _, rfl, rfl, SqT.of hp, rfl, _, rfl, q, _, 1, _, rfl, rfl, SqT.of hq, rfl, _, _, rfl, rfl, hba.ok hbb (by decide) (by decide) (by decide), ?_⟩
    refine ⟨_, rfl, _, rfl, mixAdd (hy.mono s0) (hz.mono s0) hr2 hl hm ?_⟩
    intro x1 H1 t1 b1 q1 hx1 r1
    have s1 := s0.trans q1
    refine ⟨_, rfl, p, _, 0, _, rfl, rfl, SqT.of (s1 _ _ hp), rfl, _, rfl, q, _, 1, _, rfl, rfl, SqT.of (s1 _ _ hq), rfl, _, _, rfl, rfl, hta.ok hbb (by decide) (by decide) (by decide), _, rfl, q, _, 0, _, rfl, rfl, SqT.of (s1 _ _ hq), rfl, _, rfl, p, _, 1, _, rfl, rfl, SqT.of (s1 _ _ hp), rfl, _, _, rfl, rfl, htb.ok hba (by decide) (by decide) (by decide), _, _, rfl, rfl, _, rfl, x1, t1, b1, _, _, 300, 300, rfl, hx1, r1.pos, (cr_add hbd r1.cross e1 e2), r1.cop, ((hl.bb.mul hm.bb).le r1.sb), (Bits.up (Bits.le ((hl.bt.mul hm.bb).add (hm.bt.mul hl.bb)) r1.st) (by decide)), by decide, by decide, (Bits.up ((hta.mul hbb).add (htb.mul hba)) (by decide)), (Bits.up (hba.mul hbb) (by decide)), by decide, by decide, true, rfl, iteF ?_⟩
    refine ⟨_, rfl, _, rfl, mixSub (hy.mono s1) (hz.mono s1) hr2 hl hm ?_⟩
    intro x2 H2 t2 b2 q2 hx2 r2
    have s2 := s1.trans q2
    refine ⟨_, rfl, p, _, 0, _, rfl, rfl, SqT.of (s2 _ _ hp), rfl, _, rfl, q, _, 1, _, rfl, rfl, SqT.of (s2 _ _ hq), rfl, _, _, rfl, rfl, hta.ok hbb (by decide) (by decide) (by decide), _, rfl, q, _, 0, _, rfl, rfl, SqT.of (s2 _ _ hq), rfl, _, rfl, p, _, 1, _, rfl, rfl, SqT.of (s2 _ _ hp), rfl, _, _, rfl, rfl, htb.ok hba (by decide) (by decide) (by decide), _, _, rfl, rfl, _, rfl, x2, t2, b2, _, _, 300, 300, rfl, hx2, r2.pos, (cr_sub hbd r2.cross e1 e2), r2.cop, ((hl.bb.mul hm.bb).le r2.sb), (Bits.up (Bits.le ((hl.bt.mul hm.bb).add (hm.bt.neg.mul hl.bb)) r2.st) (by decide)), by decide, by decide, (Bits.up ((hta.mul hbb).sub (htb.mul hba)) (by decide)), (Bits.up (hba.mul hbb) (by decide)), by decide, by decide, true, rfl, iteF ?_⟩
    refine ⟨_, rfl, _, rfl, mixMul (hy.mono s2) (hz.mono s2) hr2 hl hm ?_⟩
    intro x3 H3 t3 b3 q3 hx3 r3
    have s3 := s2.trans q3
    refine ⟨_, rfl, p, _, 0, _, rfl, rfl, SqT.of (s3 _ _ hp), rfl, _, rfl, q, _, 0, _, rfl, rfl, SqT.of (s3 _ _ hq), rfl, _, _, rfl, rfl, hta.ok htb (by decide) (by decide) (by decide), _, rfl, x3, t3, b3, _, _, 300, 300, rfl, hx3, r3.pos, (cr_mul hbd r3.cross e1 e2), r3.cop, ((hl.bb.mul hm.bb).le r3.sb), (Bits.up (Bits.le (hl.bt.mul hm.bt) r3.st) (by decide)), by decide, by decide, (Bits.up (hta.mul htb) (by decide)), (Bits.up (hba.mul hbb) (by decide)), by decide, by decide, k H3 s3⟩
theorem ok_powers (T : Txt K mg A) : FnOk P w K mg base CX0 9 A.f_powers A.d_powers ["_law_share", "_law_block"] (spPows A) := by
  refine T.F_powers.ok sc_powers (fun vs H Q E h => ?_) (fun cdv Ar outer s H vs Q E hr h => ?_)
  · obtain ⟨x, t, b, m, rfl, _⟩ := h
    rfl
  · obtain ⟨x, t, b, m, rfl, hX, hl, hm, k⟩ := h
    refine ⟨_, (pss_cons (ps_if (pt_cmpR op_eq (pv 1) pe_int (nomark _)) (pss_one (ps_ret (pe_lst (pa_cons (pe_op (op_ownI T.me_Share_pow T.sf_Share T.i_Share_pow (ok_Share_pow T) (hr.mono (by decide)) T.b_Share_pow pass0) (pv 0) pe_int) (pa_cons (pe_op (op_ownI T.me_Share_pow T.sf_Share T.i_Share_pow (ok_Share_pow T) (hr.mono (by decide)) T.b_Share_pow pass0) (pv 0) pe_int) (pa_cons (pe_op (op_ownI T.me_Share_pow T.sf_Share T.i_Share_pow (ok_Share_pow T) (hr.mono (by decide)) T.b_Share_pow pass0) (pv 0) pe_int) (pa_cons (pe_op (op_ownI T.me_Share_pow T.sf_Share T.i_Share_pow (ok_Share_pow T) (hr.mono (by decide)) T.b_Share_pow pass0) (pv 0) pe_int) (pa_cons (pe_op (op_ownI T.me_Share_pow T.sf_Share T.i_Share_pow (ok_Share_pow T) (hr.mono (by decide)) T.b_Share_pow pass0) (pv 0) pe_int) pa_nil)))))))) pss_nil)
        (pss_cons (ps_if (pt_cmpR op_eq (pv 1) pe_int (nomark _)) (pss_one (ps_ret (pe_lst (pa_cons (pe_op (op_ownI T.me_Share_pow T.sf_Share T.i_Share_pow (ok_Share_pow T) (hr.mono (by decide)) T.b_Share_pow pass0) (pv 0) pe_int) (pa_cons (pe_op (op_ownI T.me_Share_pow T.sf_Share T.i_Share_pow (ok_Share_pow T) (hr.mono (by decide)) T.b_Share_pow pass0) (pv 0) pe_int) (pa_cons (pe_op (op_ownI T.me_Share_pow T.sf_Share T.i_Share_pow (ok_Share_pow T) (hr.mono (by decide)) T.b_Share_pow pass0) (pv 0) pe_int) (pa_cons (pe_op (op_ownI T.me_Share_pow T.sf_Share T.i_Share_pow (ok_Share_pow T) (hr.mono (by decide)) T.b_Share_pow pass0) (pv 0) pe_int) (pa_cons (pe_op (op_ownI T.me_Share_pow T.sf_Share T.i_Share_pow (ok_Share_pow T) (hr.mono (by decide)) T.b_Share_pow pass0) (pv 0) pe_int) pa_nil)))))))) pss_nil)
        (pss_cons (ps_if (pt_cmpR op_eq (pv 1) pe_int (nomark _)) (pss_one (ps_ret (pe_lst (pa_cons (pe_op (op_ownI T.me_Share_pow T.sf_Share T.i_Share_pow (ok_Share_pow T) (hr.mono (by decide)) T.b_Share_pow pass0) (pv 0) pe_int) (pa_cons (pe_op (op_ownI T.me_Share_pow T.sf_Share T.i_Share_pow (ok_Share_pow T) (hr.mono (by decide)) T.b_Share_pow pass0) (pv 0) pe_int) (pa_cons (pe_op (op_ownI T.me_Share_pow T.sf_Share T.i_Share_pow (ok_Share_pow T) (hr.mono (by decide)) T.b_Share_pow pass0) (pv 0) pe_int) (pa_cons (pe_op (op_ownI T.me_Share_pow T.sf_Share T.i_Share_pow (ok_Share_pow T) (hr.mono (by decide)) T.b_Share_pow pass0) (pv 0) pe_int) (pa_cons (pe_op (op_ownI T.me_Share_pow T.sf_Share T.i_Share_pow (ok_Share_pow T) (hr.mono (by decide)) T.b_Share_pow pass0) (pv 0) pe_int) pa_nil)))))))) pss_nil)
        (pss_cons (ps_if (pt_cmpR op_eq (pv 1) pe_int (nomark _)) (pss_one (ps_ret (pe_lst (pa_cons (pe_op (op_ownI T.me_Share_pow T.sf_Share T.i_Share_pow (ok_Share_pow T) (hr.mono (by decide)) T.b_Share_pow pass0) (pv 0) pe_int) (pa_cons (pe_op (op_ownI T.me_Share_pow T.sf_Share T.i_Share_pow (ok_Share_pow T) (hr.mono (by decide)) T.b_Share_pow pass0) (pv 0) pe_int) (pa_cons (pe_op (op_ownI T.me_Share_pow T.sf_Share T.i_Share_pow (ok_Share_pow T) (hr.mono (by decide)) T.b_Share_pow pass0) (pv 0) pe_int) (pa_cons (pe_op (op_ownI T.me_Share_pow T.sf_Share T.i_Share_pow (ok_Share_pow T) (hr.mono (by decide)) T.b_Share_pow pass0) (pv 0) pe_int) (pa_cons (pe_op (op_ownI T.me_Share_pow T.sf_Share T.i_Share_pow (ok_Share_pow T) (hr.mono (by decide)) T.b_Share_pow pass0) (pv 0) pe_int) pa_nil)))))))) pss_nil)
        (pss_cons (ps_if (pt_cmpR op_eq (pv 1) pe_int (nomark _)) (pss_one (ps_ret (pe_lst (pa_cons (pe_op (op_ownI T.me_Share_pow T.sf_Share T.i_Share_pow (ok_Share_pow T) (hr.mono (by decide)) T.b_Share_pow pass0) (pv 0) pe_int) (pa_cons (pe_op (op_ownI T.me_Share_pow T.sf_Share T.i_Share_pow (ok_Share_pow T) (hr.mono (by decide)) T.b_Share_pow pass0) (pv 0) pe_int) (pa_cons (pe_op (op_ownI T.me_Share_pow T.sf_Share T.i_Share_pow (ok_Share_pow T) (hr.mono (by decide)) T.b_Share_pow pass0) (pv 0) pe_int) (pa_cons (pe_op (op_ownI T.me_Share_pow T.sf_Share T.i_Share_pow (ok_Share_pow T) (hr.mono (by decide)) T.b_Share_pow pass0) (pv 0) pe_int) (pa_cons (pe_op (op_ownI T.me_Share_pow T.sf_Share T.i_Share_pow (ok_Share_pow T) (hr.mono (by decide)) T.b_Share_pow pass0) (pv 0) pe_int) pa_nil)))))))) pss_nil)
        (pss_cons (ps_if (pt_cmpR op_eq (pv 1) pe_int (nomark _)) (pss_one (ps_ret (pe_lst (pa_cons (pe_op (op_ownI T.me_Share_pow T.sf_Share T.i_Share_pow (ok_Share_pow T) (hr.mono (by decide)) T.b_Share_pow pass0) (pv 0) pe_int) (pa_cons (pe_op (op_ownI T.me_Share_pow T.sf_Share T.i_Share_pow (ok_Share_pow T) (hr.mono (by decide)) T.b_Share_pow pass0) (pv 0) pe_int) (pa_cons (pe_op (op_ownI T.me_Share_pow T.sf_Share T.i_Share_pow (ok_Share_pow T) (hr.mono (by decide)) T.b_Share_pow pass0) (pv 0) pe_int) (pa_cons (pe_op (op_ownI T.me_Share_pow T.sf_Share T.i_Share_pow (ok_Share_pow T) (hr.mono (by decide)) T.b_Share_pow pass0) (pv 0) pe_int) (pa_cons (pe_op (op_ownI T.me_Share_pow T.sf_Share T.i_Share_pow (ok_Share_pow T) (hr.mono (by decide)) T.b_Share_pow pass0) (pv 0) pe_int) pa_nil)))))))) pss_nil)
        (pss_cons (ps_if (pt_cmpR op_eq (pv 1) pe_int (nomark _)) (pss_one (ps_ret (pe_lst (pa_cons (pe_op (op_ownI T.me_Share_pow T.sf_Share T.i_Share_pow (ok_Share_pow T) (hr.mono (by decide)) T.b_Share_pow pass0) (pv 0) pe_int) (pa_cons (pe_op (op_ownI T.me_Share_pow T.sf_Share T.i_Share_pow (ok_Share_pow T) (hr.mono (by decide)) T.b_Share_pow pass0) (pv 0) pe_int) (pa_cons (pe_op (op_ownI T.me_Share_pow T.sf_Share T.i_Share_pow (ok_Share_pow T) (hr.mono (by decide)) T.b_Share_pow pass0) (pv 0) pe_int) (pa_cons (pe_op (op_ownI T.me_Share_pow T.sf_Share T.i_Share_pow (ok_Share_pow T) (hr.mono (by decide)) T.b_Share_pow pass0) (pv 0) pe_int) (pa_cons (pe_op (op_ownI T.me_Share_pow T.sf_Share T.i_Share_pow (ok_Share_pow T) (hr.mono (by decide)) T.b_Share_pow pass0) (pv 0) pe_int) pa_nil)))))))) pss_nil)
        (pss_cons (ps_if (pt_cmpR op_eq (pv 1) pe_int (nomark _)) (pss_one (ps_ret (pe_lst (pa_cons (pe_op (op_ownI T.me_Share_pow T.sf_Share T.i_Share_pow (ok_Share_pow T) (hr.mono (by decide)) T.b_Share_pow pass0) (pv 0) pe_int) (pa_cons (pe_op (op_ownI T.me_Share_pow T.sf_Share T.i_Share_pow (ok_Share_pow T) (hr.mono (by decide)) T.b_Share_pow pass0) (pv 0) pe_int) (pa_cons (pe_op (op_ownI T.me_Share_pow T.sf_Share T.i_Share_pow (ok_Share_pow T) (hr.mono (by decide)) T.b_Share_pow pass0) (pv 0) pe_int) (pa_cons (pe_op (op_ownI T.me_Share_pow T.sf_Share T.i_Share_pow (ok_Share_pow T) (hr.mono (by decide)) T.b_Share_pow pass0) (pv 0) pe_int) (pa_cons (pe_op (op_ownI T.me_Share_pow T.sf_Share T.i_Share_pow (ok_Share_pow T) (hr.mono (by decide)) T.b_Share_pow pass0) (pv 0) pe_int) pa_nil)))))))) pss_nil)
        (pss_cons (ps_if (pt_cmpR op_eq (pv 1) pe_int (nomark _)) (pss_one (ps_ret (pe_lst (pa_cons (pe_op (op_ownI T.me_Share_pow T.sf_Share T.i_Share_pow (ok_Share_pow T) (hr.mono (by decide)) T.b_Share_pow pass0) (pv 0) pe_int) (pa_cons (pe_op (op_ownI T.me_Share_pow T.sf_Share T.i_Share_pow (ok_Share_pow T) (hr.mono (by decide)) T.b_Share_pow pass0) (pv 0) pe_int) (pa_cons (pe_op (op_ownI T.me_Share_pow T.sf_Share T.i_Share_pow (ok_Share_pow T) (hr.mono (by decide)) T.b_Share_pow pass0) (pv 0) pe_int) (pa_cons (pe_op (op_ownI T.me_Share_pow T.sf_Share T.i_Share_pow (ok_Share_pow T) (hr.mono (by decide)) T.b_Share_pow pass0) (pv 0) pe_int) (pa_cons (pe_op (op_ownI T.me_Share_pow T.sf_Share T.i_Share_pow (ok_Share_pow T) (hr.mono (by decide)) T.b_Share_pow pass0) (pv 0) pe_int) pa_nil)))))))) pss_nil)
        (pss_cons (ps_if (pt_cmpR op_eq (pv 1) pe_int (nomark _)) (pss_one (ps_ret (pe_lst (pa_cons (pe_op (op_ownI T.me_Share_pow T.sf_Share T.i_Share_pow (ok_Share_pow T) (hr.mono (by decide)) T.b_Share_pow pass0) (pv 0) pe_int) (pa_cons (pe_op (op_ownI T.me_Share_pow T.sf_Share T.i_Share_pow (ok_Share_pow T) (hr.mono (by decide)) T.b_Share_pow pass0) (pv 0) pe_int) (pa_cons (pe_op (op_ownI T.me_Share_pow T.sf_Share T.i_Share_pow (ok_Share_pow T) (hr.mono (by decide)) T.b_Share_pow pass0) (pv 0) pe_int) (pa_cons (pe_op (op_ownI T.me_Share_pow T.sf_Share T.i_Share_pow (ok_Share_pow T) (hr.mono (by decide)) T.b_Share_pow pass0) (pv 0) pe_int) (pa_cons (pe_op (op_ownI T.me_Share_pow T.sf_Share T.i_Share_pow (ok_Share_pow T) (hr.mono (by decide)) T.b_Share_pow pass0) (pv 0) pe_int) pa_nil)))))))) pss_nil)
        (pss_cons (ps_if (pt_cmpR op_eq (pv 1) pe_int (nomark _)) (pss_one (ps_ret (pe_lst (pa_cons (pe_op (op_ownI T.me_Share_pow T.sf_Share T.i_Share_pow (ok_Share_pow T) (hr.mono (by decide)) T.b_Share_pow pass0) (pv 0) pe_int) (pa_cons (pe_op (op_ownI T.me_Share_pow T.sf_Share T.i_Share_pow (ok_Share_pow T) (hr.mono (by decide)) T.b_Share_pow pass0) (pv 0) pe_int) (pa_cons (pe_op (op_ownI T.me_Share_pow T.sf_Share T.i_Share_pow (ok_Share_pow T) (hr.mono (by decide)) T.b_Share_pow pass0) (pv 0) pe_int) (pa_cons (pe_op (op_ownI T.me_Share_pow T.sf_Share T.i_Share_pow (ok_Share_pow T) (hr.mono (by decide)) T.b_Share_pow pass0) (pv 0) pe_int) (pa_cons (pe_op (op_ownI T.me_Share_pow T.sf_Share T.i_Share_pow (ok_Share_pow T) (hr.mono (by decide)) T.b_Share_pow pass0) (pv 0) pe_int) pa_nil)))))))) pss_nil)
        (pss_cons (ps_if (pt_cmpR op_eq (pv 1) pe_int (nomark _)) (pss_one (ps_ret (pe_lst (pa_cons (pe_op (op_ownI T.me_Share_pow T.sf_Share T.i_Share_pow (ok_Share_pow T) (hr.mono (by decide)) T.b_Share_pow pass0) (pv 0) pe_int) (pa_cons (pe_op (op_ownI T.me_Share_pow T.sf_Share T.i_Share_pow (ok_Share_pow T) (hr.mono (by decide)) T.b_Share_pow pass0) (pv 0) pe_int) (pa_cons (pe_op (op_ownI T.me_Share_pow T.sf_Share T.i_Share_pow (ok_Share_pow T) (hr.mono (by decide)) T.b_Share_pow pass0) (pv 0) pe_int) (pa_cons (pe_op (op_ownI T.me_Share_pow T.sf_Share T.i_Share_pow (ok_Share_pow T) (hr.mono (by decide)) T.b_Share_pow pass0) (pv 0) pe_int) (pa_cons (pe_op (op_ownI T.me_Share_pow T.sf_Share T.i_Share_pow (ok_Share_pow T) (hr.mono (by decide)) T.b_Share_pow pass0) (pv 0) pe_int) pa_nil)))))))) pss_nil)
        (pss_one (ps_ret (pe_lst (pa_cons (pe_op (op_ownI T.me_Share_pow T.sf_Share T.i_Share_pow (ok_Share_pow T) (hr.mono (by decide)) T.b_Share_pow pass0) (pv 0) pe_int) (pa_cons (pe_op (op_ownI T.me_Share_pow T.sf_Share T.i_Share_pow (ok_Share_pow T) (hr.mono (by decide)) T.b_Share_pow pass0) (pv 0) pe_int) (pa_cons (pe_op (op_ownI T.me_Share_pow T.sf_Share T.i_Share_pow (ok_Share_pow T) (hr.mono (by decide)) T.b_Share_pow pass0) (pv 0) pe_int) (pa_cons (pe_op (op_ownI T.me_Share_pow T.sf_Share T.i_Share_pow (ok_Share_pow T) (hr.mono (by decide)) T.b_Share_pow pass0) (pv 0) pe_int) (pa_cons (pe_op (op_ownI T.me_Share_pow T.sf_Share T.i_Share_pow (ok_Share_pow T) (hr.mono (by decide)) T.b_Share_pow pass0) (pv 0) pe_int) pa_nil)))))))))))))))))))), ?_⟩
    refine ⟨_, rfl, rfl, _, rfl, ?_⟩
    refine iteD (fun c => ?y) (fun c0 => ?_)
    case y =>
      injection c with c
      have hj : m = 0 := by omega
      subst hj
      have s0 : Same H H := Same.refl _
      refine ⟨_, rfl, powI (n := 0) (hX.mono s0) hl (by decide) rfl ?_⟩
      intro x1 H1 q1 hx1
      have s1 := s0.trans q1
      refine ⟨_, rfl, powI (n := 1) (hX.mono s1) hl (by decide) rfl ?_⟩
      intro x2 H2 q2 hx2
      have s2 := s1.trans q2
      refine ⟨_, rfl, powI (n := 2) (hX.mono s2) hl (by decide) rfl ?_⟩
      intro x3 H3 q3 hx3
      have s3 := s2.trans q3
      refine ⟨_, rfl, powI (n := 3) (hX.mono s3) hl (by decide) rfl ?_⟩
      intro x4 H4 q4 hx4
      have s4 := s3.trans q4
      refine ⟨_, rfl, powI (n := 4) (hX.mono s4) hl (by decide) rfl ?_⟩
      intro x5 H5 q5 hx5
      have s5 := s4.trans q5
      refine ⟨(by show 5 ≤ sizeLine; decide), fun p hp => k p [x1, x2, x3, x4, x5] _ (s5.trans (same_new hp)) upd_same rfl fun i y h => ?_⟩
      have sp := same_new (o := .lst ([x1, x2, x3, x4, x5].map V.ref)) hp
      match i, h with
      | 0, h => have e : x1 = y := Option.some.inj h; exact e ▸ ((((hx1.mono q2).mono q3).mono q4).mono q5).mono sp
      | 1, h => have e : x2 = y := Option.some.inj h; exact e ▸ (((hx2.mono q3).mono q4).mono q5).mono sp
      | 2, h => have e : x3 = y := Option.some.inj h; exact e ▸ ((hx3.mono q4).mono q5).mono sp
      | 3, h => have e : x4 = y := Option.some.inj h; exact e ▸ (hx4.mono q5).mono sp
      | 4, h => have e : x5 = y := Option.some.inj h; exact e ▸ hx5.mono sp
      | i + 5, h => exact nomatch h
    have n0 : m ≠ 0 := fun e => c0 (by rw [e]; rfl)
    refine ⟨_, rfl, rfl, _, rfl, ?_⟩
    refine iteD (fun c => ?y) (fun c1 => ?_)
    case y =>
      injection c with c
      have hj : m = 1 := by omega
      subst hj
      have s0 : Same H H := Same.refl _
      refine ⟨_, rfl, powI (n := 5) (hX.mono s0) hl (by decide) rfl ?_⟩
      intro x1 H1 q1 hx1
      have s1 := s0.trans q1
      refine ⟨_, rfl, powI (n := 6) (hX.mono s1) hl (by decide) rfl ?_⟩
      intro x2 H2 q2 hx2
      have s2 := s1.trans q2
      refine ⟨_, rfl, powI (n := 7) (hX.mono s2) hl (by decide) rfl ?_⟩
      intro x3 H3 q3 hx3
      have s3 := s2.trans q3
      refine ⟨_, rfl, powI (n := 8) (hX.mono s3) hl (by decide) rfl ?_⟩
      intro x4 H4 q4 hx4
      have s4 := s3.trans q4
      refine ⟨_, rfl, powI (n := 9) (hX.mono s4) hl (by decide) rfl ?_⟩
      intro x5 H5 q5 hx5
      have s5 := s4.trans q5
      refine ⟨(by show 5 ≤ sizeLine; decide), fun p hp => k p [x1, x2, x3, x4, x5] _ (s5.trans (same_new hp)) upd_same rfl fun i y h => ?_⟩
      have sp := same_new (o := .lst ([x1, x2, x3, x4, x5].map V.ref)) hp
      match i, h with
      | 0, h => have e : x1 = y := Option.some.inj h; exact e ▸ ((((hx1.mono q2).mono q3).mono q4).mono q5).mono sp
      | 1, h => have e : x2 = y := Option.some.inj h; exact e ▸ (((hx2.mono q3).mono q4).mono q5).mono sp
      | 2, h => have e : x3 = y := Option.some.inj h; exact e ▸ ((hx3.mono q4).mono q5).mono sp
      | 3, h => have e : x4 = y := Option.some.inj h; exact e ▸ (hx4.mono q5).mono sp
      | 4, h => have e : x5 = y := Option.some.inj h; exact e ▸ hx5.mono sp
      | i + 5, h => exact nomatch h
    have n1 : m ≠ 1 := fun e => c1 (by rw [e]; rfl)
    refine ⟨_, rfl, rfl, _, rfl, ?_⟩
    refine iteD (fun c => ?y) (fun c2 => ?_)
    case y =>
      injection c with c
      have hj : m = 2 := by omega
      subst hj
      have s0 : Same H H := Same.refl _
      refine ⟨_, rfl, powI (n := 10) (hX.mono s0) hl (by decide) rfl ?_⟩
      intro x1 H1 q1 hx1
      have s1 := s0.trans q1
      refine ⟨_, rfl, powI (n := 11) (hX.mono s1) hl (by decide) rfl ?_⟩
      intro x2 H2 q2 hx2
      have s2 := s1.trans q2
      refine ⟨_, rfl, powI (n := 12) (hX.mono s2) hl (by decide) rfl ?_⟩
      intro x3 H3 q3 hx3
      have s3 := s2.trans q3
      refine ⟨_, rfl, powI (n := 13) (hX.mono s3) hl (by decide) rfl ?_⟩
      intro x4 H4 q4 hx4
      have s4 := s3.trans q4
      refine ⟨_, rfl, powI (n := 14) (hX.mono s4) hl (by decide) rfl ?_⟩
      intro x5 H5 q5 hx5
      have s5 := s4.trans q5
      refine ⟨(by show 5 ≤ sizeLine; decide), fun p hp => k p [x1, x2, x3, x4, x5] _ (s5.trans (same_new hp)) upd_same rfl fun i y h => ?_⟩
      have sp := same_new (o := .lst ([x1, x2, x3, x4, x5].map V.ref)) hp
      match i, h with
      | 0, h => have e : x1 = y := Option.some.inj h; exact e ▸ ((((hx1.mono q2).mono q3).mono q4).mono q5).mono sp
      | 1, h => have e : x2 = y := Option.some.inj h; exact e ▸ (((hx2.mono q3).mono q4).mono q5).mono sp
      | 2, h => have e : x3 = y := Option.some.inj h; exact e ▸ ((hx3.mono q4).mono q5).mono sp
      | 3, h => have e : x4 = y := Option.some.inj h; exact e ▸ (hx4.mono q5).mono sp
      | 4, h => have e : x5 = y := Option.some.inj h; exact e ▸ hx5.mono sp
      | i + 5, h => exact nomatch h
    have n2 : m ≠ 2 := fun e => c2 (by rw [e]; rfl)
    refine ⟨_, rfl, rfl, _, rfl, ?_⟩
    refine iteD (fun c => ?y) (fun c3 => ?_)
    case y =>
      injection c with c
      have hj : m = 3 := by omega
      subst hj
      have s0 : Same H H := Same.refl _
      refine ⟨_, rfl, powI (n := 15) (hX.mono s0) hl (by decide) rfl ?_⟩
      intro x1 H1 q1 hx1
      have s1 := s0.trans q1
      refine ⟨_, rfl, powI (n := 16) (hX.mono s1) hl (by decide) rfl ?_⟩
      intro x2 H2 q2 hx2
      have s2 := s1.trans q2
      refine ⟨_, rfl, powI (n := 17) (hX.mono s2) hl (by decide) rfl ?_⟩
      intro x3 H3 q3 hx3
      have s3 := s2.trans q3
      refine ⟨_, rfl, powI (n := 18) (hX.mono s3) hl (by decide) rfl ?_⟩
      intro x4 H4 q4 hx4
      have s4 := s3.trans q4
      refine ⟨_, rfl, powI (n := 19) (hX.mono s4) hl (by decide) rfl ?_⟩
      intro x5 H5 q5 hx5
      have s5 := s4.trans q5
      refine ⟨(by show 5 ≤ sizeLine; decide), fun p hp => k p [x1, x2, x3, x4, x5] _ (s5.trans (same_new hp)) upd_same rfl fun i y h => ?_⟩
      have sp := same_new (o := .lst ([x1, x2, x3, x4, x5].map V.ref)) hp
      match i, h with
      | 0, h => have e : x1 = y := Option.some.inj h; exact e ▸ ((((hx1.mono q2).mono q3).mono q4).mono q5).mono sp
      | 1, h => have e : x2 = y := Option.some.inj h; exact e ▸ (((hx2.mono q3).mono q4).mono q5).mono sp
      | 2, h => have e : x3 = y := Option.some.inj h; exact e ▸ ((hx3.mono q4).mono q5).mono sp
      | 3, h => have e : x4 = y := Option.some.inj h; exact e ▸ (hx4.mono q5).mono sp
      | 4, h => have e : x5 = y := Option.some.inj h; exact e ▸ hx5.mono sp
      | i + 5, h => exact nomatch h
    have n3 : m ≠ 3 := fun e => c3 (by rw [e]; rfl)
    refine ⟨_, rfl, rfl, _, rfl, ?_⟩
    refine iteD (fun c => ?y) (fun c4 => ?_)
    case y =>
      injection c with c
      have hj : m = 4 := by omega
      subst hj
      have s0 : Same H H := Same.refl _
      refine ⟨_, rfl, powI (n := 20) (hX.mono s0) hl (by decide) rfl ?_⟩
      intro x1 H1 q1 hx1
      have s1 := s0.trans q1
      refine ⟨_, rfl, powI (n := 21) (hX.mono s1) hl (by decide) rfl ?_⟩
      intro x2 H2 q2 hx2
      have s2 := s1.trans q2
      refine ⟨_, rfl, powI (n := 22) (hX.mono s2) hl (by decide) rfl ?_⟩
      intro x3 H3 q3 hx3
      have s3 := s2.trans q3
      refine ⟨_, rfl, powI (n := 23) (hX.mono s3) hl (by decide) rfl ?_⟩
      intro x4 H4 q4 hx4
      have s4 := s3.trans q4
      refine ⟨_, rfl, powI (n := 24) (hX.mono s4) hl (by decide) rfl ?_⟩
      intro x5 H5 q5 hx5
      have s5 := s4.trans q5
      refine ⟨(by show 5 ≤ sizeLine; decide), fun p hp => k p [x1, x2, x3, x4, x5] _ (s5.trans (same_new hp)) upd_same rfl fun i y h => ?_⟩
      have sp := same_new (o := .lst ([x1, x2, x3, x4, x5].map V.ref)) hp
      match i, h with
      | 0, h => have e : x1 = y := Option.some.inj h; exact e ▸ ((((hx1.mono q2).mono q3).mono q4).mono q5).mono sp
      | 1, h => have e : x2 = y := Option.some.inj h; exact e ▸ (((hx2.mono q3).mono q4).mono q5).mono sp
      | 2, h => have e : x3 = y := Option.some.inj h; exact e ▸ ((hx3.mono q4).mono q5).mono sp
      | 3, h => have e : x4 = y := Option.some.inj h; exact e ▸ (hx4.mono q5).mono sp
      | 4, h => have e : x5 = y := Option.some.inj h; exact e ▸ hx5.mono sp
      | i + 5, h => exact nomatch h
    have n4 : m ≠ 4 := fun e => c4 (by rw [e]; rfl)
    refine ⟨_, rfl, rfl, _, rfl, ?_⟩
    refine iteD (fun c => ?y) (fun c5 => ?_)
    case y =>
      injection c with c
      have hj : m = 5 := by omega
      subst hj
      have s0 : Same H H := Same.refl _
      refine ⟨_, rfl, powI (n := 25) (hX.mono s0) hl (by decide) rfl ?_⟩
      intro x1 H1 q1 hx1
      have s1 := s0.trans q1
      refine ⟨_, rfl, powI (n := 26) (hX.mono s1) hl (by decide) rfl ?_⟩
      intro x2 H2 q2 hx2
      have s2 := s1.trans q2
      refine ⟨_, rfl, powI (n := 27) (hX.mono s2) hl (by decide) rfl ?_⟩
      intro x3 H3 q3 hx3
      have s3 := s2.trans q3
      refine ⟨_, rfl, powI (n := 28) (hX.mono s3) hl (by decide) rfl ?_⟩
      intro x4 H4 q4 hx4
      have s4 := s3.trans q4
      refine ⟨_, rfl, powI (n := 29) (hX.mono s4) hl (by decide) rfl ?_⟩
      intro x5 H5 q5 hx5
      have s5 := s4.trans q5
      refine ⟨(by show 5 ≤ sizeLine; decide), fun p hp => k p [x1, x2, x3, x4, x5] _ (s5.trans (same_new hp)) upd_same rfl fun i y h => ?_⟩
      have sp := same_new (o := .lst ([x1, x2, x3, x4, x5].map V.ref)) hp
      match i, h with
      | 0, h => have e : x1 = y := Option.some.inj h; exact e ▸ ((((hx1.mono q2).mono q3).mono q4).mono q5).mono sp
      | 1, h => have e : x2 = y := Option.some.inj h; exact e ▸ (((hx2.mono q3).mono q4).mono q5).mono sp
      | 2, h => have e : x3 = y := Option.some.inj h; exact e ▸ ((hx3.mono q4).mono q5).mono sp
      | 3, h => have e : x4 = y := Option.some.inj h; exact e ▸ (hx4.mono q5).mono sp
      | 4, h => have e : x5 = y := Option.some.inj h; exact e ▸ hx5.mono sp
      | i + 5, h => exact nomatch h
    have n5 : m ≠ 5 := fun e => c5 (by rw [e]; rfl)
    refine ⟨_, rfl, rfl, _, rfl, ?_⟩
    refine iteD (fun c => ?y) (fun c6 => ?_)
    case y =>
      injection c with c
      have hj : m = 6 := by omega
      subst hj
      have s0 : Same H H := Same.refl _
      refine ⟨_, rfl, powI (n := 30) (hX.mono s0) hl (by decide) rfl ?_⟩
      intro x1 H1 q1 hx1
      have s1 := s0.trans q1
      refine ⟨_, rfl, powI (n := 31) (hX.mono s1) hl (by decide) rfl ?_⟩
      intro x2 H2 q2 hx2
      have s2 := s1.trans q2
      refine ⟨_, rfl, powI (n := 32) (hX.mono s2) hl (by decide) rfl ?_⟩
      intro x3 H3 q3 hx3
      have s3 := s2.trans q3
      refine ⟨_, rfl, powI (n := 33) (hX.mono s3) hl (by decide) rfl ?_⟩
      intro x4 H4 q4 hx4
      have s4 := s3.trans q4
      refine ⟨_, rfl, powI (n := 34) (hX.mono s4) hl (by decide) rfl ?_⟩
      intro x5 H5 q5 hx5
      have s5 := s4.trans q5
      refine ⟨(by show 5 ≤ sizeLine; decide), fun p hp => k p [x1, x2, x3, x4, x5] _ (s5.trans (same_new hp)) upd_same rfl fun i y h => ?_⟩
      have sp := same_new (o := .lst ([x1, x2, x3, x4, x5].map V.ref)) hp
      match i, h with
      | 0, h => have e : x1 = y := Option.some.inj h; exact e ▸ ((((hx1.mono q2).mono q3).mono q4).mono q5).mono sp
      | 1, h => have e : x2 = y := Option.some.inj h; exact e ▸ (((hx2.mono q3).mono q4).mono q5).mono sp
      | 2, h => have e : x3 = y := Option.some.inj h; exact e ▸ ((hx3.mono q4).mono q5).mono sp
      | 3, h => have e : x4 = y := Option.some.inj h; exact e ▸ (hx4.mono q5).mono sp
      | 4, h => have e : x5 = y := Option.some.inj h; exact e ▸ hx5.mono sp
      | i + 5, h => exact nomatch h
    have n6 : m ≠ 6 := fun e => c6 (by rw [e]; rfl)
    refine ⟨_, rfl, rfl, _, rfl, ?_⟩
    refine iteD (fun c => ?y) (fun c7 => ?_)
    case y =>
      injection c with c
      have hj : m = 7 := by omega
      subst hj
      have s0 : Same H H := Same.refl _
      refine ⟨_, rfl, powI (n := 35) (hX.mono s0) hl (by decide) rfl ?_⟩
      intro x1 H1 q1 hx1
      have s1 := s0.trans q1
      refine ⟨_, rfl, powI (n := 36) (hX.mono s1) hl (by decide) rfl ?_⟩
      intro x2 H2 q2 hx2
      have s2 := s1.trans q2
      refine ⟨_, rfl, powI (n := 37) (hX.mono s2) hl (by decide) rfl ?_⟩
      intro x3 H3 q3 hx3
      have s3 := s2.trans q3
      refine ⟨_, rfl, powI (n := 38) (hX.mono s3) hl (by decide) rfl ?_⟩
      intro x4 H4 q4 hx4
      have s4 := s3.trans q4
      refine ⟨_, rfl, powI (n := 39) (hX.mono s4) hl (by decide) rfl ?_⟩
      intro x5 H5 q5 hx5
      have s5 := s4.trans q5
      refine ⟨(by show 5 ≤ sizeLine; decide), fun p hp => k p [x1, x2, x3, x4, x5] _ (s5.trans (same_new hp)) upd_same rfl fun i y h => ?_⟩
      have sp := same_new (o := .lst ([x1, x2, x3, x4, x5].map V.ref)) hp
      match i, h with
      | 0, h => have e : x1 = y := Option.some.inj h; exact e ▸ ((((hx1.mono q2).mono q3).mono q4).mono q5).mono sp
      | 1, h => have e : x2 = y := Option.some.inj h; exact e ▸ (((hx2.mono q3).mono q4).mono q5).mono sp
      | 2, h => have e : x3 = y := Option.some.inj h; exact e ▸ ((hx3.mono q4).mono q5).mono sp
      | 3, h => have e : x4 = y := Option.some.inj h; exact e ▸ (hx4.mono q5).mono sp
      | 4, h => have e : x5 = y := Option.some.inj h; exact e ▸ hx5.mono sp
      | i + 5, h => exact nomatch h
    have n7 : m ≠ 7 := fun e => c7 (by rw [e]; rfl)
    refine ⟨_, rfl, rfl, _, rfl, ?_⟩
    refine iteD (fun c => ?y) (fun c8 => ?_)
    case y =>
      injection c with c
      have hj : m = 8 := by omega
      subst hj
      have s0 : Same H H := Same.refl _
      refine ⟨_, rfl, powI (n := 40) (hX.mono s0) hl (by decide) rfl ?_⟩
      intro x1 H1 q1 hx1
      have s1 := s0.trans q1
      refine ⟨_, rfl, powI (n := 41) (hX.mono s1) hl (by decide) rfl ?_⟩
      intro x2 H2 q2 hx2
      have s2 := s1.trans q2
      refine ⟨_, rfl, powI (n := 42) (hX.mono s2) hl (by decide) rfl ?_⟩
      intro x3 H3 q3 hx3
      have s3 := s2.trans q3
      refine ⟨_, rfl, powI (n := 43) (hX.mono s3) hl (by decide) rfl ?_⟩
      intro x4 H4 q4 hx4
      have s4 := s3.trans q4
      refine ⟨_, rfl, powI (n := 44) (hX.mono s4) hl (by decide) rfl ?_⟩
      intro x5 H5 q5 hx5
      have s5 := s4.trans q5
      refine ⟨(by show 5 ≤ sizeLine; decide), fun p hp => k p [x1, x2, x3, x4, x5] _ (s5.trans (same_new hp)) upd_same rfl fun i y h => ?_⟩
      have sp := same_new (o := .lst ([x1, x2, x3, x4, x5].map V.ref)) hp
      match i, h with
      | 0, h => have e : x1 = y := Option.some.inj h; exact e ▸ ((((hx1.mono q2).mono q3).mono q4).mono q5).mono sp
      | 1, h => have e : x2 = y := Option.some.inj h; exact e ▸ (((hx2.mono q3).mono q4).mono q5).mono sp
      | 2, h => have e : x3 = y := Option.some.inj h; exact e ▸ ((hx3.mono q4).mono q5).mono sp
      | 3, h => have e : x4 = y := Option.some.inj h; exact e ▸ (hx4.mono q5).mono sp
      | 4, h => have e : x5 = y := Option.some.inj h; exact e ▸ hx5.mono sp
      | i + 5, h => exact nomatch h
    have n8 : m ≠ 8 := fun e => c8 (by rw [e]; rfl)
    refine ⟨_, rfl, rfl, _, rfl, ?_⟩
    refine iteD (fun c => ?y) (fun c9 => ?_)
    case y =>
      injection c with c
      have hj : m = 9 := by omega
      subst hj
      have s0 : Same H H := Same.refl _
      refine ⟨_, rfl, powI (n := 45) (hX.mono s0) hl (by decide) rfl ?_⟩
      intro x1 H1 q1 hx1
      have s1 := s0.trans q1
      refine ⟨_, rfl, powI (n := 46) (hX.mono s1) hl (by decide) rfl ?_⟩
      intro x2 H2 q2 hx2
      have s2 := s1.trans q2
      refine ⟨_, rfl, powI (n := 47) (hX.mono s2) hl (by decide) rfl ?_⟩
      intro x3 H3 q3 hx3
      have s3 := s2.trans q3
      refine ⟨_, rfl, powI (n := 48) (hX.mono s3) hl (by decide) rfl ?_⟩
      intro x4 H4 q4 hx4
      have s4 := s3.trans q4
      refine ⟨_, rfl, powI (n := 49) (hX.mono s4) hl (by decide) rfl ?_⟩
      intro x5 H5 q5 hx5
      have s5 := s4.trans q5
      refine ⟨(by show 5 ≤ sizeLine; decide), fun p hp => k p [x1, x2, x3, x4, x5] _ (s5.trans (same_new hp)) upd_same rfl fun i y h => ?_⟩
      have sp := same_new (o := .lst ([x1, x2, x3, x4, x5].map V.ref)) hp
      match i, h with
      | 0, h => have e : x1 = y := Option.some.inj h; exact e ▸ ((((hx1.mono q2).mono q3).mono q4).mono q5).mono sp
      | 1, h => have e : x2 = y := Option.some.inj h; exact e ▸ (((hx2.mono q3).mono q4).mono q5).mono sp
      | 2, h => have e : x3 = y := Option.some.inj h; exact e ▸ ((hx3.mono q4).mono q5).mono sp
      | 3, h => have e : x4 = y := Option.some.inj h; exact e ▸ (hx4.mono q5).mono sp
      | 4, h => have e : x5 = y := Option.some.inj h; exact e ▸ hx5.mono sp
      | i + 5, h => exact nomatch h
    have n9 : m ≠ 9 := fun e => c9 (by rw [e]; rfl)
    refine ⟨_, rfl, rfl, _, rfl, ?_⟩
    refine iteD (fun c => ?y) (fun c10 => ?_)
    case y =>
      injection c with c
      have hj : m = 10 := by omega
      subst hj
      have s0 : Same H H := Same.refl _
      refine ⟨_, rfl, powI (n := 50) (hX.mono s0) hl (by decide) rfl ?_⟩
      intro x1 H1 q1 hx1
      have s1 := s0.trans q1
      refine ⟨_, rfl, powI (n := 51) (hX.mono s1) hl (by decide) rfl ?_⟩
      intro x2 H2 q2 hx2
      have s2 := s1.trans q2
      refine ⟨_, rfl, powI (n := 52) (hX.mono s2) hl (by decide) rfl ?_⟩
      intro x3 H3 q3 hx3
      have s3 := s2.trans q3
      refine ⟨_, rfl, powI (n := 53) (hX.mono s3) hl (by decide) rfl ?_⟩
      intro x4 H4 q4 hx4
      have s4 := s3.trans q4
      refine ⟨_, rfl, powI (n := 54) (hX.mono s4) hl (by decide) rfl ?_⟩
      intro x5 H5 q5 hx5
      have s5 := s4.trans q5
      refine ⟨(by show 5 ≤ sizeLine; decide), fun p hp => k p [x1, x2, x3, x4, x5] _ (s5.trans (same_new hp)) upd_same rfl fun i y h => ?_⟩
      have sp := same_new (o := .lst ([x1, x2, x3, x4, x5].map V.ref)) hp
      match i, h with
      | 0, h => have e : x1 = y := Option.some.inj h; exact e ▸ ((((hx1.mono q2).mono q3).mono q4).mono q5).mono sp
      | 1, h => have e : x2 = y := Option.some.inj h; exact e ▸ (((hx2.mono q3).mono q4).mono q5).mono sp
      | 2, h => have e : x3 = y := Option.some.inj h; exact e ▸ ((hx3.mono q4).mono q5).mono sp
      | 3, h => have e : x4 = y := Option.some.inj h; exact e ▸ (hx4.mono q5).mono sp
      | 4, h => have e : x5 = y := Option.some.inj h; exact e ▸ hx5.mono sp
      | i + 5, h => exact nomatch h
    have n10 : m ≠ 10 := fun e => c10 (by rw [e]; rfl)
    refine ⟨_, rfl, rfl, _, rfl, ?_⟩
    refine iteD (fun c => ?y) (fun c11 => ?_)
    case y =>
      injection c with c
      have hj : m = 11 := by omega
      subst hj
      have s0 : Same H H := Same.refl _
      refine ⟨_, rfl, powI (n := 55) (hX.mono s0) hl (by decide) rfl ?_⟩
      intro x1 H1 q1 hx1
      have s1 := s0.trans q1
      refine ⟨_, rfl, powI (n := 56) (hX.mono s1) hl (by decide) rfl ?_⟩
      intro x2 H2 q2 hx2
      have s2 := s1.trans q2
      refine ⟨_, rfl, powI (n := 57) (hX.mono s2) hl (by decide) rfl ?_⟩
      intro x3 H3 q3 hx3
      have s3 := s2.trans q3
      refine ⟨_, rfl, powI (n := 58) (hX.mono s3) hl (by decide) rfl ?_⟩
      intro x4 H4 q4 hx4
      have s4 := s3.trans q4
      refine ⟨_, rfl, powI (n := 59) (hX.mono s4) hl (by decide) rfl ?_⟩
      intro x5 H5 q5 hx5
      have s5 := s4.trans q5
      refine ⟨(by show 5 ≤ sizeLine; decide), fun p hp => k p [x1, x2, x3, x4, x5] _ (s5.trans (same_new hp)) upd_same rfl fun i y h => ?_⟩
      have sp := same_new (o := .lst ([x1, x2, x3, x4, x5].map V.ref)) hp
      match i, h with
      | 0, h => have e : x1 = y := Option.some.inj h; exact e ▸ ((((hx1.mono q2).mono q3).mono q4).mono q5).mono sp
      | 1, h => have e : x2 = y := Option.some.inj h; exact e ▸ (((hx2.mono q3).mono q4).mono q5).mono sp
      | 2, h => have e : x3 = y := Option.some.inj h; exact e ▸ ((hx3.mono q4).mono q5).mono sp
      | 3, h => have e : x4 = y := Option.some.inj h; exact e ▸ (hx4.mono q5).mono sp
      | 4, h => have e : x5 = y := Option.some.inj h; exact e ▸ hx5.mono sp
      | i + 5, h => exact nomatch h
    have n11 : m ≠ 11 := fun e => c11 (by rw [e]; rfl)
    have hj : m = 12 := by omega
    subst hj
    have s0 : Same H H := Same.refl _
    refine ⟨_, rfl, powI (n := 60) (hX.mono s0) hl (by decide) rfl ?_⟩
    intro x1 H1 q1 hx1
    have s1 := s0.trans q1
    refine ⟨_, rfl, powI (n := 61) (hX.mono s1) hl (by decide) rfl ?_⟩
    intro x2 H2 q2 hx2
    have s2 := s1.trans q2
    refine ⟨_, rfl, powI (n := 62) (hX.mono s2) hl (by decide) rfl ?_⟩
    intro x3 H3 q3 hx3
    have s3 := s2.trans q3
    refine ⟨_, rfl, powI (n := 63) (hX.mono s3) hl (by decide) rfl ?_⟩
    intro x4 H4 q4 hx4
    have s4 := s3.trans q4
    refine ⟨_, rfl, powI (n := 64) (hX.mono s4) hl (by decide) rfl ?_⟩
    intro x5 H5 q5 hx5
    have s5 := s4.trans q5
    refine ⟨(by show 5 ≤ sizeLine; decide), fun p hp => k p [x1, x2, x3, x4, x5] _ (s5.trans (same_new hp)) upd_same rfl fun i y h => ?_⟩
    have sp := same_new (o := .lst ([x1, x2, x3, x4, x5].map V.ref)) hp
    match i, h with
    | 0, h => have e : x1 = y := Option.some.inj h; exact e ▸ ((((hx1.mono q2).mono q3).mono q4).mono q5).mono sp
    | 1, h => have e : x2 = y := Option.some.inj h; exact e ▸ (((hx2.mono q3).mono q4).mono q5).mono sp
    | 2, h => have e : x3 = y := Option.some.inj h; exact e ▸ ((hx3.mono q4).mono q5).mono sp
    | 3, h => have e : x4 = y := Option.some.inj h; exact e ▸ (hx4.mono q5).mono sp
    | 4, h => have e : x5 = y := Option.some.inj h; exact e ▸ hx5.mono sp
    | i + 5, h => exact nomatch h
theorem ok_power (T : Txt K mg A) : FnOk P w K mg base CX0 10 A.f_power A.d_power ["_law_share", "_law_block"] (spPower A) := by
  refine T.F_power.ok sc_power (fun vs H Q E h => ?_) (fun cdv Ar outer s H vs Q E hr h => ?_)
  · obtain ⟨x, t, b, m, rfl, _⟩ := h
    rfl
  · obtain ⟨x, t, b, m, rfl, hX, hl, hm, k⟩ := h
    refine ⟨_, (pss_cons (ps_set (i := 2) sc_power.nd rfl (Or.inl rfl) pe_int)
        (pss_cons (ps_set (i := 3) sc_power.nd rfl (Or.inl rfl) pe_int)
        (pss_cons (ps_for PassesOwn.never rfl (pi_range1 rfl T.n_range (pa_cons (pe_op op_mulX pe_int (pv 1)) pa_nil)) (pg_name (i := 4) sc_power.nd rfl (Or.inl rfl))
        (pss_cons (ps_set (i := 2) sc_power.nd rfl (Or.inl rfl) (pe_op op_mulX (pv 2) (pe_fldK K (pv 0) rfl)))
        (pss_one (ps_set (i := 3) sc_power.nd rfl (Or.inl rfl) (pe_op op_mulX (pv 3) (pe_fldK K (pv 0) rfl))))))
        (pss_cons (ps_for PassesOwn.never rfl (pi_listK K (pe_call (ok_powers T) (hr.mono (by decide)) rfl T.g_powers T.F_powers.kp T.b_powers .nil pass0 (pa_cons (pv 0) (pa_cons (pv 1) pa_nil)))) (pg_name (i := 5) sc_power.nd rfl (Or.inl rfl))
        (pss_cons (ps_if (PW.pt (pw_or (pt_not (pt_val (pe_callB (call_isiK' K) (by rfl) T.n_isinstance (by decide +kernel) (pa_cons (pv 5) (pa_cons (pe_glob (v := .ref A.c_Share) rfl T.g_Share rfl) pa_nil))) (by intro _; rfl))) (pw_or (pt_not (pt_val (pe_call (ok_whole T) (hr.mono (by decide)) rfl T.g_whole T.F_whole.kp T.b_whole .nil pass0 (pa_cons (pe_fldK K (pv 5) rfl) pa_nil)) (by intro _; rfl))) (pw_or1 (pt_not (pt_val (pe_call (ok_whole T) (hr.mono (by decide)) rfl T.g_whole T.F_whole.kp T.b_whole .nil pass0 (pa_cons (pe_fldK K (pv 5) rfl) pa_nil)) (by intro _; rfl))))))) (pss_one (ps_ret pe_bl)) pss_nil)
        (pss_cons (ps_if (PW.pt (pw_or (pt_cmpR op_ne (pe_fldK K (pv 5) rfl) (pv 2) (nomark _)) (pw_or1 (pt_cmpR op_ne (pe_fldK K (pv 5) rfl) (pv 3) (nomark _))))) (pss_one (ps_ret pe_bl)) pss_nil)
        (pss_cons (ps_set (i := 2) sc_power.nd rfl (Or.inl rfl) (pe_op op_mulX (pv 2) (pe_fldK K (pv 0) rfl)))
        (pss_one (ps_set (i := 3) sc_power.nd rfl (Or.inl rfl) (pe_op op_mulX (pv 3) (pe_fldK K (pv 0) rfl))))))))
        (pss_one (ps_ret pe_bl)))))), ?_⟩
    refine ⟨_, rfl, _, _, rfl, rfl, mulL ⟨by decide, by decide⟩, 5 * (m : Int), rfl, by omega, by omega, for_range (lo := 0) (n := (5 * (m : Int)).toNat) (fun i σ H' => ∃ (v4 v5 : Option V), σ = [some (.ref x), some (.int m), some (.int (t ^ i)), some (.int (b ^ i)), v4, v5] ∧ H' = H) ⟨none, none, by rw [Int.pow_zero, Int.pow_zero]; rfl, rfl⟩ ?_ ?_⟩
    · rintro i σ H' hi ⟨v4, v5, rfl, rfl⟩
      obtain ⟨dx, ho⟩ := id hX
      have lo := low_pow hl i
      refine ⟨_, rfl, _, rfl, x, A.c_Share, dx, _, _, rfl, ho, T.cl_Share, T.no_Share_top, sflds_top _ _, _, _, rfl, rfl, lo.bt.ok hl.bt lo.n0 hl.n0 (by omega), ?_⟩
      refine ⟨_, rfl, _, rfl, x, A.c_Share, dx, _, _, rfl, ho, T.cl_Share, T.no_Share_bottom, sflds_bottom _ _, _, _, rfl, rfl, lo.bb.ok hl.bb lo.n0 hl.n0 (by omega), ?_⟩
      refine ⟨some (.int (0 + (i : Nat))), v5, ?_, rfl⟩
      show [some (V.ref x), some (V.int m), some (V.int (t ^ i * t)), some (V.int (b ^ i * b)), some (.int (0 + (i : Nat))), v5] = _
      rw [Int.pow_succ, Int.pow_succ]
    · rintro σ H1 ⟨v4, v5, rfl, rfl⟩
      have e : (5 * (m : Int)).toNat = 5 * m := by omega
      rw [e]
      refine ⟨_, rfl, _, rfl, x, t, b, m, rfl, hX, hl, hm, ?_⟩
      intro p xs H2 s2 hp hlen hxs
      refine ⟨p, rfl, ⟨_, SqL.of hp⟩, for_list (K := K) (a := p) (xs := xs.map V.ref) (fun i σ H' => ∃ (v4 v5 : Option V), σ = [some (.ref x), some (.int m), some (.int (t ^ (5 * m + i))), some (.int (b ^ (5 * m + i))), v4, v5] ∧ H' = H2) ⟨_, _, rfl, rfl⟩ (fun i σ H' _ ⟨_, _, _, e⟩ => e ▸ SqL.of hp) ?_ ?_⟩
      · rintro i y σ H' hi ⟨v4, v5, rfl, rfl⟩
        rw [List.getElem?_map] at hi
        obtain ⟨w, hw1, rfl⟩ := Option.map_eq_some_iff.mp hi
        have hil : i < 5 := by have := (List.getElem?_eq_some_iff.mp hw1).1; omega
        obtain ⟨dw, hw⟩ := id (hxs i w hw1)
        obtain ⟨dx, ho⟩ := id (hX.mono s2)
        have lo := low_pow hl (5 * m + i)
        refine ⟨_, rfl, _, _, _, _, true, rfl, .own _, .base (.ins hw T.cl_Share T.k1_Share T.kg T.kt T.k4_Share), kit_same, true, rfl, iteF ⟨_, rfl, w, A.c_Share, dw, _, _, rfl, hw, T.cl_Share, T.no_Share_top, sflds_top _ _, _, rfl, true, rfl, iteF ⟨_, rfl, w, A.c_Share, dw, _, _, rfl, hw, T.cl_Share, T.no_Share_bottom, sflds_bottom _ _, _, rfl, true, rfl, iteF ?_⟩⟩⟩
        refine ⟨_, rfl, w, A.c_Share, dw, _, _, rfl, hw, T.cl_Share, T.no_Share_top, sflds_top _ _, _, rfl, rfl, _, rfl, iteNS rfl ?_⟩
        refine ⟨_, rfl, w, A.c_Share, dw, _, _, rfl, hw, T.cl_Share, T.no_Share_bottom, sflds_bottom _ _, _, rfl, rfl, _, rfl, iteNS rfl ?_⟩
        refine ⟨_, rfl, _, rfl, x, A.c_Share, dx, _, _, rfl, ho, T.cl_Share, T.no_Share_top, sflds_top _ _, _, _, rfl, rfl, lo.bt.ok hl.bt lo.n0 hl.n0 (by omega), ?_⟩
        refine ⟨_, rfl, _, rfl, x, A.c_Share, dx, _, _, rfl, ho, T.cl_Share, T.no_Share_bottom, sflds_bottom _ _, _, _, rfl, rfl, lo.bb.ok hl.bb lo.n0 hl.n0 (by omega), ?_⟩
        refine ⟨v4, some (.ref w), ?_, rfl⟩
        show [some (V.ref x), some (V.int m), some (V.int (t ^ (5 * m + i) * t)), some (V.int (b ^ (5 * m + i) * b)), v4, some (.ref w)] = _
        rw [← Nat.add_assoc, Int.pow_succ, Int.pow_succ]
      · rintro σ H' ⟨v4, v5, rfl, rfl⟩
        exact k H' s2
theorem ok_law (T : Txt K mg A) : FnOk P w K mg base CX0 12 A.f_law A.d_law ["_law_script"] (spLaw K) := by
  refine T.F_law.ok sc_law (fun vs H Q E h => ?_) (fun cdv Ar outer s H vs Q E hr h => ?_)
  · obtain ⟨sc, ns, rfl, _⟩ := h
    rfl
  · obtain ⟨sc, ns, rfl, hS, hl, hb, k⟩ := h
    refine ⟨_, (pss_cons (ps_set (i := 1) sc_law.nd rfl (Or.inl rfl) (pe_call (ok_pool T) (hr.mono (by decide)) rfl T.g_pool T.F_pool.kp T.b_pool .nil pass0 (pa_cons (pv 0) pa_nil)))
        (pss_cons (ps_set (i := 2) sc_law.nd rfl (Or.inl rfl) (pe_call (ok_pair T) (hr.mono (by decide)) rfl T.g_pair T.F_pair.kp T.b_pair .nil pass0 (pa_cons (pv 1) pa_nil)))
        (pss_cons (ps_set (i := 3) sc_law.nd rfl (Or.inl rfl) (pe_call (ok_pair T) (hr.mono (by decide)) rfl T.g_pair T.F_pair.kp T.b_pair .nil pass0 (pa_cons (pv 1) pa_nil)))
        (pss_cons (ps_set (i := 4) sc_law.nd rfl (Or.inl rfl) (pe_call (ok_signed T) (hr.mono (by decide)) rfl T.g_signed T.F_signed.kp T.b_signed .nil pass0 (pa_cons (pv 1) (pa_cons pe_int pa_nil))))
        (pss_cons (ps_set (i := 5) sc_law.nd rfl (Or.inl rfl) (pe_call (ok_draw T) (hr.mono (by decide)) rfl T.g_draw T.F_draw.kp T.b_draw .nil pass0 (pa_cons (pv 1) (pa_cons pe_int pa_nil))))
        (pss_cons (ps_set (i := 6) sc_law.nd rfl (Or.inl rfl) (pe_make T.mk_Share (ok_Share_init T) (hr.mono (by decide)) rfl T.g_Share T.b_Share_init .nil passL (pa_cons (pe_ix (ix_tupK K) (pv 2) pe_int (fun _ _ => rfl)) (pa_cons (pe_ix (ix_tupK K) (pv 2) pe_int (fun _ _ => rfl)) pa_nil))))
        (pss_cons (ps_set (i := 7) sc_law.nd rfl (Or.inl rfl) (pe_make T.mk_Share (ok_Share_init T) (hr.mono (by decide)) rfl T.g_Share T.b_Share_init .nil passL (pa_cons (pe_ix (ix_tupK K) (pv 3) pe_int (fun _ _ => rfl)) (pa_cons (pe_ix (ix_tupK K) (pv 3) pe_int (fun _ _ => rfl)) pa_nil))))
        (pss_cons (ps_set (i := 8) sc_law.nd rfl (Or.inl rfl) (pe_tup (pa_cons (pv 4) (pa_cons pe_int pa_nil))))
        (pss_cons (ps_for PassesOwn.never rfl (pi_range1 rfl T.n_range (pa_cons pe_int pa_nil)) (pg_name (i := 9) sc_law.nd rfl (Or.inl rfl))
        (pss_cons (ps_if (PW.pt (pw_or (pt_not (pt_val (pe_call (ok_is T) (hr.mono (by decide)) rfl T.g_is T.F_is.kp T.b_is .nil pass0 (pa_cons (pv 6) (pa_cons (pe_ix (ix_tupK K) (pv 2) pe_int (fun _ _ => rfl)) (pa_cons (pe_ix (ix_tupK K) (pv 2) pe_int (fun _ _ => rfl)) pa_nil)))) (by intro _; rfl))) (pw_or1 (pt_not (pt_val (pe_call (ok_is T) (hr.mono (by decide)) rfl T.g_is T.F_is.kp T.b_is .nil pass0 (pa_cons (pv 7) (pa_cons (pe_ix (ix_tupK K) (pv 3) pe_int (fun _ _ => rfl)) (pa_cons (pe_ix (ix_tupK K) (pv 3) pe_int (fun _ _ => rfl)) pa_nil)))) (by intro _; rfl)))))) (pss_one (ps_ret pe_bl)) pss_nil)
        (pss_cons (ps_if (PW.pt (pw_or (pt_not (pt_val (pe_call (ok_sums T) (hr.mono (by decide)) rfl T.g_sums T.F_sums.kp T.b_sums .nil pass0 (pa_cons (pv 6) (pa_cons (pv 2) (pa_cons (pv 7) (pa_cons (pv 3) pa_nil))))) (by intro _; rfl))) (pw_or (pt_not (pt_val (pe_call (ok_sums T) (hr.mono (by decide)) rfl T.g_sums T.F_sums.kp T.b_sums .nil pass0 (pa_cons (pv 7) (pa_cons (pv 3) (pa_cons (pv 6) (pa_cons (pv 2) pa_nil))))) (by intro _; rfl))) (pw_or1 (pt_not (pt_val (pe_call (ok_sums T) (hr.mono (by decide)) rfl T.g_sums T.F_sums.kp T.b_sums .nil pass0 (pa_cons (pv 6) (pa_cons (pv 2) (pa_cons (pv 6) (pa_cons (pv 2) pa_nil))))) (by intro _; rfl))))))) (pss_one (ps_ret pe_bl)) pss_nil)
        (pss_one (ps_if (PW.pt (pw_or (pt_not (pt_val (pe_call (ok_sums T) (hr.mono (by decide)) rfl T.g_sums T.F_sums.kp T.b_sums .nil pass0 (pa_cons (pv 6) (pa_cons (pv 2) (pa_cons (pv 4) (pa_cons (pv 8) pa_nil))))) (by intro _; rfl))) (pw_or1 (pt_not (pt_val (pe_call (ok_sums T) (hr.mono (by decide)) rfl T.g_sums T.F_sums.kp T.b_sums .nil pass0 (pa_cons (pv 4) (pa_cons (pv 8) (pa_cons (pv 7) (pa_cons (pv 3) pa_nil))))) (by intro _; rfl)))))) (pss_one (ps_ret pe_bl)) pss_nil)))))
        (pss_cons (ps_if (PW.pt (pw_or (pt_not (pt_val (pe_call (ok_power T) (hr.mono (by decide)) rfl T.g_power T.F_power.kp T.b_power .nil pass0 (pa_cons (pv 6) (pa_cons (pv 5) pa_nil))) (by intro _; rfl))) (pw_or1 (pt_not (pt_val (pe_call (ok_power T) (hr.mono (by decide)) rfl T.g_power T.F_power.kp T.b_power .nil pass0 (pa_cons (pe_make T.mk_Share (ok_Share_init T) (hr.mono (by decide)) rfl T.g_Share (T.e_Share_init.choose_spec).2 (T.e_Share_init.choose_spec).1 passL (pa_cons (pv 4) pa_nil)) (pa_cons pe_int pa_nil))) (by intro _; rfl)))))) (pss_one (ps_ret pe_bl)) pss_nil)
        (pss_one (ps_ret (pe_and (pe_call (ok_is T) (hr.mono (by decide)) rfl T.g_is T.F_is.kp T.b_is .nil pass0 (pa_cons (pv 6) (pa_cons (pe_ix (ix_tupK K) (pv 2) pe_int (fun _ _ => rfl)) (pa_cons (pe_ix (ix_tupK K) (pv 2) pe_int (fun _ _ => rfl)) pa_nil)))) (pe_one (pe_call (ok_is T) (hr.mono (by decide)) rfl T.g_is T.F_is.kp T.b_is .nil pass0 (pa_cons (pv 7) (pa_cons (pe_ix (ix_tupK K) (pv 3) pe_int (fun _ _ => rfl)) (pa_cons (pe_ix (ix_tupK K) (pv 3) pe_int (fun _ _ => rfl)) pa_nil)))))))))))))))))), ?_⟩
    refine ⟨_, rfl, sc, ns, rfl, hS, hl, hb, fun p H1 hp P1 s1 => ?_⟩
    refine ⟨_, rfl, p, rfl, P1, fun pa ta ba H2 hta hba hba0 npa P2 s2 epa2 => ?_⟩
    refine ⟨_, rfl, p, rfl, P2, fun pb tb bb H3 htb hbb hbb0 npb P3 s3 epb3 => ?_⟩
    refine ⟨_, rfl, p, 10, rfl, P3, by decide, by decide, fun n H4 hn P4 s4 => ?_⟩
    refine ⟨_, rfl, p, 13, rfl, P4, by decide, by decide, fun bk H5 bk0 bk1 P5 s5 => ?_⟩
    have epb5 := s5 _ _ npb (s4 _ _ npb epb3)
    have epa5 := s5 _ _ npa (s4 _ _ npa (s3 _ _ npa epa2))
    refine ⟨_, rfl, pa, _, 0, _, rfl, rfl, SqT.of (epa5), rfl, _, rfl, pa, _, 1, _, rfl, rfl, SqT.of (epa5), rfl, ?_⟩
    intro x1 d1 hxn hdn hne
    refine ⟨x1, d1, ta, ba, rfl, upd_same, fun _ => ⟨100, by decide, by decide, hba⟩, fun t1 b1 _ r1 => ⟨rfl, ?_⟩, fun c => absurd c hba0⟩
    have q1 := share_same (A := A) (t := t1) (b := b1) hxn hdn hne
    have hx1 : ShareAt A (upd (upd (upd H5 d1 (.own x1)) x1 (.ins A.c_Share d1 [])) x1 (.ins A.c_Share d1 (sflds t1 b1))) x1 t1 b1 := ⟨d1, upd_same⟩
    generalize upd (upd (upd H5 d1 (.own x1)) x1 (.ins A.c_Share d1 [])) x1 (.ins A.c_Share d1 (sflds t1 b1)) = H6 at q1 hx1 ⊢
    
    have epa6 := q1 _ _ epa5
    have epb6 := q1 _ _ epb5
    refine ⟨_, rfl, pb, _, 0, _, rfl, rfl, SqT.of (epb6), rfl, _, rfl, pb, _, 1, _, rfl, rfl, SqT.of (epb6), rfl, ?_⟩
    intro x2 d2 hxn hdn hne
    refine ⟨x2, d2, tb, bb, rfl, upd_same, fun _ => ⟨100, by decide, by decide, hbb⟩, fun t2 b2 _ r2 => ⟨rfl, ?_⟩, fun c => absurd c hbb0⟩
    have q2 := share_same (A := A) (t := t2) (b := b2) hxn hdn hne
    have hx2 : ShareAt A (upd (upd (upd H6 d2 (.own x2)) x2 (.ins A.c_Share d2 [])) x2 (.ins A.c_Share d2 (sflds t2 b2))) x2 t2 b2 := ⟨d2, upd_same⟩
    generalize upd (upd (upd H6 d2 (.own x2)) x2 (.ins A.c_Share d2 [])) x2 (.ins A.c_Share d2 (sflds t2 b2)) = H7 at q2 hx2 ⊢
    
    have epa7 := q2 _ _ epa6
    have epb7 := q2 _ _ epb6
    have hx17 := hx1.mono q2
    refine ⟨_, rfl, (by show 2 ≤ sizeLine; decide), fun pn hpn => ?_⟩
    have q3 := same_new (o := .tup [.int n, .int 1]) hpn
    have epa := q3 _ _ epa7
    have epb := q3 _ _ epb7
    have epn : (upd H7 pn (.tup [.int n, .int 1])) pn = some (.tup [.int n, .int 1]) := upd_same
    replace hx1 := hx17.mono q3
    replace hx2 := hx2.mono q3
    generalize upd H7 pn (.tup [.int n, .int 1]) = HA at epa epb epn hx1 hx2 ⊢
    have l1 : Low 100 t1 b1 := .rep r1 hta hba (by decide)
    have l2 : Low 100 t2 b2 := .rep r2 htb hbb (by decide)
    have ln : Low 100 n 1 := .int hn (by decide)
    have hone : Bits 100 1 := Bits.one (by decide)
    obtain ⟨m, rfl⟩ : ∃ m : Nat, bk = m := ⟨bk.toNat, by omega⟩
    have hm : m ≤ 12 := by omega
    clear hS hl hb P1 P2 P3 P4 P5 s1 s2 s3 s4 s5 epa2 epb3 epa5 epb5 epa6 epb6 epa7 epb7 q1 q2 q3 hx17 hpn npa npb
    refine ⟨2, rfl, by decide, by decide, for_range (lo := 0) (n := 2) (fun i σ H9 => ∃ v, σ = [some (.ref sc), some (.ref p), some (.ref pa), some (.ref pb), some (.int n), some (.int m), some (.ref x1), some (.ref x2), some (.ref pn), v] ∧ Same HA H9) ⟨none, rfl, Same.refl _⟩ ?_ ?_⟩
    · rintro i σ H9 hi ⟨v, rfl, s9⟩
      refine ⟨_, rfl, _, rfl, pa, _, 0, _, rfl, rfl, SqT.of (s9 _ _ epa), rfl, _, rfl, pa, _, 1, _, rfl, rfl, SqT.of (s9 _ _ epa), rfl, x1, t1, b1, ta, ba, 100, 100, rfl, (hx1.mono s9), l1.pos, r1.cross, l1.cop, Bits.up l1.bb (by decide), l1.bt, by decide, by decide, hta, hba, by decide, by decide, true, rfl, iteF ⟨_, rfl, _, rfl, pb, _, 0, _, rfl, rfl, SqT.of (s9 _ _ epb), rfl, _, rfl, pb, _, 1, _, rfl, rfl, SqT.of (s9 _ _ epb), rfl, x2, t2, b2, tb, bb, 100, 100, rfl, (hx2.mono s9), l2.pos, r2.cross, l2.cop, Bits.up l2.bb (by decide), l2.bt, by decide, by decide, htb, hbb, by decide, by decide, true, rfl, iteF ?_⟩⟩
      refine ⟨_, rfl, _, rfl, _, rfl, _, rfl, _, _, pa, pb, t1, b1, t2, b2, ta, ba, tb, bb, rfl, (.inl ⟨x1, rfl, hx1.mono s9⟩), (.inl ⟨x2, rfl, hx2.mono s9⟩), ⟨x1, .inl rfl⟩, l1, l2, r1.cross, r2.cross, hta, hba, htb, hbb, s9 _ _ epa, s9 _ _ epb, ?_⟩
      intro Hs11 q11
      have s11 := s9.trans q11
      refine ⟨true, rfl, iteF ?_⟩
      refine ⟨_, rfl, _, rfl, _, rfl, _, rfl, _, _, pb, pa, t2, b2, t1, b1, tb, bb, ta, ba, rfl, (.inl ⟨x2, rfl, hx2.mono s11⟩), (.inl ⟨x1, rfl, hx1.mono s11⟩), ⟨x2, .inl rfl⟩, l2, l1, r2.cross, r1.cross, htb, hbb, hta, hba, s11 _ _ epb, s11 _ _ epa, ?_⟩
      intro Hs12 q12
      have s12 := s11.trans q12
      refine ⟨true, rfl, iteF ?_⟩
      refine ⟨_, rfl, _, rfl, _, rfl, _, rfl, _, _, pa, pa, t1, b1, t1, b1, ta, ba, ta, ba, rfl, (.inl ⟨x1, rfl, hx1.mono s12⟩), (.inl ⟨x1, rfl, hx1.mono s12⟩), ⟨x1, .inl rfl⟩, l1, l1, r1.cross, r1.cross, hta, hba, hta, hba, s12 _ _ epa, s12 _ _ epa, ?_⟩
      intro Hs13 q13
      have s13 := s12.trans q13
      refine ⟨true, rfl, iteF ?_⟩
      refine ⟨_, rfl, _, rfl, _, rfl, _, rfl, _, _, pa, pn, t1, b1, n, 1, ta, ba, n, 1, rfl, (.inl ⟨x1, rfl, hx1.mono s13⟩), (.inr ⟨rfl, rfl⟩), ⟨x1, .inl rfl⟩, l1, ln, r1.cross, rfl, hta, hba, hn, hone, s13 _ _ epa, s13 _ _ epn, ?_⟩
      intro Hs14 q14
      have s14 := s13.trans q14
      refine ⟨true, rfl, iteF ?_⟩
      refine ⟨_, rfl, _, rfl, _, rfl, _, rfl, _, _, pn, pb, n, 1, t2, b2, n, 1, tb, bb, rfl, (.inr ⟨rfl, rfl⟩), (.inl ⟨x2, rfl, hx2.mono s14⟩), ⟨x2, .inr rfl⟩, ln, l2, rfl, r2.cross, hn, hone, htb, hbb, s14 _ _ epn, s14 _ _ epb, ?_⟩
      intro Hs15 q15
      have s15 := s14.trans q15
      refine ⟨true, rfl, iteF ?_⟩
      exact ⟨_, rfl, s15⟩
    · rintro σ H9 ⟨v, rfl, s9⟩
      refine ⟨_, rfl, _, rfl, x1, t1, b1, m, rfl, hx1.mono s9, l1, hm, ?_⟩
      intro Hp1 z1
      have s10 := s9.trans z1
      refine ⟨true, rfl, iteF ?_⟩
      refine ⟨_, rfl, ?_⟩
      intro x8 d8 hxn hdn hne
      refine ⟨x8, d8, n, 1, rfl, upd_same, fun _ => ⟨1, by decide, by decide, Bits.one (by decide)⟩, fun t8 b8 _ r8 => ⟨rfl, ?_⟩, fun c => absurd c (by decide)⟩
      have q8 := share_same (A := A) (t := t8) (b := b8) hxn hdn hne
      have hx8 : ShareAt A (upd (upd (upd Hp1 d8 (.own x8)) x8 (.ins A.c_Share d8 [])) x8 (.ins A.c_Share d8 (sflds t8 b8))) x8 t8 b8 := ⟨d8, upd_same⟩
      generalize upd (upd (upd Hp1 d8 (.own x8)) x8 (.ins A.c_Share d8 [])) x8 (.ins A.c_Share d8 (sflds t8 b8)) = H8 at q8 hx8 ⊢
      have s11 := s10.trans q8
      refine ⟨x8, t8, b8, 0, rfl, hx8, .rep r8 hn hone (by decide), by decide, ?_⟩
      intro Hp2 z2
      have s12 := s11.trans z2
      refine ⟨true, rfl, iteF ?_⟩
      exact ⟨_, rfl, _, rfl, pa, _, 0, _, rfl, rfl, SqT.of (s12 _ _ epa), rfl, _, rfl, pa, _, 1, _, rfl, rfl, SqT.of (s12 _ _ epa), rfl, x1, t1, b1, ta, ba, 100, 100, rfl, (hx1.mono s12), l1.pos, r1.cross, l1.cop, Bits.up l1.bb (by decide), l1.bt, by decide, by decide, hta, hba, by decide, by decide, true, rfl, iteT ⟨_, rfl, _, rfl, pb, _, 0, _, rfl, rfl, SqT.of (s12 _ _ epb), rfl, _, rfl, pb, _, 1, _, rfl, rfl, SqT.of (s12 _ _ epb), rfl, x2, t2, b2, tb, bb, 100, 100, rfl, (hx2.mono s12), l2.pos, r2.cross, l2.cop, Bits.up l2.bb (by decide), l2.bt, by decide, by decide, htb, hbb, by decide, by decide, k Hp2⟩⟩
end
theorem all_mk {P : Program} {w : World} {K : PySem.W.Frag} {h : Heap} {mg : Str → Option Value} {fa : Addr} (X : K.In h) (G : h.Ns mainGlobals mg) (hfa : mg "law" = some (.ref fa))
    {c_Share c_GangError c_BadShare f_GangError_init f_Share_init f_Share_neg f_as_share f_Share_add f_Share_mul f_Share_sub f_Share_radd f_Share_rsub f_Share_rmul f_Share_pow f_pool f_draw f_number f_signed f_pair f_whole f_coprime f_is f_sums f_powers f_power f_law : Addr}
    {od_GangError_init an_GangError_init : Option Addr} {sl_GangError_init : Array (Option Value)} {oc_GangError_init kV_GangError_init dc_GangError_init pm_GangError_init cd_GangError_init ct_GangError_init : Value}
    {od_Share_init an_Share_init : Option Addr} {sl_Share_init : Array (Option Value)} {oc_Share_init kV_Share_init dc_Share_init pm_Share_init cd_Share_init ct_Share_init : Value}
    {T_Share_init : Addr} {oT_Share_init : Value} {dT_Share_init : Option Addr} {nT_Share_init : Nat} {sT_Share_init : Array (Option Value)} {tk0_Share_init : Tok}
    {od_Share_neg an_Share_neg : Option Addr} {sl_Share_neg : Array (Option Value)} {oc_Share_neg kV_Share_neg dc_Share_neg pm_Share_neg cd_Share_neg ct_Share_neg : Value}
    {od_as_share an_as_share : Option Addr} {sl_as_share : Array (Option Value)} {oc_as_share kV_as_share dc_as_share pm_as_share cd_as_share ct_as_share : Value}
    {od_Share_add an_Share_add : Option Addr} {sl_Share_add : Array (Option Value)} {oc_Share_add kV_Share_add dc_Share_add pm_Share_add cd_Share_add ct_Share_add : Value}
    {od_Share_mul an_Share_mul : Option Addr} {sl_Share_mul : Array (Option Value)} {oc_Share_mul kV_Share_mul dc_Share_mul pm_Share_mul cd_Share_mul ct_Share_mul : Value}
    {od_Share_sub an_Share_sub : Option Addr} {sl_Share_sub : Array (Option Value)} {oc_Share_sub kV_Share_sub dc_Share_sub pm_Share_sub cd_Share_sub ct_Share_sub : Value}
    {od_Share_radd an_Share_radd : Option Addr} {sl_Share_radd : Array (Option Value)} {oc_Share_radd kV_Share_radd dc_Share_radd pm_Share_radd cd_Share_radd ct_Share_radd : Value}
    {od_Share_rsub an_Share_rsub : Option Addr} {sl_Share_rsub : Array (Option Value)} {oc_Share_rsub kV_Share_rsub dc_Share_rsub pm_Share_rsub cd_Share_rsub ct_Share_rsub : Value}
    {od_Share_rmul an_Share_rmul : Option Addr} {sl_Share_rmul : Array (Option Value)} {oc_Share_rmul kV_Share_rmul dc_Share_rmul pm_Share_rmul cd_Share_rmul ct_Share_rmul : Value}
    {od_Share_pow an_Share_pow : Option Addr} {sl_Share_pow : Array (Option Value)} {oc_Share_pow kV_Share_pow dc_Share_pow pm_Share_pow cd_Share_pow ct_Share_pow : Value}
    {od_pool an_pool : Option Addr} {sl_pool : Array (Option Value)} {oc_pool kV_pool dc_pool pm_pool cd_pool ct_pool : Value}
    {od_draw an_draw : Option Addr} {sl_draw : Array (Option Value)} {oc_draw kV_draw dc_draw pm_draw cd_draw ct_draw : Value}
    {od_number an_number : Option Addr} {sl_number : Array (Option Value)} {oc_number kV_number dc_number pm_number cd_number ct_number : Value}
    {od_signed an_signed : Option Addr} {sl_signed : Array (Option Value)} {oc_signed kV_signed dc_signed pm_signed cd_signed ct_signed : Value}
    {od_pair an_pair : Option Addr} {sl_pair : Array (Option Value)} {oc_pair kV_pair dc_pair pm_pair cd_pair ct_pair : Value}
    {od_whole an_whole : Option Addr} {sl_whole : Array (Option Value)} {oc_whole kV_whole dc_whole pm_whole cd_whole ct_whole : Value}
    {od_coprime an_coprime : Option Addr} {sl_coprime : Array (Option Value)} {oc_coprime kV_coprime dc_coprime pm_coprime cd_coprime ct_coprime : Value}
    {od_is an_is : Option Addr} {sl_is : Array (Option Value)} {oc_is kV_is dc_is pm_is cd_is ct_is : Value}
    {od_sums an_sums : Option Addr} {sl_sums : Array (Option Value)} {oc_sums kV_sums dc_sums pm_sums cd_sums ct_sums : Value}
    {od_powers an_powers : Option Addr} {sl_powers : Array (Option Value)} {oc_powers kV_powers dc_powers pm_powers cd_powers ct_powers : Value}
    {od_power an_power : Option Addr} {sl_power : Array (Option Value)} {oc_power kV_power dc_power pm_power cd_power ct_power : Value}
    {od_law an_law : Option Addr} {sl_law : Array (Option Value)} {oc_law kV_law dc_law pm_law cd_law ct_law : Value}
    {rc_Share_add fo_Share_add ro_Share_add : Option Value}
    {rc_Share_sub fo_Share_sub ro_Share_sub : Option Value}
    {rc_Share_mul fo_Share_mul ro_Share_mul : Option Value}
    {rc_Share_pow fo_Share_pow ro_Share_pow : Option Value}
    {nm_GangError q_GangError : Str} {N_GangError : Addr} {bs_GangError bm_GangError : List Value} {sn_GangError : List Str} {sub_GangError : List Value} {ab_GangError : Bool} {col_GangError : Option Bool} {dd_GangError : Option Addr} {m0_GangError m1_GangError m2_GangError m3_GangError m5_GangError : Option Value}
    {nm_BadShare q_BadShare : Str} {N_BadShare : Addr} {bs_BadShare bm_BadShare : List Value} {sn_BadShare : List Str} {sub_BadShare : List Value} {ab_BadShare : Bool} {col_BadShare : Option Bool} {dd_BadShare : Option Addr} {m0_BadShare m1_BadShare m2_BadShare m3_BadShare m5_BadShare : Option Value}
    (nb_abs : PySem.W.nsIn K mainGlobals "abs" = some none)
    (nb_bool : PySem.W.nsIn K mainGlobals "bool" = some none)
    (nb_int : PySem.W.nsIn K mainGlobals "int" = some none)
    (nb_isinstance : PySem.W.nsIn K mainGlobals "isinstance" = some none)
    (nb_len : PySem.W.nsIn K mainGlobals "len" = some none)
    (nb_range : PySem.W.nsIn K mainGlobals "range" = some none)
    (ag_Share : PySem.W.nsIn K mainGlobals "Share" = some (some (.ref c_Share)))
    (ag_GangError : PySem.W.nsIn K mainGlobals "GangError" = some (some (.ref c_GangError)))
    (ag_BadShare : PySem.W.nsIn K mainGlobals "BadShare" = some (some (.ref c_BadShare)))
    (at_GangError_init : PySem.W.findIn K (.ref c_GangError) "__init__" = some (some (.ref f_GangError_init)))
    (lk_GangError_init : K.lookup f_GangError_init = some ⟨oc_GangError_init, od_GangError_init, .func (PySem.W.fnOf "__init__" "GangError.__init__" (defArgs s_GangError_init) (defBody s_GangError_init) (defScope s_GangError_init) .none kV_GangError_init dc_GangError_init pm_GangError_init an_GangError_init cd_GangError_init ct_GangError_init), sl_GangError_init⟩)
    (co_GangError_init : PySem.W.codeIn K cd_GangError_init "GangError.__init__" = true)
    (ke_GangError_init : PySem.W.keepIn K (.ref f_GangError_init) = true)
    (fn_GangError_init : PySem.W.isFn K (.ref f_GangError_init) = true)
    (at_Share_init : PySem.W.findIn K (.ref c_Share) "__init__" = some (some (.ref f_Share_init)))
    (lk_Share_init : K.lookup f_Share_init = some ⟨oc_Share_init, od_Share_init, .func (PySem.W.fnOf "__init__" "Share.__init__" (defArgs s_Share_init) (defBody s_Share_init) (defScope s_Share_init) (.ref T_Share_init) kV_Share_init dc_Share_init pm_Share_init an_Share_init cd_Share_init ct_Share_init), sl_Share_init⟩)
    (co_Share_init : PySem.W.codeIn K cd_Share_init "Share.__init__" = true)
    (ke_Share_init : PySem.W.keepIn K (.ref f_Share_init) = true)
    (dl_Share_init : K.lookup T_Share_init = some ⟨oT_Share_init, dT_Share_init, .seq #[Value.int 1 tk0_Share_init] nT_Share_init, sT_Share_init⟩)
    (fn_Share_init : PySem.W.isFn K (.ref f_Share_init) = true)
    (at_Share_neg : PySem.W.findIn K (.ref c_Share) "__neg__" = some (some (.ref f_Share_neg)))
    (lk_Share_neg : K.lookup f_Share_neg = some ⟨oc_Share_neg, od_Share_neg, .func (PySem.W.fnOf "__neg__" "Share.__neg__" (defArgs s_Share_neg) (defBody s_Share_neg) (defScope s_Share_neg) .none kV_Share_neg dc_Share_neg pm_Share_neg an_Share_neg cd_Share_neg ct_Share_neg), sl_Share_neg⟩)
    (co_Share_neg : PySem.W.codeIn K cd_Share_neg "Share.__neg__" = true)
    (ke_Share_neg : PySem.W.keepIn K (.ref f_Share_neg) = true)
    (fn_Share_neg : PySem.W.isFn K (.ref f_Share_neg) = true)
    (at_as_share : PySem.W.nsIn K mainGlobals "as_share" = some (some (.ref f_as_share)))
    (lk_as_share : K.lookup f_as_share = some ⟨oc_as_share, od_as_share, .func (PySem.W.fnOf "as_share" "as_share" (defArgs s_as_share) (defBody s_as_share) (defScope s_as_share) .none kV_as_share dc_as_share pm_as_share an_as_share cd_as_share ct_as_share), sl_as_share⟩)
    (co_as_share : PySem.W.codeIn K cd_as_share "as_share" = true)
    (ke_as_share : PySem.W.keepIn K (.ref f_as_share) = true)
    (at_Share_add : PySem.W.findIn K (.ref c_Share) "__add__" = some (some (.ref f_Share_add)))
    (lk_Share_add : K.lookup f_Share_add = some ⟨oc_Share_add, od_Share_add, .func (PySem.W.fnOf "__add__" "Share.__add__" (defArgs s_Share_add) (defBody s_Share_add) (defScope s_Share_add) .none kV_Share_add dc_Share_add pm_Share_add an_Share_add cd_Share_add ct_Share_add), sl_Share_add⟩)
    (co_Share_add : PySem.W.codeIn K cd_Share_add "Share.__add__" = true)
    (ke_Share_add : PySem.W.keepIn K (.ref f_Share_add) = true)
    (fn_Share_add : PySem.W.isFn K (.ref f_Share_add) = true)
    (at_Share_mul : PySem.W.findIn K (.ref c_Share) "__mul__" = some (some (.ref f_Share_mul)))
    (lk_Share_mul : K.lookup f_Share_mul = some ⟨oc_Share_mul, od_Share_mul, .func (PySem.W.fnOf "__mul__" "Share.__mul__" (defArgs s_Share_mul) (defBody s_Share_mul) (defScope s_Share_mul) .none kV_Share_mul dc_Share_mul pm_Share_mul an_Share_mul cd_Share_mul ct_Share_mul), sl_Share_mul⟩)
    (co_Share_mul : PySem.W.codeIn K cd_Share_mul "Share.__mul__" = true)
    (ke_Share_mul : PySem.W.keepIn K (.ref f_Share_mul) = true)
    (fn_Share_mul : PySem.W.isFn K (.ref f_Share_mul) = true)
    (at_Share_sub : PySem.W.findIn K (.ref c_Share) "__sub__" = some (some (.ref f_Share_sub)))
    (lk_Share_sub : K.lookup f_Share_sub = some ⟨oc_Share_sub, od_Share_sub, .func (PySem.W.fnOf "__sub__" "Share.__sub__" (defArgs s_Share_sub) (defBody s_Share_sub) (defScope s_Share_sub) .none kV_Share_sub dc_Share_sub pm_Share_sub an_Share_sub cd_Share_sub ct_Share_sub), sl_Share_sub⟩)
    (co_Share_sub : PySem.W.codeIn K cd_Share_sub "Share.__sub__" = true)
    (ke_Share_sub : PySem.W.keepIn K (.ref f_Share_sub) = true)
    (fn_Share_sub : PySem.W.isFn K (.ref f_Share_sub) = true)
    (at_Share_radd : PySem.W.findIn K (.ref c_Share) "__radd__" = some (some (.ref f_Share_radd)))
    (lk_Share_radd : K.lookup f_Share_radd = some ⟨oc_Share_radd, od_Share_radd, .func (PySem.W.fnOf "__radd__" "Share.__radd__" (defArgs s_Share_radd) (defBody s_Share_radd) (defScope s_Share_radd) .none kV_Share_radd dc_Share_radd pm_Share_radd an_Share_radd cd_Share_radd ct_Share_radd), sl_Share_radd⟩)
    (co_Share_radd : PySem.W.codeIn K cd_Share_radd "Share.__radd__" = true)
    (ke_Share_radd : PySem.W.keepIn K (.ref f_Share_radd) = true)
    (fn_Share_radd : PySem.W.isFn K (.ref f_Share_radd) = true)
    (at_Share_rsub : PySem.W.findIn K (.ref c_Share) "__rsub__" = some (some (.ref f_Share_rsub)))
    (lk_Share_rsub : K.lookup f_Share_rsub = some ⟨oc_Share_rsub, od_Share_rsub, .func (PySem.W.fnOf "__rsub__" "Share.__rsub__" (defArgs s_Share_rsub) (defBody s_Share_rsub) (defScope s_Share_rsub) .none kV_Share_rsub dc_Share_rsub pm_Share_rsub an_Share_rsub cd_Share_rsub ct_Share_rsub), sl_Share_rsub⟩)
    (co_Share_rsub : PySem.W.codeIn K cd_Share_rsub "Share.__rsub__" = true)
    (ke_Share_rsub : PySem.W.keepIn K (.ref f_Share_rsub) = true)
    (fn_Share_rsub : PySem.W.isFn K (.ref f_Share_rsub) = true)
    (at_Share_rmul : PySem.W.findIn K (.ref c_Share) "__rmul__" = some (some (.ref f_Share_rmul)))
    (lk_Share_rmul : K.lookup f_Share_rmul = some ⟨oc_Share_rmul, od_Share_rmul, .func (PySem.W.fnOf "__rmul__" "Share.__rmul__" (defArgs s_Share_rmul) (defBody s_Share_rmul) (defScope s_Share_rmul) .none kV_Share_rmul dc_Share_rmul pm_Share_rmul an_Share_rmul cd_Share_rmul ct_Share_rmul), sl_Share_rmul⟩)
    (co_Share_rmul : PySem.W.codeIn K cd_Share_rmul "Share.__rmul__" = true)
    (ke_Share_rmul : PySem.W.keepIn K (.ref f_Share_rmul) = true)
    (fn_Share_rmul : PySem.W.isFn K (.ref f_Share_rmul) = true)
    (at_Share_pow : PySem.W.findIn K (.ref c_Share) "__pow__" = some (some (.ref f_Share_pow)))
    (lk_Share_pow : K.lookup f_Share_pow = some ⟨oc_Share_pow, od_Share_pow, .func (PySem.W.fnOf "__pow__" "Share.__pow__" (defArgs s_Share_pow) (defBody s_Share_pow) (defScope s_Share_pow) .none kV_Share_pow dc_Share_pow pm_Share_pow an_Share_pow cd_Share_pow ct_Share_pow), sl_Share_pow⟩)
    (co_Share_pow : PySem.W.codeIn K cd_Share_pow "Share.__pow__" = true)
    (ke_Share_pow : PySem.W.keepIn K (.ref f_Share_pow) = true)
    (fn_Share_pow : PySem.W.isFn K (.ref f_Share_pow) = true)
    (at_pool : PySem.W.nsIn K mainGlobals "_law_pool" = some (some (.ref f_pool)))
    (lk_pool : K.lookup f_pool = some ⟨oc_pool, od_pool, .func (PySem.W.fnOf "_law_pool" "_law_pool" (defArgs s_pool) (defBody s_pool) (defScope s_pool) .none kV_pool dc_pool pm_pool an_pool cd_pool ct_pool), sl_pool⟩)
    (co_pool : PySem.W.codeIn K cd_pool "_law_pool" = true)
    (ke_pool : PySem.W.keepIn K (.ref f_pool) = true)
    (at_draw : PySem.W.nsIn K mainGlobals "_law_draw" = some (some (.ref f_draw)))
    (lk_draw : K.lookup f_draw = some ⟨oc_draw, od_draw, .func (PySem.W.fnOf "_law_draw" "_law_draw" (defArgs s_draw) (defBody s_draw) (defScope s_draw) .none kV_draw dc_draw pm_draw an_draw cd_draw ct_draw), sl_draw⟩)
    (co_draw : PySem.W.codeIn K cd_draw "_law_draw" = true)
    (ke_draw : PySem.W.keepIn K (.ref f_draw) = true)
    (at_number : PySem.W.nsIn K mainGlobals "_law_number" = some (some (.ref f_number)))
    (lk_number : K.lookup f_number = some ⟨oc_number, od_number, .func (PySem.W.fnOf "_law_number" "_law_number" (defArgs s_number) (defBody s_number) (defScope s_number) .none kV_number dc_number pm_number an_number cd_number ct_number), sl_number⟩)
    (co_number : PySem.W.codeIn K cd_number "_law_number" = true)
    (ke_number : PySem.W.keepIn K (.ref f_number) = true)
    (at_signed : PySem.W.nsIn K mainGlobals "_law_signed" = some (some (.ref f_signed)))
    (lk_signed : K.lookup f_signed = some ⟨oc_signed, od_signed, .func (PySem.W.fnOf "_law_signed" "_law_signed" (defArgs s_signed) (defBody s_signed) (defScope s_signed) .none kV_signed dc_signed pm_signed an_signed cd_signed ct_signed), sl_signed⟩)
    (co_signed : PySem.W.codeIn K cd_signed "_law_signed" = true)
    (ke_signed : PySem.W.keepIn K (.ref f_signed) = true)
    (at_pair : PySem.W.nsIn K mainGlobals "_law_pair" = some (some (.ref f_pair)))
    (lk_pair : K.lookup f_pair = some ⟨oc_pair, od_pair, .func (PySem.W.fnOf "_law_pair" "_law_pair" (defArgs s_pair) (defBody s_pair) (defScope s_pair) .none kV_pair dc_pair pm_pair an_pair cd_pair ct_pair), sl_pair⟩)
    (co_pair : PySem.W.codeIn K cd_pair "_law_pair" = true)
    (ke_pair : PySem.W.keepIn K (.ref f_pair) = true)
    (at_whole : PySem.W.nsIn K mainGlobals "_law_whole" = some (some (.ref f_whole)))
    (lk_whole : K.lookup f_whole = some ⟨oc_whole, od_whole, .func (PySem.W.fnOf "_law_whole" "_law_whole" (defArgs s_whole) (defBody s_whole) (defScope s_whole) .none kV_whole dc_whole pm_whole an_whole cd_whole ct_whole), sl_whole⟩)
    (co_whole : PySem.W.codeIn K cd_whole "_law_whole" = true)
    (ke_whole : PySem.W.keepIn K (.ref f_whole) = true)
    (at_coprime : PySem.W.nsIn K mainGlobals "_law_coprime" = some (some (.ref f_coprime)))
    (lk_coprime : K.lookup f_coprime = some ⟨oc_coprime, od_coprime, .func (PySem.W.fnOf "_law_coprime" "_law_coprime" (defArgs s_coprime) (defBody s_coprime) (defScope s_coprime) .none kV_coprime dc_coprime pm_coprime an_coprime cd_coprime ct_coprime), sl_coprime⟩)
    (co_coprime : PySem.W.codeIn K cd_coprime "_law_coprime" = true)
    (ke_coprime : PySem.W.keepIn K (.ref f_coprime) = true)
    (at_is : PySem.W.nsIn K mainGlobals "_law_is" = some (some (.ref f_is)))
    (lk_is : K.lookup f_is = some ⟨oc_is, od_is, .func (PySem.W.fnOf "_law_is" "_law_is" (defArgs s_is) (defBody s_is) (defScope s_is) .none kV_is dc_is pm_is an_is cd_is ct_is), sl_is⟩)
    (co_is : PySem.W.codeIn K cd_is "_law_is" = true)
    (ke_is : PySem.W.keepIn K (.ref f_is) = true)
    (at_sums : PySem.W.nsIn K mainGlobals "_law_sums" = some (some (.ref f_sums)))
    (lk_sums : K.lookup f_sums = some ⟨oc_sums, od_sums, .func (PySem.W.fnOf "_law_sums" "_law_sums" (defArgs s_sums) (defBody s_sums) (defScope s_sums) .none kV_sums dc_sums pm_sums an_sums cd_sums ct_sums), sl_sums⟩)
    (co_sums : PySem.W.codeIn K cd_sums "_law_sums" = true)
    (ke_sums : PySem.W.keepIn K (.ref f_sums) = true)
    (at_powers : PySem.W.nsIn K mainGlobals "_law_powers" = some (some (.ref f_powers)))
    (lk_powers : K.lookup f_powers = some ⟨oc_powers, od_powers, .func (PySem.W.fnOf "_law_powers" "_law_powers" (defArgs s_powers) (defBody s_powers) (defScope s_powers) .none kV_powers dc_powers pm_powers an_powers cd_powers ct_powers), sl_powers⟩)
    (co_powers : PySem.W.codeIn K cd_powers "_law_powers" = true)
    (ke_powers : PySem.W.keepIn K (.ref f_powers) = true)
    (at_power : PySem.W.nsIn K mainGlobals "_law_power" = some (some (.ref f_power)))
    (lk_power : K.lookup f_power = some ⟨oc_power, od_power, .func (PySem.W.fnOf "_law_power" "_law_power" (defArgs s_power) (defBody s_power) (defScope s_power) .none kV_power dc_power pm_power an_power cd_power ct_power), sl_power⟩)
    (co_power : PySem.W.codeIn K cd_power "_law_power" = true)
    (ke_power : PySem.W.keepIn K (.ref f_power) = true)
    (at_law : PySem.W.nsIn K mainGlobals "law" = some (some (.ref f_law)))
    (lk_law : K.lookup f_law = some ⟨oc_law, od_law, .func (PySem.W.fnOf "law" "law" (defArgs s_law) (defBody s_law) (defScope s_law) .none kV_law dc_law pm_law an_law cd_law ct_law), sl_law⟩)
    (co_law : PySem.W.codeIn K cd_law "law" = true)
    (ke_law : PySem.W.keepIn K (.ref f_law) = true)
    (pg_Share : PySem.W.plainGet K c_Share Str.empty = true)
    (hd_Share : PySem.W.hasDictIn K c_Share = true)
    (po_Share : PySem.W.plainOver K c_Share = true)
    (sa_Share : PySem.W.findIn K (.ref c_Share) "__setattr__" = some (some (.builtin "object.__setattr__")))
    (mk_Share : PySem.W.makesIn K c_Share = true)
    (kp_Share : PySem.W.keepIn K (.ref c_Share) = true)
    (sf_Share : PySem.W.selfFirst K c_Share = true)
    (k1_Share : PySem.W.findIn K (.ref c_Share) "__class__" = some (some (.builtin "object.__class__")))
    (k4_Share : PySem.W.mroIn K c_Share (.type "object") = some true)
    (no_Share_top : PySem.W.findIn K (.ref c_Share) "top" = some none)
    (no_Share_bottom : PySem.W.findIn K (.ref c_Share) "bottom" = some none)
    (ir_Share_add : PySem.W.findIn K (.ref c_Share) "__radd__" = some rc_Share_add)
    (iz_Share_add : (rc_Share_add = none ∨ ∃ g : Addr, rc_Share_add = some (.ref g)))
    (i1_Share_add : PySem.W.findIn K (.type "int") "__add__" = some fo_Share_add)
    (i2_Share_add : PySem.W.findIn K (.type "int") "__radd__" = some ro_Share_add)
    (is_Share_add : PySem.W.subIn K (.type "int") (.ref c_Share) = some false)
    (ir_Share_sub : PySem.W.findIn K (.ref c_Share) "__rsub__" = some rc_Share_sub)
    (iz_Share_sub : (rc_Share_sub = none ∨ ∃ g : Addr, rc_Share_sub = some (.ref g)))
    (i1_Share_sub : PySem.W.findIn K (.type "int") "__sub__" = some fo_Share_sub)
    (i2_Share_sub : PySem.W.findIn K (.type "int") "__rsub__" = some ro_Share_sub)
    (is_Share_sub : PySem.W.subIn K (.type "int") (.ref c_Share) = some false)
    (ir_Share_mul : PySem.W.findIn K (.ref c_Share) "__rmul__" = some rc_Share_mul)
    (iz_Share_mul : (rc_Share_mul = none ∨ ∃ g : Addr, rc_Share_mul = some (.ref g)))
    (i1_Share_mul : PySem.W.findIn K (.type "int") "__mul__" = some fo_Share_mul)
    (i2_Share_mul : PySem.W.findIn K (.type "int") "__rmul__" = some ro_Share_mul)
    (is_Share_mul : PySem.W.subIn K (.type "int") (.ref c_Share) = some false)
    (ir_Share_pow : PySem.W.findIn K (.ref c_Share) "__rpow__" = some rc_Share_pow)
    (iz_Share_pow : (rc_Share_pow = none ∨ ∃ g : Addr, rc_Share_pow = some (.ref g)))
    (i1_Share_pow : PySem.W.findIn K (.type "int") "__pow__" = some fo_Share_pow)
    (i2_Share_pow : PySem.W.findIn K (.type "int") "__rpow__" = some ro_Share_pow)
    (is_Share_pow : PySem.W.subIn K (.type "int") (.ref c_Share) = some false)
    (kg : PySem.W.specialIn K (.builtin "object.__class__") "__get__" = some (some (.builtin "getset_descriptor.__get__")))
    (kt : PySem.W.takesIn K (.builtin "object.__class__") = some true)
    (xl_GangError : K.lookup c_GangError = some (excClassObj nm_GangError q_GangError c_GangError N_GangError bs_GangError bm_GangError true sn_GangError sub_GangError ab_GangError col_GangError dd_GangError m0_GangError m1_GangError m2_GangError m3_GangError m5_GangError "ValueError.__new__"))
    (xr_GangError : PySem.HandSPX.refsVE bm_GangError = true)
    (xsa_GangError : PySem.W.findIn K (.ref c_GangError) "__setattr__" = some (some (.builtin "object.__setattr__")))
    (xex_GangError : PySem.W.subIn K (.ref c_GangError) (.type "BaseException") = some true)
    (xty_GangError : PySem.W.typeIn K (.ref c_GangError) = some (.type "type"))
    (xkp_GangError : PySem.W.keepIn K (.ref c_GangError) = true)
    (xin_GangError : PySem.W.findIn K (.ref c_GangError) "__init__" = some (some (.ref f_GangError_init)))
    (xno_GangError : PySem.W.findIn K (.ref c_GangError) "subject" = some none)
    (xga_GangError : PySem.W.findIn K (.ref c_GangError) "__getattribute__" = some (some (.builtin "BaseException.__getattribute__")))
    (xgg_GangError : PySem.W.findIn K (.ref c_GangError) "__getattr__" = some none)
    (xhd_GangError : PySem.W.hasDictIn K c_GangError = true)
    (xk1_GangError : PySem.W.findIn K (.ref c_GangError) "__class__" = some (some (.builtin "object.__class__")))
    (xk4_GangError : PySem.W.mroIn K c_GangError (.type "object") = some true)
    (xem_GangError : PySem.W.subIn K (.ref c_GangError) (.ref c_GangError) = some true)
    (xl_BadShare : K.lookup c_BadShare = some (excClassObj nm_BadShare q_BadShare c_BadShare N_BadShare bs_BadShare bm_BadShare true sn_BadShare sub_BadShare ab_BadShare col_BadShare dd_BadShare m0_BadShare m1_BadShare m2_BadShare m3_BadShare m5_BadShare "ValueError.__new__"))
    (xr_BadShare : PySem.HandSPX.refsVE bm_BadShare = true)
    (xsa_BadShare : PySem.W.findIn K (.ref c_BadShare) "__setattr__" = some (some (.builtin "object.__setattr__")))
    (xex_BadShare : PySem.W.subIn K (.ref c_BadShare) (.type "BaseException") = some true)
    (xty_BadShare : PySem.W.typeIn K (.ref c_BadShare) = some (.type "type"))
    (xkp_BadShare : PySem.W.keepIn K (.ref c_BadShare) = true)
    (xin_BadShare : PySem.W.findIn K (.ref c_BadShare) "__init__" = some (some (.ref f_GangError_init)))
    (xno_BadShare : PySem.W.findIn K (.ref c_BadShare) "subject" = some none)
    (xga_BadShare : PySem.W.findIn K (.ref c_BadShare) "__getattribute__" = some (some (.builtin "BaseException.__getattribute__")))
    (xgg_BadShare : PySem.W.findIn K (.ref c_BadShare) "__getattr__" = some none)
    (xhd_BadShare : PySem.W.hasDictIn K c_BadShare = true)
    (xk1_BadShare : PySem.W.findIn K (.ref c_BadShare) "__class__" = some (some (.builtin "object.__class__")))
    (xk4_BadShare : PySem.W.mroIn K c_BadShare (.type "object") = some true)
    (xem_BadShare : PySem.W.subIn K (.ref c_BadShare) (.ref c_GangError) = some true)
    (tI_GangError : PySem.W.typeIn K (.ref f_GangError_init) = some (.type "function"))
    (si_Share : PySem.W.subIn K (.ref c_Share) (.type "int") = some false)
    (ty_Share : PySem.W.typeIn K (.ref c_Share) = some (.type "type"))
    (st_int_Share : PySem.W.subIn K (.type "int") (.ref c_Share) = some false)
    (gcd : PySem.W.nsIn K mainGlobals "gcd" = some (some (.builtin "math.gcd")))
    : ∃ fd : FuncData, (∀ (s : Shared) (v : Value), BindsTo s fd ⟨[v], []⟩ [("_law_script", v)]) ∧ ∀ base : Heap, K.In base → base.Ns mainGlobals mg → FnOk P w K mg base CX0 12 fa fd ["_law_script"] (spLaw K) := by
  have e := hfa.symm.trans (PySem.W.mg_of X G at_law)
  cases e
  let A : Adr := { c_Share := c_Share, c_GangError := c_GangError, c_BadShare := c_BadShare, f_GangError_init := f_GangError_init, d_GangError_init := PySem.W.fnOf "__init__" "GangError.__init__" (defArgs s_GangError_init) (defBody s_GangError_init) (defScope s_GangError_init) .none kV_GangError_init dc_GangError_init pm_GangError_init an_GangError_init cd_GangError_init ct_GangError_init, f_Share_init := f_Share_init, d_Share_init := PySem.W.fnOf "__init__" "Share.__init__" (defArgs s_Share_init) (defBody s_Share_init) (defScope s_Share_init) (.ref T_Share_init) kV_Share_init dc_Share_init pm_Share_init an_Share_init cd_Share_init ct_Share_init, f_Share_neg := f_Share_neg, d_Share_neg := PySem.W.fnOf "__neg__" "Share.__neg__" (defArgs s_Share_neg) (defBody s_Share_neg) (defScope s_Share_neg) .none kV_Share_neg dc_Share_neg pm_Share_neg an_Share_neg cd_Share_neg ct_Share_neg, f_as_share := f_as_share, d_as_share := PySem.W.fnOf "as_share" "as_share" (defArgs s_as_share) (defBody s_as_share) (defScope s_as_share) .none kV_as_share dc_as_share pm_as_share an_as_share cd_as_share ct_as_share, f_Share_add := f_Share_add, d_Share_add := PySem.W.fnOf "__add__" "Share.__add__" (defArgs s_Share_add) (defBody s_Share_add) (defScope s_Share_add) .none kV_Share_add dc_Share_add pm_Share_add an_Share_add cd_Share_add ct_Share_add, f_Share_mul := f_Share_mul, d_Share_mul := PySem.W.fnOf "__mul__" "Share.__mul__" (defArgs s_Share_mul) (defBody s_Share_mul) (defScope s_Share_mul) .none kV_Share_mul dc_Share_mul pm_Share_mul an_Share_mul cd_Share_mul ct_Share_mul, f_Share_sub := f_Share_sub, d_Share_sub := PySem.W.fnOf "__sub__" "Share.__sub__" (defArgs s_Share_sub) (defBody s_Share_sub) (defScope s_Share_sub) .none kV_Share_sub dc_Share_sub pm_Share_sub an_Share_sub cd_Share_sub ct_Share_sub, f_Share_radd := f_Share_radd, d_Share_radd := PySem.W.fnOf "__radd__" "Share.__radd__" (defArgs s_Share_radd) (defBody s_Share_radd) (defScope s_Share_radd) .none kV_Share_radd dc_Share_radd pm_Share_radd an_Share_radd cd_Share_radd ct_Share_radd, f_Share_rsub := f_Share_rsub, d_Share_rsub := PySem.W.fnOf "__rsub__" "Share.__rsub__" (defArgs s_Share_rsub) (defBody s_Share_rsub) (defScope s_Share_rsub) .none kV_Share_rsub dc_Share_rsub pm_Share_rsub an_Share_rsub cd_Share_rsub ct_Share_rsub, f_Share_rmul := f_Share_rmul, d_Share_rmul := PySem.W.fnOf "__rmul__" "Share.__rmul__" (defArgs s_Share_rmul) (defBody s_Share_rmul) (defScope s_Share_rmul) .none kV_Share_rmul dc_Share_rmul pm_Share_rmul an_Share_rmul cd_Share_rmul ct_Share_rmul, f_Share_pow := f_Share_pow, d_Share_pow := PySem.W.fnOf "__pow__" "Share.__pow__" (defArgs s_Share_pow) (defBody s_Share_pow) (defScope s_Share_pow) .none kV_Share_pow dc_Share_pow pm_Share_pow an_Share_pow cd_Share_pow ct_Share_pow, f_pool := f_pool, d_pool := PySem.W.fnOf "_law_pool" "_law_pool" (defArgs s_pool) (defBody s_pool) (defScope s_pool) .none kV_pool dc_pool pm_pool an_pool cd_pool ct_pool, f_draw := f_draw, d_draw := PySem.W.fnOf "_law_draw" "_law_draw" (defArgs s_draw) (defBody s_draw) (defScope s_draw) .none kV_draw dc_draw pm_draw an_draw cd_draw ct_draw, f_number := f_number, d_number := PySem.W.fnOf "_law_number" "_law_number" (defArgs s_number) (defBody s_number) (defScope s_number) .none kV_number dc_number pm_number an_number cd_number ct_number, f_signed := f_signed, d_signed := PySem.W.fnOf "_law_signed" "_law_signed" (defArgs s_signed) (defBody s_signed) (defScope s_signed) .none kV_signed dc_signed pm_signed an_signed cd_signed ct_signed, f_pair := f_pair, d_pair := PySem.W.fnOf "_law_pair" "_law_pair" (defArgs s_pair) (defBody s_pair) (defScope s_pair) .none kV_pair dc_pair pm_pair an_pair cd_pair ct_pair, f_whole := f_whole, d_whole := PySem.W.fnOf "_law_whole" "_law_whole" (defArgs s_whole) (defBody s_whole) (defScope s_whole) .none kV_whole dc_whole pm_whole an_whole cd_whole ct_whole, f_coprime := f_coprime, d_coprime := PySem.W.fnOf "_law_coprime" "_law_coprime" (defArgs s_coprime) (defBody s_coprime) (defScope s_coprime) .none kV_coprime dc_coprime pm_coprime an_coprime cd_coprime ct_coprime, f_is := f_is, d_is := PySem.W.fnOf "_law_is" "_law_is" (defArgs s_is) (defBody s_is) (defScope s_is) .none kV_is dc_is pm_is an_is cd_is ct_is, f_sums := f_sums, d_sums := PySem.W.fnOf "_law_sums" "_law_sums" (defArgs s_sums) (defBody s_sums) (defScope s_sums) .none kV_sums dc_sums pm_sums an_sums cd_sums ct_sums, f_powers := f_powers, d_powers := PySem.W.fnOf "_law_powers" "_law_powers" (defArgs s_powers) (defBody s_powers) (defScope s_powers) .none kV_powers dc_powers pm_powers an_powers cd_powers ct_powers, f_power := f_power, d_power := PySem.W.fnOf "_law_power" "_law_power" (defArgs s_power) (defBody s_power) (defScope s_power) .none kV_power dc_power pm_power an_power cd_power ct_power, f_law := fa, d_law := PySem.W.fnOf "law" "law" (defArgs s_law) (defBody s_law) (defScope s_law) .none kV_law dc_law pm_law an_law cd_law ct_law }
  have T : Txt K mg A := {
    n_abs := PySem.W.mg_none_of X G nb_abs
    n_bool := PySem.W.mg_none_of X G nb_bool
    n_int := PySem.W.mg_none_of X G nb_int
    n_isinstance := PySem.W.mg_none_of X G nb_isinstance
    n_len := PySem.W.mg_none_of X G nb_len
    n_range := PySem.W.mg_none_of X G nb_range
    g_Share := PySem.W.mg_of X G ag_Share
    g_GangError := PySem.W.mg_of X G ag_GangError
    g_BadShare := PySem.W.mg_of X G ag_BadShare
    F_GangError_init := fun_mk (st := s_GangError_init) lk_GangError_init co_GangError_init ke_GangError_init
    b_GangError_init := (fun_mk (st := s_GangError_init) lk_GangError_init co_GangError_init ke_GangError_init).binds (ps := ["self", "subject"]) fun _ _ _ _ _ _ us hl => match us, hl with | [_, _], _ => rfl
    me_GangError_init := ⟨at_GangError_init, fn_GangError_init, ke_GangError_init⟩
    F_Share_init := ⟨⟨_, _, _, _, _, _, _, _, _, _, rfl, lk_Share_init, co_Share_init, .inr ⟨by simp, _, _, [Value.int 1 tk0_Share_init], _, rfl, dl_Share_init, rfl, .cons ⟨_, rfl⟩ (.nil)⟩, .inl rfl⟩, ke_Share_init⟩
    b_Share_init := binds_none (FunD.binds1 (ps := ["self", "top", "bottom"]) (show FunD K "__init__" "Share.__init__" (defArgs s_Share_init) (defBody s_Share_init) (defScope s_Share_init) [.int 1] [] f_Share_init (PySem.W.fnOf "__init__" "Share.__init__" (defArgs s_Share_init) (defBody s_Share_init) (defScope s_Share_init) (.ref T_Share_init) kV_Share_init dc_Share_init pm_Share_init an_Share_init cd_Share_init ct_Share_init) from ⟨⟨_, _, _, _, _, _, _, _, _, _, rfl, lk_Share_init, co_Share_init, .inr ⟨by simp, _, _, [Value.int 1 tk0_Share_init], _, rfl, dl_Share_init, rfl, .cons ⟨_, rfl⟩ (.nil)⟩, .inl rfl⟩, ke_Share_init⟩) 3 1 (by simp) rfl (fun T kV doc pm an cdv ct us its hu hi => match us, its, hu, hi with | [_, _, _], [_], _, _ => ⟨_, rfl, rfl⟩))
    e_Share_init := FunD.binds1 (ps := ["self", "top", "bottom"]) (show FunD K "__init__" "Share.__init__" (defArgs s_Share_init) (defBody s_Share_init) (defScope s_Share_init) [.int 1] [] f_Share_init (PySem.W.fnOf "__init__" "Share.__init__" (defArgs s_Share_init) (defBody s_Share_init) (defScope s_Share_init) (.ref T_Share_init) kV_Share_init dc_Share_init pm_Share_init an_Share_init cd_Share_init ct_Share_init) from ⟨⟨_, _, _, _, _, _, _, _, _, _, rfl, lk_Share_init, co_Share_init, .inr ⟨by simp, _, _, [Value.int 1 tk0_Share_init], _, rfl, dl_Share_init, rfl, .cons ⟨_, rfl⟩ (.nil)⟩, .inl rfl⟩, ke_Share_init⟩) 2 0 (by simp) rfl (fun T kV doc pm an cdv ct us its hu hi => match us, its, hu, hi with | [_, _], [_], _, _ => ⟨_, rfl, rfl⟩)
    me_Share_init := ⟨at_Share_init, fn_Share_init, ke_Share_init⟩
    F_Share_neg := fun_mk (st := s_Share_neg) lk_Share_neg co_Share_neg ke_Share_neg
    b_Share_neg := (fun_mk (st := s_Share_neg) lk_Share_neg co_Share_neg ke_Share_neg).binds (ps := ["self"]) fun _ _ _ _ _ _ us hl => match us, hl with | [_], _ => rfl
    me_Share_neg := ⟨at_Share_neg, fn_Share_neg, ke_Share_neg⟩
    F_as_share := fun_mk (st := s_as_share) lk_as_share co_as_share ke_as_share
    b_as_share := (fun_mk (st := s_as_share) lk_as_share co_as_share ke_as_share).binds (ps := ["worth"]) fun _ _ _ _ _ _ us hl => match us, hl with | [_], _ => rfl
    g_as_share := PySem.W.mg_of X G at_as_share
    F_Share_add := fun_mk (st := s_Share_add) lk_Share_add co_Share_add ke_Share_add
    b_Share_add := (fun_mk (st := s_Share_add) lk_Share_add co_Share_add ke_Share_add).binds (ps := ["self", "other"]) fun _ _ _ _ _ _ us hl => match us, hl with | [_, _], _ => rfl
    me_Share_add := ⟨at_Share_add, fn_Share_add, ke_Share_add⟩
    F_Share_mul := fun_mk (st := s_Share_mul) lk_Share_mul co_Share_mul ke_Share_mul
    b_Share_mul := (fun_mk (st := s_Share_mul) lk_Share_mul co_Share_mul ke_Share_mul).binds (ps := ["self", "other"]) fun _ _ _ _ _ _ us hl => match us, hl with | [_, _], _ => rfl
    me_Share_mul := ⟨at_Share_mul, fn_Share_mul, ke_Share_mul⟩
    F_Share_sub := fun_mk (st := s_Share_sub) lk_Share_sub co_Share_sub ke_Share_sub
    b_Share_sub := (fun_mk (st := s_Share_sub) lk_Share_sub co_Share_sub ke_Share_sub).binds (ps := ["self", "other"]) fun _ _ _ _ _ _ us hl => match us, hl with | [_, _], _ => rfl
    me_Share_sub := ⟨at_Share_sub, fn_Share_sub, ke_Share_sub⟩
    F_Share_radd := fun_mk (st := s_Share_radd) lk_Share_radd co_Share_radd ke_Share_radd
    b_Share_radd := (fun_mk (st := s_Share_radd) lk_Share_radd co_Share_radd ke_Share_radd).binds (ps := ["self", "other"]) fun _ _ _ _ _ _ us hl => match us, hl with | [_, _], _ => rfl
    me_Share_radd := ⟨at_Share_radd, fn_Share_radd, ke_Share_radd⟩
    F_Share_rsub := fun_mk (st := s_Share_rsub) lk_Share_rsub co_Share_rsub ke_Share_rsub
    b_Share_rsub := (fun_mk (st := s_Share_rsub) lk_Share_rsub co_Share_rsub ke_Share_rsub).binds (ps := ["self", "other"]) fun _ _ _ _ _ _ us hl => match us, hl with | [_, _], _ => rfl
    me_Share_rsub := ⟨at_Share_rsub, fn_Share_rsub, ke_Share_rsub⟩
    F_Share_rmul := fun_mk (st := s_Share_rmul) lk_Share_rmul co_Share_rmul ke_Share_rmul
    b_Share_rmul := (fun_mk (st := s_Share_rmul) lk_Share_rmul co_Share_rmul ke_Share_rmul).binds (ps := ["self", "other"]) fun _ _ _ _ _ _ us hl => match us, hl with | [_, _], _ => rfl
    me_Share_rmul := ⟨at_Share_rmul, fn_Share_rmul, ke_Share_rmul⟩
    F_Share_pow := fun_mk (st := s_Share_pow) lk_Share_pow co_Share_pow ke_Share_pow
    b_Share_pow := (fun_mk (st := s_Share_pow) lk_Share_pow co_Share_pow ke_Share_pow).binds (ps := ["self", "other"]) fun _ _ _ _ _ _ us hl => match us, hl with | [_, _], _ => rfl
    me_Share_pow := ⟨at_Share_pow, fn_Share_pow, ke_Share_pow⟩
    F_pool := fun_mk (st := s_pool) lk_pool co_pool ke_pool
    b_pool := (fun_mk (st := s_pool) lk_pool co_pool ke_pool).binds (ps := ["_law_script"]) fun _ _ _ _ _ _ us hl => match us, hl with | [_], _ => rfl
    g_pool := PySem.W.mg_of X G at_pool
    F_draw := fun_mk (st := s_draw) lk_draw co_draw ke_draw
    b_draw := (fun_mk (st := s_draw) lk_draw co_draw ke_draw).binds (ps := ["_law_pool_here", "_law_many"]) fun _ _ _ _ _ _ us hl => match us, hl with | [_, _], _ => rfl
    g_draw := PySem.W.mg_of X G at_draw
    F_number := fun_mk (st := s_number) lk_number co_number ke_number
    b_number := (fun_mk (st := s_number) lk_number co_number ke_number).binds (ps := ["_law_pool_here", "_law_groups"]) fun _ _ _ _ _ _ us hl => match us, hl with | [_, _], _ => rfl
    g_number := PySem.W.mg_of X G at_number
    F_signed := fun_mk (st := s_signed) lk_signed co_signed ke_signed
    b_signed := (fun_mk (st := s_signed) lk_signed co_signed ke_signed).binds (ps := ["_law_pool_here", "_law_groups"]) fun _ _ _ _ _ _ us hl => match us, hl with | [_, _], _ => rfl
    g_signed := PySem.W.mg_of X G at_signed
    F_pair := fun_mk (st := s_pair) lk_pair co_pair ke_pair
    b_pair := (fun_mk (st := s_pair) lk_pair co_pair ke_pair).binds (ps := ["_law_pool_here"]) fun _ _ _ _ _ _ us hl => match us, hl with | [_], _ => rfl
    g_pair := PySem.W.mg_of X G at_pair
    F_whole := fun_mk (st := s_whole) lk_whole co_whole ke_whole
    b_whole := (fun_mk (st := s_whole) lk_whole co_whole ke_whole).binds (ps := ["_law_value"]) fun _ _ _ _ _ _ us hl => match us, hl with | [_], _ => rfl
    g_whole := PySem.W.mg_of X G at_whole
    F_coprime := fun_mk (st := s_coprime) lk_coprime co_coprime ke_coprime
    b_coprime := (fun_mk (st := s_coprime) lk_coprime co_coprime ke_coprime).binds (ps := ["_law_one", "_law_other"]) fun _ _ _ _ _ _ us hl => match us, hl with | [_, _], _ => rfl
    g_coprime := PySem.W.mg_of X G at_coprime
    F_is := fun_mk (st := s_is) lk_is co_is ke_is
    b_is := (fun_mk (st := s_is) lk_is co_is ke_is).binds (ps := ["_law_share", "_law_top", "_law_bottom"]) fun _ _ _ _ _ _ us hl => match us, hl with | [_, _, _], _ => rfl
    g_is := PySem.W.mg_of X G at_is
    F_sums := fun_mk (st := s_sums) lk_sums co_sums ke_sums
    b_sums := (fun_mk (st := s_sums) lk_sums co_sums ke_sums).binds (ps := ["_law_one", "_law_a", "_law_other", "_law_b"]) fun _ _ _ _ _ _ us hl => match us, hl with | [_, _, _, _], _ => rfl
    g_sums := PySem.W.mg_of X G at_sums
    F_powers := fun_mk (st := s_powers) lk_powers co_powers ke_powers
    b_powers := (fun_mk (st := s_powers) lk_powers co_powers ke_powers).binds (ps := ["_law_share", "_law_block"]) fun _ _ _ _ _ _ us hl => match us, hl with | [_, _], _ => rfl
    g_powers := PySem.W.mg_of X G at_powers
    F_power := fun_mk (st := s_power) lk_power co_power ke_power
    b_power := (fun_mk (st := s_power) lk_power co_power ke_power).binds (ps := ["_law_share", "_law_block"]) fun _ _ _ _ _ _ us hl => match us, hl with | [_, _], _ => rfl
    g_power := PySem.W.mg_of X G at_power
    F_law := fun_mk (st := s_law) lk_law co_law ke_law
    b_law := (fun_mk (st := s_law) lk_law co_law ke_law).binds (ps := ["_law_script"]) fun _ _ _ _ _ _ us hl => match us, hl with | [_], _ => rfl
    g_law := PySem.W.mg_of X G at_law
    cl_Share := ⟨pg_Share, hd_Share, po_Share, sa_Share⟩
    mk_Share := ⟨mk_Share, at_Share_init, fn_Share_init, kp_Share⟩
    sf_Share := sf_Share
    k1_Share := k1_Share
    k4_Share := k4_Share
    no_Share_top := no_Share_top
    no_Share_bottom := no_Share_bottom
    i_Share_add := ⟨⟨_, ir_Share_add, iz_Share_add⟩, ⟨_, i1_Share_add⟩, ⟨_, i2_Share_add⟩, is_Share_add⟩
    i_Share_sub := ⟨⟨_, ir_Share_sub, iz_Share_sub⟩, ⟨_, i1_Share_sub⟩, ⟨_, i2_Share_sub⟩, is_Share_sub⟩
    i_Share_mul := ⟨⟨_, ir_Share_mul, iz_Share_mul⟩, ⟨_, i1_Share_mul⟩, ⟨_, i2_Share_mul⟩, is_Share_mul⟩
    i_Share_pow := ⟨⟨_, ir_Share_pow, iz_Share_pow⟩, ⟨_, i1_Share_pow⟩, ⟨_, i2_Share_pow⟩, is_Share_pow⟩
    kg := kg
    kt := kt
    x_GangError := ⟨⟨⟨_, _, _, _, _, _, _, _, _, _, _, _, _, _, _, xl_GangError, xr_GangError⟩, xsa_GangError, xex_GangError, xty_GangError, xkp_GangError⟩, xin_GangError, tI_GangError, xno_GangError⟩
    xf_GangError := ⟨xga_GangError, xgg_GangError, xex_GangError, xhd_GangError⟩
    xc_GangError := ⟨xga_GangError, xgg_GangError, xex_GangError, xhd_GangError, xk1_GangError, kg, kt, xk4_GangError⟩
    xm_GangError := PySem.W.exm_ref xex_GangError xhd_GangError xty_GangError xem_GangError
    x_BadShare := ⟨⟨⟨_, _, _, _, _, _, _, _, _, _, _, _, _, _, _, xl_BadShare, xr_BadShare⟩, xsa_BadShare, xex_BadShare, xty_BadShare, xkp_BadShare⟩, xin_BadShare, tI_GangError, xno_BadShare⟩
    xf_BadShare := ⟨xga_BadShare, xgg_BadShare, xex_BadShare, xhd_BadShare⟩
    xc_BadShare := ⟨xga_BadShare, xgg_BadShare, xex_BadShare, xhd_BadShare, xk1_BadShare, kg, kt, xk4_BadShare⟩
    xm_BadShare := PySem.W.exm_ref xex_GangError xhd_GangError xty_GangError xem_BadShare
    si_Share := si_Share
    st_int_Share := st_int_Share
    kt_int_Share := kit_tb hd_Share ty_Share st_int_Share
    gcd := PySem.W.mg_of X G gcd
  }
  exact ⟨A.d_law, fun s v => .of_eq rfl, fun base _ _ => ok_law (base := base) T⟩
theorem walk {l : PySem.W.OpenLaw} {q : Program} {loose : List Str} {XP : (Str → Option Value) → Heap → Prop} {YP : World → Heap → Prop} {d : DefRec} {K : Params → PySem.W.Frag} (hn : l.most = some 63) (hdf : d.params.defaults = [])
    (hY : ∀ (w : World) (h : Heap), YP w h → (K w.params).In h)
    (F : ∀ (w : World) (mg : Str → Option Value) (fa : Addr) (h : Heap), (K w.params).In h → h.Ns mainGlobals mg → mg d.name = some (.ref fa) →
      ∃ fd : FuncData, (∀ (s : Shared) (u : Value), BindsTo s fd ⟨[u], []⟩ [("_law_script", u)]) ∧ ∀ base : Heap, (K w.params).In base → base.Ns mainGlobals mg → FnOk l.prog w (K w.params) mg base CX0 lawLvl fa fd ["_law_script"] (spLaw (K w.params))) :
    PySem.W.WalkO q loose XP YP l.row.toRowW d [] (fun f vs => PySem.call f vs) :=
  L2.walk_ofB (n := 63) (k := lawLvl) (x := "_law_script") (CX := fun _ => CX0) (sp := fun w => spLaw (K w.params)) hn (by decide) hdf ⟨rfl, by decide, by decide⟩ hY F (fun _ _ a ns hl hb _ hS => ⟨a, ns, rfl, hS, hl, hb, fun _ => rfl⟩) fun _ _ _ _ _ z => z
end LW
open PySem PySem.W PyProof.Rows
set_option maxRecDepth 100000 in
set_option maxHeartbeats 0 in
theorem PySem.Challenge.cw_gangbooks_k01_share_sums_products_holds : PySem.Challenge.rw_gangbooks_k01_share_sums_products.Holds := by
  w_on; o_law; k_head; (case hw => w_witness2)
  k_fill
  refine LW.walk (l := PySem.Challenge.rw_gangbooks_k01_share_sums_products) rfl rfl (fun w h Y => PySem.W.kIn_of Y) ?F
  case F =>
    intro w mg fa h KX G hmg
    refine' LW.all_mk KX G hmg ?nb_abs ?nb_bool ?nb_int ?nb_isinstance ?nb_len ?nb_range ?ag_Share ?ag_GangError ?ag_BadShare ?at_GangError_init ?lk_GangError_init ?co_GangError_init ?ke_GangError_init ?fn_GangError_init ?at_Share_init ?lk_Share_init ?co_Share_init ?ke_Share_init ?dl_Share_init ?fn_Share_init ?at_Share_neg ?lk_Share_neg ?co_Share_neg ?ke_Share_neg ?fn_Share_neg ?at_as_share ?lk_as_share ?co_as_share ?ke_as_share ?at_Share_add ?lk_Share_add ?co_Share_add ?ke_Share_add ?fn_Share_add ?at_Share_mul ?lk_Share_mul ?co_Share_mul ?ke_Share_mul ?fn_Share_mul ?at_Share_sub ?lk_Share_sub ?co_Share_sub ?ke_Share_sub ?fn_Share_sub ?at_Share_radd ?lk_Share_radd ?co_Share_radd ?ke_Share_radd ?fn_Share_radd ?at_Share_rsub ?lk_Share_rsub ?co_Share_rsub ?ke_Share_rsub ?fn_Share_rsub ?at_Share_rmul ?lk_Share_rmul ?co_Share_rmul ?ke_Share_rmul ?fn_Share_rmul ?at_Share_pow ?lk_Share_pow ?co_Share_pow ?ke_Share_pow ?fn_Share_pow ?at_pool ?lk_pool ?co_pool ?ke_pool ?at_draw ?lk_draw ?co_draw ?ke_draw ?at_number ?lk_number ?co_number ?ke_number ?at_signed ?lk_signed ?co_signed ?ke_signed ?at_pair ?lk_pair ?co_pair ?ke_pair ?at_whole ?lk_whole ?co_whole ?ke_whole ?at_coprime ?lk_coprime ?co_coprime ?ke_coprime ?at_is ?lk_is ?co_is ?ke_is ?at_sums ?lk_sums ?co_sums ?ke_sums ?at_powers ?lk_powers ?co_powers ?ke_powers ?at_power ?lk_power ?co_power ?ke_power ?at_law ?lk_law ?co_law ?ke_law ?pg_Share ?hd_Share ?po_Share ?sa_Share ?mk_Share ?kp_Share ?sf_Share ?k1_Share ?k4_Share ?no_Share_top ?no_Share_bottom ?ir_Share_add ?iz_Share_add ?i1_Share_add ?i2_Share_add ?is_Share_add ?ir_Share_sub ?iz_Share_sub ?i1_Share_sub ?i2_Share_sub ?is_Share_sub ?ir_Share_mul ?iz_Share_mul ?i1_Share_mul ?i2_Share_mul ?is_Share_mul ?ir_Share_pow ?iz_Share_pow ?i1_Share_pow ?i2_Share_pow ?is_Share_pow ?kg ?kt ?xl_GangError ?xr_GangError ?xsa_GangError ?xex_GangError ?xty_GangError ?xkp_GangError ?xin_GangError ?xno_GangError ?xga_GangError ?xgg_GangError ?xhd_GangError ?xk1_GangError ?xk4_GangError ?xem_GangError ?xl_BadShare ?xr_BadShare ?xsa_BadShare ?xex_BadShare ?xty_BadShare ?xkp_BadShare ?xin_BadShare ?xno_BadShare ?xga_BadShare ?xgg_BadShare ?xhd_BadShare ?xk1_BadShare ?xk4_BadShare ?xem_BadShare ?tI_GangError ?si_Share ?ty_Share ?st_int_Share ?gcd
    (case nb_abs => k_is)
    (case nb_bool => k_is)
    (case nb_int => k_is)
    (case nb_isinstance => k_is)
    (case nb_len => k_is)
    (case nb_range => k_is)
    (case ag_Share => k_is)
    (case ag_GangError => k_is)
    (case ag_BadShare => k_is)
    (case at_GangError_init => k_is)
    (case lk_GangError_init => k_is)
    (case co_GangError_init => k_is)
    (case ke_GangError_init => k_is)
    (case fn_GangError_init => k_is)
    (case at_Share_init => k_is)
    (case lk_Share_init => k_is)
    (case co_Share_init => k_is)
    (case ke_Share_init => k_is)
    (case dl_Share_init => k_is)
    (case fn_Share_init => k_is)
    (case at_Share_neg => k_is)
    (case lk_Share_neg => k_is)
    (case co_Share_neg => k_is)
    (case ke_Share_neg => k_is)
    (case fn_Share_neg => k_is)
    (case at_as_share => k_is)
    (case lk_as_share => k_is)
    (case co_as_share => k_is)
    (case ke_as_share => k_is)
    (case at_Share_add => k_is)
    (case lk_Share_add => k_is)
    (case co_Share_add => k_is)
    (case ke_Share_add => k_is)
    (case fn_Share_add => k_is)
    (case at_Share_mul => k_is)
    (case lk_Share_mul => k_is)
    (case co_Share_mul => k_is)
    (case ke_Share_mul => k_is)
    (case fn_Share_mul => k_is)
    (case at_Share_sub => k_is)
    (case lk_Share_sub => k_is)
    (case co_Share_sub => k_is)
    (case ke_Share_sub => k_is)
    (case fn_Share_sub => k_is)
    (case at_Share_radd => k_is)
    (case lk_Share_radd => k_is)
    (case co_Share_radd => k_is)
    (case ke_Share_radd => k_is)
    (case fn_Share_radd => k_is)
    (case at_Share_rsub => k_is)
    (case lk_Share_rsub => k_is)
    (case co_Share_rsub => k_is)
    (case ke_Share_rsub => k_is)
    (case fn_Share_rsub => k_is)
    (case at_Share_rmul => k_is)
    (case lk_Share_rmul => k_is)
    (case co_Share_rmul => k_is)
    (case ke_Share_rmul => k_is)
    (case fn_Share_rmul => k_is)
    (case at_Share_pow => k_is)
    (case lk_Share_pow => k_is)
    (case co_Share_pow => k_is)
    (case ke_Share_pow => k_is)
    (case fn_Share_pow => k_is)
    (case at_pool => k_is)
    (case lk_pool => k_is)
    (case co_pool => k_is)
    (case ke_pool => k_is)
    (case at_draw => k_is)
    (case lk_draw => k_is)
    (case co_draw => k_is)
    (case ke_draw => k_is)
    (case at_number => k_is)
    (case lk_number => k_is)
    (case co_number => k_is)
    (case ke_number => k_is)
    (case at_signed => k_is)
    (case lk_signed => k_is)
    (case co_signed => k_is)
    (case ke_signed => k_is)
    (case at_pair => k_is)
    (case lk_pair => k_is)
    (case co_pair => k_is)
    (case ke_pair => k_is)
    (case at_whole => k_is)
    (case lk_whole => k_is)
    (case co_whole => k_is)
    (case ke_whole => k_is)
    (case at_coprime => k_is)
    (case lk_coprime => k_is)
    (case co_coprime => k_is)
    (case ke_coprime => k_is)
    (case at_is => k_is)
    (case lk_is => k_is)
    (case co_is => k_is)
    (case ke_is => k_is)
    (case at_sums => k_is)
    (case lk_sums => k_is)
    (case co_sums => k_is)
    (case ke_sums => k_is)
    (case at_powers => k_is)
    (case lk_powers => k_is)
    (case co_powers => k_is)
    (case ke_powers => k_is)
    (case at_power => k_is)
    (case lk_power => k_is)
    (case co_power => k_is)
    (case ke_power => k_is)
    (case at_law => k_is)
    (case lk_law => k_is)
    (case co_law => k_is)
    (case ke_law => k_is)
    (case pg_Share => k_is)
    (case hd_Share => k_is)
    (case po_Share => k_is)
    (case sa_Share => k_is)
    (case mk_Share => k_is)
    (case kp_Share => k_is)
    (case sf_Share => k_is)
    (case k1_Share => k_is)
    (case k4_Share => k_is)
    (case no_Share_top => k_is)
    (case no_Share_bottom => k_is)
    (case ir_Share_add => k_is)
    (case iz_Share_add => first | exact .inl rfl | exact .inr ⟨_, rfl⟩)
    (case i1_Share_add => k_is)
    (case i2_Share_add => k_is)
    (case is_Share_add => k_is)
    (case ir_Share_sub => k_is)
    (case iz_Share_sub => first | exact .inl rfl | exact .inr ⟨_, rfl⟩)
    (case i1_Share_sub => k_is)
    (case i2_Share_sub => k_is)
    (case is_Share_sub => k_is)
    (case ir_Share_mul => k_is)
    (case iz_Share_mul => first | exact .inl rfl | exact .inr ⟨_, rfl⟩)
    (case i1_Share_mul => k_is)
    (case i2_Share_mul => k_is)
    (case is_Share_mul => k_is)
    (case ir_Share_pow => k_is)
    (case iz_Share_pow => first | exact .inl rfl | exact .inr ⟨_, rfl⟩)
    (case i1_Share_pow => k_is)
    (case i2_Share_pow => k_is)
    (case is_Share_pow => k_is)
    (case kg => k_is)
    (case kt => k_is)
    (case xl_GangError => k_is)
    (case xr_GangError => first | rfl | decide +kernel)
    (case xsa_GangError => k_is)
    (case xex_GangError => k_is)
    (case xty_GangError => k_is)
    (case xkp_GangError => k_is)
    (case xin_GangError => k_is)
    (case xno_GangError => k_is)
    (case xga_GangError => k_is)
    (case xgg_GangError => k_is)
    (case xhd_GangError => k_is)
    (case xk1_GangError => k_is)
    (case xk4_GangError => k_is)
    (case xem_GangError => first | rfl | k_is)
    (case xl_BadShare => k_is)
    (case xr_BadShare => first | rfl | decide +kernel)
    (case xsa_BadShare => k_is)
    (case xex_BadShare => k_is)
    (case xty_BadShare => k_is)
    (case xkp_BadShare => k_is)
    (case xin_BadShare => k_is)
    (case xno_BadShare => k_is)
    (case xga_BadShare => k_is)
    (case xgg_BadShare => k_is)
    (case xhd_BadShare => k_is)
    (case xk1_BadShare => k_is)
    (case xk4_BadShare => k_is)
    (case xem_BadShare => first | rfl | k_is)
    (case tI_GangError => k_is)
    (case si_Share => k_is)
    (case ty_Share => k_is)
    (case st_int_Share => k_is)
    (case gcd => k_is)
