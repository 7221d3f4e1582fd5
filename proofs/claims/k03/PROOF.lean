import PyProof.Rows.All
import Wide.All
import OpenK.AllK
import Wide.FinOn
import PyProof.EqAt
import PyProof.EqKinds
import PyProof.TupleCall
import HandS.Base
import HandS.Call
import HandS.List
import HandS.Exc
import HandS.IsInst
import HandS.ExcOwn
import HandS.ExcInit
import HandS.ExcField
import HandS.ExcIs
import HandS.TryOnly
import HandS.CallSlots
import HandS.Words
import HandS.WordsExc
import KE.KExcIs
import HandS.Sort
import PyProof.Rows.RuleN_abs
import HandS.OwnEq
import HandS.IterNext
import PyProof.FactsSeq
import PyProof.TupleIter
import PyProof.WalksMore
import HandS.Star
import HandS.Zip
import HandS.Walk
import HandS.Text
import HandS.Codes
import KE.IntTextLaws
import KE.KIntText
import KE.KDictZip
import HandS.RaiseMore
import HandS.ClsMeth
import HandS.StrMore
import HandS.FStr
import HandS.Iter
import HandS.Spec
import HandS.Comp
import HandS.Conv
import HandS.EndBits
import HandS.Gcd
import HandS.Defaults
import HandS.Wide
import PySem.Challenge.RW_gangbooks_k03_share_text_round
set_option Elab.async false
set_option linter.all false
set_option maxRecDepth 100000
set_option maxHeartbeats 4000000
/-! own operators over the layer -/
namespace L2
open PySem PySem.Spec PyProof.Rows
theorem cmpBack_of {Q : Value → Shared → Prop} {v : V} {u : Value} {s : Shared} (r : RelV v u) (q : Q u s) : PySem.W.CmpBack Q u s := by
  cases v with
  | non => cases (show u = Value.none from r); exact q
  | bl b => cases (show u = Value.bool b from r); exact q
  | int i => obtain ⟨t, e⟩ := (show ∃ t, u = Value.int i t from r); cases e; exact q
  | str x => obtain ⟨t, e⟩ := (show ∃ t, u = Value.str x t from r); cases e; exact q
  | byt x => obtain ⟨t, e⟩ := (show ∃ t, u = Value.bytes x t from r); cases e; exact q
  | flt x => obtain ⟨t, e⟩ := (show ∃ t, u = Value.float x t from r); cases e; exact q
  | ref a => cases (show u = Value.ref a from r); exact q
  | ty n => cases (show u = Value.type n from r); exact q
section
variable {X : Cx} {pins : List (Addr × Obj)} {σ : St} {H : Hp} {s : Shared} {a C dx : Addr} {fs : List (Str × V)}
theorem Inv.instAt (I : Inv X pins σ H s) (e : H a = some (.ins C dx fs)) : ∃ od, PySem.W.InstAt s.heap a (PySem.W.instObj C dx) C (some od) := by
  obtain ⟨mA, J, _⟩ := ins_get I.hok e
  obtain ⟨od, h, _⟩ := J.look
  exact ⟨od, h⟩
end
section
variable {X : Cx} {CX : CXT} {k : Nat} {f C : Addr} {fd : FuncData} {ps : List Str} {sp : Sp} {dvs : List V} {ds : List Value} {E : XK}
/-- the callee runs, within some units of the C stack -/
theorem run_fnA {A : Around} {pins : List (Addr × Obj)} {σ : St} {H : Hp} {s : Shared} {Q : VK} {us : List Value} {vs : List V} (hfA : A.frames = X.A.frames) (F : FnOk X.prog X.w X.K X.mg X.base CX k f fd ps sp) (hr : Room k A) (hb : Binds X.K fd ps ds) (hd : Vals dvs ds) (hx : Passes CX X E)
    (I : Inv X pins σ H s) (r : Vals vs us) (h : sp (vs ++ dvs) H Q E) : wpAny (model X.prog X.w) A (call (.ref f) us) (EP X pins σ Q) X.xe s := by
  have r2 : Vals (vs ++ dvs) (us ++ ds) := r.append hd
  have hl : (us ++ ds).length = ps.length := by rw [← r2.length]; exact F.len _ _ _ _ h
  have e0 := I.env0
  have e1 : Env0 X.prog X.w X.K X.mg X.base A X.stack s H := ⟨hfA.trans e0.frames, e0.mod, e0.bs, e0.bsz, e0.funs, e0.frf, e0.hok, e0.bare⟩
  refine wpAny_call (codeAny_mono (F.run A X.stack s H ⟨us, []⟩ (us ++ ds) (vs ++ dvs) Q E hr e1 (hb s us I.kIn hl) r2 h) fun r s' hq => ?_)
  cases r with
  | error e => exact hx pins σ H s e s' I hq
  | ok fl =>
    cases fl with
    | ret u => exact I.after hq
    | next => exact False.elim hq
    | brk => exact False.elim hq
    | cont => exact False.elim hq
/-- x op y, both of the class at C -/
def rOwn (C : Addr) (sp : Sp) (E : XK) : R2 := fun x y H Q => ∃ a dx fs b dy gs, x = .ref a ∧ H a = some (.ins C dx fs) ∧ y = .ref b ∧ H b = some (.ins C dy gs) ∧ sp [x, y] H Q E
theorem op_own {op : Operator} (hm : Meth X.K C (PySem.dunder op.info.2) f) (hc : PySem.W.selfFirst X.K C = true) (F : FnOk X.prog X.w X.K X.mg X.base CX k f fd ps sp) (hr : Room k X.A) (hb : Binds X.K fd ps []) (hx : Passes CX X E) :
    OpR X (binaryOp op) (rOwn C sp E) := by
  intro pins s σ H x y v u Q I rx ry h
  obtain ⟨a, dx, fs, b, dy, gs, rfl, ea, rfl, eb, h⟩ := h
  obtain rfl : v = Value.ref a := rx
  obtain rfl : u = Value.ref b := ry
  obtain ⟨od, J⟩ := I.instAt ea
  obtain ⟨od', J'⟩ := I.instAt eb
  obtain ⟨m, fr⟩ := I.fr
  refine PySem.W.binop_K fr I.ok.mod.kin J J'.type hc hm.at_ hm.fn (thn (run_fnA (us := [.ref a, .ref b]) (vs := [.ref a, .ref b]) (dvs := []) rfl F hr hb .nil hx I (.cons rfl (.cons rfl .nil)) h) fun w s' q => ?_)
  obtain ⟨v', H', I', rv, q⟩ := q
  exact cmpBack_of rv ⟨v', H', I', rv, q⟩
/-- x op i, an int on the right -/
def rOwnI (C : Addr) (sp : Sp) (E : XK) : R2 := fun x y H Q => ∃ a dx fs i, x = .ref a ∧ H a = some (.ins C dx fs) ∧ y = .int i ∧ sp [x, y] H Q E
structure OwnI (K : PySem.W.Frag) (C : Addr) (op : Operator) : Prop where
  r : ∃ rc, PySem.W.findIn K (.ref C) (dunderR op.info.2) = some rc ∧ (rc = none ∨ ∃ g : Addr, rc = some (.ref g))
  i1 : ∃ fo, PySem.W.findIn K (.type "int") (PySem.dunder op.info.2) = some fo
  i2 : ∃ ro, PySem.W.findIn K (.type "int") (dunderR op.info.2) = some ro
  sub : PySem.W.subIn K (.type "int") (.ref C) = some false
theorem op_ownI {op : Operator} (hm : Meth X.K C (PySem.dunder op.info.2) f) (hc : PySem.W.selfFirst X.K C = true) (hi : OwnI X.K C op) (F : FnOk X.prog X.w X.K X.mg X.base CX k f fd ps sp) (hr : Room k X.A) (hb : Binds X.K fd ps []) (hx : Passes CX X E) :
    OpR X (binaryOp op) (rOwnI C sp E) := by
  intro pins s σ H x y v u Q I rx ry h
  obtain ⟨a, dx, fs, i, rfl, ea, rfl, h⟩ := h
  obtain rfl : v = Value.ref a := rx
  obtain ⟨t, rfl⟩ := (show ∃ t, u = Value.int i t from ry)
  obtain ⟨od, J⟩ := I.instAt ea
  obtain ⟨m, fr⟩ := I.fr
  obtain ⟨⟨rc, h1, h2⟩, ⟨fo, h3⟩, ⟨ro, h4⟩, h5⟩ := hi
  refine PySem.W.ksp_binT (T := "int") fr I.ok.mod.kin J rfl hc hm.at_ hm.fn h1 h2 h3 h4 h5 (thn (run_fnA (us := [.ref a, .int i t]) (vs := [.ref a, .int i]) (dvs := []) rfl F hr hb .nil hx I (.cons rfl (.cons ⟨t, rfl⟩ .nil)) h) fun w s' q => ?_)
  obtain ⟨v', H', I', rv, q⟩ := q
  exact cmpBack_of rv ⟨v', H', I', rv, q⟩
/-- -x -/
def rOwn1 (C : Addr) (sp : Sp) (E : XK) : V → Hp → VK → Prop := fun x H Q => ∃ a dx fs, x = .ref a ∧ H a = some (.ins C dx fs) ∧ sp [x] H Q E
theorem un_own (hm : Meth X.K C "__neg__" f) (F : FnOk X.prog X.w X.K X.mg X.base CX k f fd ps sp) (hr : Room k X.A) (hb : Binds X.K fd ps []) (hx : Passes CX X E) :
    UnR X (unaryOp .USub) (rOwn1 C sp E) := by
  intro pins s σ H x v Q I rx h
  obtain ⟨a, dx, fs, rfl, ea, h⟩ := h
  obtain rfl : v = Value.ref a := rx
  obtain ⟨od, J⟩ := I.instAt ea
  obtain ⟨m, fr⟩ := I.fr
  exact PySem.W.ksp_neg fr I.ok.mod.kin J hm.at_ hm.fn (run_fnA (us := [.ref a]) (vs := [.ref a]) (dvs := []) rfl F hr hb .nil hx I (.cons rfl .nil) h)
/-- truth by an own __bool__ -/
def rOwnT (C : Addr) (sp : Sp) (E : XK) : V → Hp → (Bool → Hp → Prop) → Prop := fun x H Q => ∃ a dx fs, x = .ref a ∧ H a = some (.ins C dx fs) ∧ sp [x] H (fun v H' => ∃ b, v = .bl b ∧ Q b H') E
theorem tru_ownA {A : Around} (hfA : A.frames = X.A.frames) (hm : Meth X.K C "__bool__" f) (F : FnOk X.prog X.w X.K X.mg X.base CX k f fd ps sp) (hr : Room k A) (hb : Binds X.K fd ps []) (hx : Passes CX X E) {pins : List (Addr × Obj)} {s : Shared} {σ : St} {H : Hp} {x : V} {v : Value} {Q : Bool → Hp → Prop}
    (I : Inv X pins σ H s) (rx : RelV x v) (h : rOwnT C sp E x H Q) : wpAny (model X.prog X.w) A (truthy v) (TP X pins σ Q) X.xe s := by
  obtain ⟨a, dx, fs, rfl, ea, h⟩ := h
  obtain rfl : v = Value.ref a := rx
  obtain ⟨od, J⟩ := I.instAt ea
  obtain ⟨m, fr⟩ := I.fr
  refine PySem.W.truthy_K fr I.ok.mod.kin J hm.at_ hm.fn (thn (run_fnA (us := [.ref a]) (vs := [.ref a]) (dvs := []) hfA F hr hb .nil hx I (.cons rfl .nil) h) fun w s' q => ?_)
  obtain ⟨v', H', I', rv, b, rfl, q⟩ := q
  obtain rfl : w = Value.bool b := rv
  exact ⟨H', I', q⟩
theorem tru_own (hm : Meth X.K C "__bool__" f) (F : FnOk X.prog X.w X.K X.mg X.base CX k f fd ps sp) (hr : Room k X.A) (hb : Binds X.K fd ps []) (hx : Passes CX X E) : TruR X (rOwnT C sp E) :=
  fun _ _ _ _ _ _ _ I rx h => tru_ownA rfl hm F hr hb hx I rx h
/-- v in x, by an own __contains__ that hands back a bool -/
def rOwnIn (C : Addr) (sp : Sp) (E : XK) : R2 := fun y x H Q => ∃ a dx fs, x = .ref a ∧ H a = some (.ins C dx fs) ∧ sp [x, y] H (fun v H' => ∃ b, v = .bl b ∧ Q (.bl b) H') E
theorem op_inOwn (hm : Meth X.K C "__contains__" f) (F : FnOk X.prog X.w X.K X.mg X.base CX k f fd ps sp) (hr : Room k X.A) (hb : Binds X.K fd ps []) (hx : Passes CX X E) : OpR X (compareOp .In) (rOwnIn C sp E) := by
  intro pins s σ H y x v u Q I ry rx h
  obtain ⟨a, dx, fs, rfl, ea, h⟩ := h
  obtain rfl : u = Value.ref a := rx
  obtain ⟨od, J⟩ := I.instAt ea
  obtain ⟨m, fr⟩ := I.fr
  refine PySem.W.in_K fr I.ok.mod.kin J hm.at_ hm.fn (thn (run_fnA (us := [.ref a, v]) (vs := [.ref a, y]) (dvs := []) rfl F hr hb .nil hx I (.cons rfl (.cons ry .nil)) h) fun w s' q => ?_)
  obtain ⟨v', H', I', rv, b, rfl, q⟩ := q
  obtain rfl : w = Value.bool b := rv
  exact wpAny_truthy_bool ⟨.bl b, H', I', rfl, q⟩
/-- len(x) by an own __len__ -/
def rOwnLen (C : Addr) (sp : Sp) (E : XK) : List V → Hp → VK → Prop := fun xs H Q => ∃ a dx fs, xs = [.ref a] ∧ H a = some (.ins C dx fs) ∧ sp [.ref a] H (fun v H' => ∃ n : Int, v = .int n ∧ 0 ≤ n ∧ n < 2 ^ 63 ∧ Q (.int n) H') E
theorem call_lenOwn (hm : Meth X.K C "__len__" f) (F : FnOk X.prog X.w X.K X.mg X.base CX k f fd ps sp) (hr : Room (k + 1) X.A) (hb : Binds X.K fd ps []) (hx : Passes CX X E) : CallR X (.builtin "len") (rOwnLen C sp E) := by
  intro pins s σ H xs us Q I r h
  obtain ⟨a, dx, fs, rfl, ea, h⟩ := h
  obtain ⟨u, rfl, ru⟩ := vals1 r
  obtain rfl : u = Value.ref a := ru
  obtain ⟨od, J⟩ := I.instAt ea
  obtain ⟨m, fr⟩ := I.fr
  refine PySem.W.len_K fr I.ok.mod.kin J hm.at_ hm.fn (thn (run_fnA (A := X.A.in1) (us := [.ref a]) (vs := [.ref a]) (dvs := []) rfl F hr.in1 hb .nil hx I (.cons rfl .nil) h) fun w s' q => ?_)
  obtain ⟨v', H', I', rv, n, rfl, h0, h1, q⟩ := q
  obtain ⟨t, rfl⟩ := (show ∃ t, w = Value.int n t from rv)
  exact ⟨⟨h0, h1⟩, .int n, H', I'.tok _, ⟨_, rfl⟩, q⟩
end
end L2

namespace L2
open PySem PySem.Spec PyProof.Rows
section
variable {X : Cx} {CX : CXT} {k : Nat} {f C : Addr} {fd : FuncData} {ps : List Str} {sp : Sp} {E : XK}
theorem meets_bool_any {prog : Program} {w : World} (x : Value) : MeetsIn prog w (Builtin.«bool.__new__» ⟨[.type "bool", x], []⟩) (fun A R s => wpAny (model prog w) A.in1 (truthy x) (fun b s' => R (.ok (.ret (.bool b))) s') (fun e s' => R (.error e) s') s) :=
  MeetsIn.of_wp fun A R s hs => by
    have f1 := F.conv_sub_bool
    obtain ⟨hp, g, d, tk, os⟩ := s
    repeat (any_goals (first | assumption | (with_reducible refine wpAny_bind (wpAny_mono hs (fun b s' q => ?_) fun _ _ z => z)) | (with_reducible refine wpAny_mono hs (fun b s' q => ?_) fun _ _ z => z) | wp_step))
    all_goals first | exact ⟨_, rfl, q⟩ | exact q | skip
/-- bool(x), by an own __bool__ -/
def rBoolOwn (C : Addr) (sp : Sp) (E : XK) : List V → Hp → VK → Prop := fun xs H Q => ∃ x, xs = [x] ∧ rOwnT C sp E x H fun b H' => Q (.bl b) H'
theorem call_boolOwn (hm : Meth X.K C "__bool__" f) (Fk : FnOk X.prog X.w X.K X.mg X.base CX k f fd ps sp) (hr : Room (k + 2) X.A) (hb : Binds X.K fd ps []) (hx : Passes CX X E) : CallR X (.type "bool") (rBoolOwn C sp E) := by
  intro pins s σ H xs us Q I r h
  obtain ⟨x, rfl, h⟩ := h
  obtain ⟨u, rfl, ru⟩ := vals1 r
  refine callType_newIn PySem.F.called_bool PySem.F.newNe_bool (PySem.F.typeCall_bool_1 u) (PySem.F.newCall_bool_1 u) (fun obj => PySem.F.args_object_init_2 obj u) PySem.F.entry_bool_new (meets_bool_any u) ?_
  refine thn (tru_ownA (A := X.A.in1.in1) rfl hm Fk hr.in1.in1 hb hx I ru h) fun b s' ⟨H', I', q⟩ => ?_
  exact ⟨rfl, .bl b, H', I', rfl, q⟩
end
end L2
namespace L2
open PySem PySem.Spec PyProof.Rows
section
variable {X : Cx} {CX : CXT} {k : Nat} {f C : Addr} {fd : FuncData} {ps : List Str} {sp : Sp} {E : XK}
/-- x == y by an own __eq__, y of the class or of a kind that is no subclass of it -/
def rEqOwn (K : PySem.W.Frag) (C : Addr) (sp : Sp) (E : XK) : R2 := fun x y H Q => ∃ a dx fs t, x = .ref a ∧ H a = some (.ins C dx fs) ∧ TyX K H y t ∧ PySem.W.notFirst K C t = true ∧ sp [x, y] H Q E
theorem op_eqOwn (hm : Meth X.K C "__eq__" f) (F : FnOk X.prog X.w X.K X.mg X.base CX k f fd ps sp) (hr : Room k X.A) (hb : Binds X.K fd ps []) (hx : Passes CX X E) : OpR X (compareOp .Eq) (rEqOwn X.K C sp E) := by
  intro pins s σ H x y v u Q I rx ry h
  obtain ⟨a, dx, fs, t, rfl, ea, ty, hn, h⟩ := h
  obtain rfl : v = Value.ref a := rx
  obtain ⟨od, J⟩ := I.instAt ea
  obtain ⟨m, fr⟩ := I.fr
  obtain ⟨P, Z, p, _⟩ := kit_of I ry ty
  have hb' := Z.ty (model X.prog X.w) _ I.kIn p
  show wpAny _ _ (richCompare .Eq (.ref a) u) _ _ _
  refine PySem.W.cmp_K (op := .Eq) hr.units0 fr I.ok.mod.kin J hb' hn hm.at_ hm.fn (thn (run_fnA (us := [.ref a, u]) (vs := [.ref a, y]) (dvs := []) rfl F hr hb .nil hx I (.cons rfl (.cons ry .nil)) h) fun w s' q => ?_)
  obtain ⟨v', H', I', rv, q⟩ := q
  exact cmpBack_of rv ⟨v', H', I', rv, q⟩
end
end L2
namespace PySem.W
open PySem PySem.Spec PySem.Calls PyProof.Rows
section
variable {prog : Program} {w : World} {A : Around} {E : Value → Shared → Prop} {s : Shared} {K : Frag} {x D : Addr} {ox : Obj}
theorem gb_kitx_exc {od : Option Obj} (hga : findIn K (.ref D) "__getattribute__" = some (some (.builtin "BaseException.__getattribute__"))) (hgt : findIn K (.ref D) "__getattr__" = some none) (hsub : subIn K (.ref D) (.type "BaseException") = some true) (hdct : hasDictIn K D = true) (ha : findIn K (.ref D) "__class__" = some (some (.builtin "object.__class__")))
    (hn : specialIn K (.builtin "object.__class__") "__get__" = some (some (.builtin "getset_descriptor.__get__"))) (htk : takesIn K (.builtin "object.__class__") = some true) (hm : mroIn K D (.type "object") = some true) :
    KitX K (.ref x) (.ref D) (fun h => InstAt h x ox D od) where
  ty := fun _ _ _ I => I.type
  it := fun _ _ X _ => by
    obtain ⟨cdD, hcD, _⟩ := any_some hdct
    unfold clsIn at hcD
    split at hcD
    · rename_i c' d' cd' sl' ho
      intro A' Q' E' s' k q
      unfold isType loadHead
      exact wpAny_bind (wpAny_loadPart (k _ _ (X _ _ ho)) (wpAny_pure q))
    · cases hcD
  ne := fun h tp dd its n sl X htp => by
    obtain ⟨cdD, hcD, _⟩ := any_some hdct
    refine Bool.eq_false_iff.mpr fun q => ?_
    have e : D = tp := Value.ref.inj (beq_iff_eq.mp q)
    subst e
    unfold clsIn at hcD
    split at hcD
    · rename_i c' d' cd' sl' ho
      have z := (X _ _ ho).symm.trans htp
      cases z
    · cases hcD
  ca := fun X I k => kx_classE X I hga hgt hsub (findObj_dataE (by obtain ⟨cd, hc, _⟩ := any_some hdct; rw [hc]; rfl) ha hn htk) hm k
end
end PySem.W
namespace L2
open PySem PySem.Spec PyProof.Rows
/-- isinstance(e, c), e the exception that the suite holds, with its own dict -/
def rIsX (K : PySem.W.Frag) (a : Addr) (cls : Value) (d : Option Addr) : List V → Hp → VK → Prop := fun xs H Q => ∃ (c : V) (cv : Value) (b : Bool) (D dd : Addr) (fs : List (Str × V)), xs = [.ref a, c] ∧ (∀ u, RelV c u → u = cv) ∧ cls = .ref D ∧ ExcC K D ∧ d = some dd ∧ H dd = some (.xd fs) ∧ PySem.W.kitOne K (.ref D) cv = some b ∧ Q (.bl b) H
theorem instX {X : Cx} {pins : List (Addr × Obj)} {σ : St} {H : Hp} {s : Shared} {a D dd : Addr} {oe : Obj} {pn : List (Addr × Obj)} {fs : List (Str × V)} (I : Inv (X.suite a ((a, oe) :: pn)) pins σ H s) (hz : Zc (.ref D) (some dd) oe) (hf : ∃ vs, oe.data = .fields vs) (he : H dd = some (.xd fs)) : ∃ od, PySem.W.InstAt s.heap a oe D (some od) := by
  obtain ⟨hget, _⟩ := I.pin (a, oe) (List.mem_append.mpr (.inl List.mem_cons_self))
  obtain ⟨vs, hv⟩ := hf
  obtain ⟨mA, ⟨od, es, ep, e1, e2, e3⟩, r⟩ := (show ObjOk X.prog X.w H s.heap dd (.xd fs) from I.hok dd _ he)
  exact ⟨od, hget, hz.1, by unfold PySem.W.notCls; rw [hv] <;> rfl, by rw [hz.2]; exact e1⟩
theorem call_isX {X : Cx} {a : Addr} {cls : Value} {d : Option Addr} {oe : Obj} {pn : List (Addr × Obj)} (hz : Zc cls d oe) (hf : ∃ vs, oe.data = .fields vs) : CallR (X.suite a ((a, oe) :: pn)) (.builtin "isinstance") (rIsX X.K a cls d) := by
  intro pins s σ H xs us Q I r h
  obtain ⟨c, cv, b, D, dd, fs, rfl, hcv, rfl, C, rfl, hd, e, q⟩ := h
  obtain ⟨u1, u2, rfl, rx, rt⟩ := vals2 r
  cases rx
  have ec := hcv _ rt
  subst ec
  obtain ⟨od, J⟩ := instX I hz hf hd
  exact PySem.W.kia_one (PySem.W.gb_kitx_exc C.hg C.hk C.hs C.hd C.ha C.hn C.ht C.hm) I.kIn J e (fun z => nomatch z) fun tk => ⟨.bl b, H, I.kept (t' := tk) fun _ _ z => z, rfl, q⟩
/-- isinstance(e, (c1, c2, ..)) -/
def rIsXT (K : PySem.W.Frag) (a : Addr) (cls : Value) (d : Option Addr) : List V → Hp → VK → Prop := fun xs H Q => ∃ (tp : Addr) (cs : List V) (us : List Value) (b : Bool) (D dd : Addr) (fs : List (Str × V)), xs = [.ref a, .ref tp] ∧ H tp = some (.tup cs) ∧ Paired ClsV cs us ∧ cls = .ref D ∧ ExcC K D ∧ d = some dd ∧ H dd = some (.xd fs) ∧ PySem.W.kitAny K (.ref D) us = some b ∧ Q (.bl b) H
theorem call_isXT {X : Cx} {a : Addr} {cls : Value} {d : Option Addr} {oe : Obj} {pn : List (Addr × Obj)} (hz : Zc cls d oe) (hf : ∃ vs, oe.data = .fields vs) : CallR (X.suite a ((a, oe) :: pn)) (.builtin "isinstance") (rIsXT X.K a cls d) := by
  intro pins s σ H xs us Q I r h
  obtain ⟨tp, cs, ws, b, D, dd, fs, rfl, hT, k, rfl, C, rfl, hd, e, q⟩ := h
  obtain ⟨u1, u2, rfl, rx, rt⟩ := vals2 r
  cases rx
  cases (show u2 = Value.ref tp from rt)
  obtain ⟨od, J⟩ := instX I hz hf hd
  obtain ⟨_, its, rv, o, h1, h2, n, h3⟩ := (show ObjOk X.prog X.w H s.heap tp (.tup cs) from I.hok tp _ hT)
  have e3 := ClsV.all k rv
  subst e3
  obtain ⟨oc, od, dt, sl⟩ := o
  simp only at h2 h3
  subst h2 h3
  exact PySem.W.kia_tup (PySem.W.gb_kitx_exc C.hg C.hk C.hs C.hd C.ha C.hn C.ht C.hm) I.kIn J h1 e (fun z => nomatch z) fun tk => ⟨.bl b, H, I.kept (t' := tk) fun _ _ z => z, rfl, q⟩
theorem exc_heap {H : Hp} {a d : Addr} {o1 o2 o3 u : HO} (h : H a = none) : upd (del (upd (upd (upd H a o1) d o2) a o3) a) d u = upd H d u := by
  funext b
  by_cases hd : b = d
  · subst hd; rw [upd_same, upd_same]
  · rw [upd_ne hd, upd_ne hd]
    by_cases ha : b = a
    · subst ha; rw [del_same, h]
    · rw [del_ne ha, upd_ne ha, upd_ne hd, upd_ne ha]
/-- what the classes of errors are, over one base with __init__(self, subject) -/
structure GExc (K : PySem.W.Frag) (C fI : Addr) : Prop where
  oex : OexC K C
  iC : PySem.W.findIn K (.ref C) "__init__" = some (some (.ref fI))
  tI : PySem.W.typeIn K (.ref fI) = some (.type "function")
  noS : PySem.W.findIn K (.ref C) "subject" = some none
/-- __init__(self, subject): self.subject = subject -/
def spGI (K : PySem.W.Frag) : Sp := fun vs H Q _ => ∃ (a C : Addr) (v : V), vs = [.ref a, v] ∧ OexC K C ∧ PySem.W.findIn K (.ref C) "subject" = some none ∧ H a = some (exo a C none) ∧
  ∀ dx, H dx = none → dx ≠ a → Q .non (upd (upd H dx (exd dx [(("subject" : Str), v)])) a (exo a C (some dx)))
/-- raise X(e): what it wants of e's value and the heap behind it -/
def RaiseG (K : PySem.W.Frag) (C : Addr) (W : WX) (σ : St) (v : V) (H1 : Hp) : Prop := ([v] : List V).length ≤ 1000 ∧ ∀ a, H1 a = none → spGI K (.ref a :: ([v] ++ [])) (upd H1 a (exo a C none))
  (fun v' H2 => v' = .non ∧ ∃ (d : Addr) (fs : List (Str × V)), H2 a = some (exo a C (some d)) ∧ H2 d = some (exd d fs) ∧ H1 d = none ∧ W (.ref C) (some d) σ (upd (del H2 a) d (.xd fs))) (fun _ _ _ => False)
theorem raiseG_in {K : PySem.W.Frag} {C fI : Addr} {W : WX} {σ : St} {v : V} {H1 : Hp} (T : GExc K C fI) (h : ∀ d, H1 d = none → W (.ref C) (some d) σ (upd H1 d (.xd [(("subject" : Str), v)]))) : RaiseG K C W σ v H1 := by
  refine ⟨by show 1 ≤ 1000; decide, fun a ha => ⟨a, C, v, rfl, T.oex, T.noS, upd_same, fun dx hdx hne => ⟨rfl, dx, [(("subject" : Str), v)], upd_same, ?_, ?_, ?_⟩⟩⟩
  · rw [upd_ne hne, upd_same]
  · rw [upd_ne hne] at hdx; exact hdx
  · rw [exc_heap ha]
    rw [upd_ne hne] at hdx
    exact h dx hdx
def tRaiseG (K : PySem.W.Frag) (C : Addr) (W : WX) (te : TE) : TS := fun _ σ H => te σ H fun v H1 => RaiseG K C W σ v H1
theorem ps_raiseG {X : Cx} {x : Str} {C fI : Addr} {k : Nat} {fd : FuncData} {ps : List Str} {W : WX} {e : Expr} {te : TE} {p pos pos2 : Pos} (hc : X.calm = true) (T : GExc X.K C fI)
    (F1 : FnOk X.prog X.w X.K X.mg X.base CX0 k fI fd ps (spGI X.K)) (hr : Room (k + 1) X.A) (hb : Binds X.K fd ps []) (hg : Gl X x) (hm : X.mg x = some (.ref C)) (tk : Takes X W) (ha : PE X e te)
    (hdb : (x == ("__debug__" : Str)) = false := by decide) (he : starEach [e] X.env = (false, eval e X.env) :: starEach [] X.env := by rfl) (hpl : (backTo pos (starEach [] X.env)).any (·.1) = false := by rfl) :
    PS X (.Raise (some (.Call (.Name x p) [e] [] pos)) none pos2) (tRaiseG X.K C W te) :=
  ps_raise (pos := pos2) hc tk (pmk_oex (p := p) (pos := pos) (dvs := []) T.oex T.iC T.tI F1 hr hb .nil (fun _ _ _ _ _ _ _ h => h.elim) hg hm (pa_cons ha pa_nil he) hdb he hpl)
/-- C(e, ..) of an own class in a try's body -/
def tMakeS (C : Addr) (sp : Sp) (E : St → XK) (t : TA) : TE := fun σ H Q => t σ H fun vs H1 => ∀ x dx, H1 x = none → H1 dx = none → dx ≠ x →
  sp (.ref x :: vs) (upd (upd H1 dx (.own x)) x (.ins C dx [])) (fun v H2 => v = .non ∧ Q (.ref x) H2) (E σ)
section
variable {X : Cx} {CX : CXT} {k : Nat} {f C : Addr} {fd : FuncData} {ps : List Str} {sp : Sp} {E : St → XK} {x : Str} {p pos : Pos} {e : Expr} {es : List Expr} {t : TA} {ta tb : TE}
theorem run_makeS {pins : List (Addr × Obj)} {σ : St} {H : Hp} {s : Shared} {Q : VK} {us : List Value} {vs : List V} (M : Mk X.K C f) (F : FnOk X.prog X.w X.K X.mg X.base CX k f fd ps sp) (hr : Room (k + 1) X.A) (hb : Binds X.K fd ps [])
    (hx : PassesAt CX X σ (E σ)) (I : Inv X pins σ H s) (r : Vals vs us)
    (h : ∀ x dx, H x = none → H dx = none → dx ≠ x → sp (.ref x :: vs) (upd (upd H dx (.own x)) x (.ins C dx [])) (fun v H2 => v = .non ∧ Q (.ref x) H2) (E σ)) :
    wpAny (model X.prog X.w) X.A (call (.ref C) us) (EP X pins σ Q) X.xe s := by
  have hq := h (s.heap.objs.size + 1) s.heap.objs.size (I.hok.fresh (Nat.le_succ _)) (I.hok.fresh (Nat.le_refl _)) (Nat.ne_of_lt (Nat.lt_succ_self _))
  have I2 := Inv.made (C := C) I
  have r2 : Vals (V.ref (s.heap.objs.size + 1) :: vs) (Value.ref (s.heap.objs.size + 1) :: us) := .cons rfl r
  have hl : (Value.ref (s.heap.objs.size + 1) :: us).length = ps.length := by
    have e := r2.length
    rw [F.len _ _ _ _ hq] at e
    exact e.symm
  have hb' := hb
  refine wpAny_call (make_map (f := f) I.kIn M.makes M.init (beq_iff_eq.mp M.fn) (codeAny_mono (F.run _ X.stack _ _ ⟨Value.ref (s.heap.objs.size + 1) :: us, []⟩ (Value.ref (s.heap.objs.size + 1) :: us) _ _ (E σ) (hr.make C us [])
    (I2.env0.make C us []) (by have z := hb _ (Value.ref (s.heap.objs.size + 1) :: us) I2.kIn (by rw [List.append_nil]; exact hl); rw [List.append_nil] at z; exact z) r2 hq) fun r s' hq' => ?_))
  cases r with
  | error e => exact hx pins _ _ e s' I2 hq'
  | ok fl =>
    cases fl with
    | ret u =>
      obtain ⟨v, H', I3, rv, ev, q3⟩ := I2.after hq'
      subst ev
      exact ⟨rv, ⟨V.ref (s.heap.objs.size + 1), H', I3, rfl, q3⟩⟩
    | next => exact False.elim hq'
    | brk => exact False.elim hq'
    | cont => exact False.elim hq'
theorem pe_makeS (M : Mk X.K C f) (F : FnOk X.prog X.w X.K X.mg X.base CX k f fd ps sp) (hr : Room (k + 1) X.A) (hg : Gl X x) (hm : X.mg x = some (.ref C)) (hb : Binds X.K fd ps []) (hx : ∀ σ, PassesAt CX X σ (E σ))
    (ha : PA X (e :: es) t) (hdb : (x == ("__debug__" : Str)) = false := by decide) (he : starEach (e :: es) X.env = (false, eval e X.env) :: starEach es X.env := by rfl) (hpl : (backTo pos (starEach es X.env)).any (·.1) = false := by rfl) :
    PE X (.Call (.Name x p) (e :: es) [] pos) (tMakeS C sp E t) := by
  refine ⟨fun pins s σ H Q I h => ?_⟩
  refine wpAny_Call_Name_kw (ld_glob I hg hm ?_ hdb)
  refine PySem.W.callWith_K (h₀ := X.base) I.ok.mod.kin M.kp (thn (ha.run pos pins s σ H _ I h) fun us s1 ⟨vs, H1, I1, r, q⟩ => ⟨I1.kIn, ?_⟩) he hpl
  exact run_makeS M F hr hb (hx σ) I1 r q
theorem run_fnS2 {pins : List (Addr × Obj)} {σ : St} {H : Hp} {s : Shared} {Q : VK} {us : List Value} {vs : List V} (F : FnOk X.prog X.w X.K X.mg X.base CX k f fd ps sp) (hr : Room k X.A) (hb : Binds X.K fd ps []) (hx : PassesAt CX X σ (E σ))
    (I : Inv X pins σ H s) (r : Vals vs us) (h : sp vs H Q (E σ)) : wpAny (model X.prog X.w) X.A (call (.ref f) us) (EP X pins σ Q) X.xe s :=
  run_fnSD (dvs := []) (ds := []) F hr hb .nil hx I r (by rw [List.append_nil]; exact h)
/-- x op y in a try's body: y of the class, or an int -/
def tOpS (C : Addr) (sp : Sp) (E : St → XK) (ta tb : TE) : TE := fun σ H Q => ta σ H fun x H1 => tb σ H1 fun y H2 => ∃ a dx fs, x = .ref a ∧ H2 a = some (.ins C dx fs) ∧ ((∃ b dy gs, y = .ref b ∧ H2 b = some (.ins C dy gs)) ∨ ∃ i, y = .int i) ∧ sp [x, y] H2 Q (E σ)
theorem pe_opS {op : Operator} (hm : Meth X.K C (PySem.dunder op.info.2) f) (hc : PySem.W.selfFirst X.K C = true) (hi : OwnI X.K C op) (F : FnOk X.prog X.w X.K X.mg X.base CX k f fd ps sp) (hr : Room k X.A) (hb : Binds X.K fd ps []) (hx : ∀ σ, PassesAt CX X σ (E σ))
    {l r : Expr} (ha : PE X l ta) (hb' : PE X r tb) : PE X (.BinOp l op r pos) (tOpS C sp E ta tb) := by
  refine ⟨fun pins s σ H Q I h => ?_⟩
  refine wpAny_BinOp (binT ha hb' I h fun v u s2 x y H2 I2 rx ry q => ?_)
  obtain ⟨a, dx, fs, rfl, ea, hy, q⟩ := q
  obtain rfl : v = Value.ref a := rx
  obtain ⟨od, J⟩ := I2.instAt ea
  obtain ⟨m, fr⟩ := I2.fr
  have run := run_fnS2 F hr hb (hx σ) I2 (.cons (show RelV (.ref a) (Value.ref a) from rfl) (.cons ry .nil)) q
  rcases hy with ⟨b, dy, gs, rfl, eb⟩ | ⟨i, rfl⟩
  · obtain rfl : u = Value.ref b := ry
    obtain ⟨od', J'⟩ := I2.instAt eb
    refine PySem.W.binop_K fr I2.ok.mod.kin J J'.type hc hm.at_ hm.fn (thn run fun w s' q => ?_)
    obtain ⟨v', H', I', rv, q⟩ := q
    exact cmpBack_of rv ⟨v', H', I', rv, q⟩
  · obtain ⟨t, rfl⟩ := (show ∃ t, u = Value.int i t from ry)
    obtain ⟨⟨rc, h1, h2⟩, ⟨fo, h3⟩, ⟨ro, h4⟩, h5⟩ := hi
    refine PySem.W.ksp_binT (T := "int") fr I2.ok.mod.kin J rfl hc hm.at_ hm.fn h1 h2 h3 h4 h5 (thn run fun w s' q => ?_)
    obtain ⟨v', H', I', rv, q⟩ := q
    exact cmpBack_of rv ⟨v', H', I', rv, q⟩
end
end L2
namespace L2
open PySem PySem.Spec PyProof.Rows
section
variable {X : Cx}
theorem rangeSize1 (a b : Int) : Builtin.Range.rangeSize a b 1 = if a < b then b - a else 0 := by
  unfold Builtin.Range.rangeSize
  rw [if_pos (by decide)]
  by_cases h : a < b
  · rw [if_pos h, if_pos h]; omega
  · rw [if_neg h, if_neg h]
theorem q_rlen (r : Addr) (a b : Int) (t u v : Tok) (hz : b - a < 2 ^ 63) :
    Meets (Builtin.«range.__len__» ⟨[.ref r], []⟩) (fun _ R s => s.heap.get? r = some { cls := .type "range", dict := none, data := .fields #[.int a t, .int b u, .int 1 v], slots := #[] } ∧ R (.ok (.ret (.int (if a < b then b - a else 0) s.toks))) { s with toks := s.toks + 1 }) :=
  .of_wp fun prog w A R s h => by
    obtain ⟨hp, g, d, tk, os⟩ := s
    obtain ⟨hl, h⟩ := h
    have hn : ¬ (Builtin.Range.rangeSize a b 1 ≥ 2 ^ 63) := by rw [rangeSize1]; split <;> omega
    wp_walk
    rw [rangeSize1] at hn ⊢
    rw [if_neg hn]
    wp_walk
    exact ⟨_, rfl, h⟩
/-- len(r), r a range with step 1 -/
def rLenRng : List V → Hp → VK → Prop := fun xs H Q => ∃ a lo hi, xs = [.ref a] ∧ H a = some (.rng lo hi) ∧ hi - lo < 2 ^ 63 ∧ Q (.int (if lo < hi then hi - lo else 0)) H
theorem call_lenRng : CallR X (.builtin "len") rLenRng := by
  intro pins s σ H xs us Q I r h
  obtain ⟨a, lo, hi, rfl, ea, hz, q⟩ := h
  obtain ⟨u, rfl, ru⟩ := vals1 r
  obtain rfl : u = Value.ref a := ru
  obtain ⟨t1, t2, t3, ho⟩ := I.hok a _ ea
  refine call_len_slot (T := "range") (n := if lo < hi then hi - lo else 0) ⟨_, ho, rfl⟩ PySem.F.slot_range_len (fun Q' q' => ?_) (by split <;> omega) (by split <;> omega) ⟨.int (if lo < hi then hi - lo else 0), H, (I.tok _), ⟨_, rfl⟩, q⟩
  exact call_meets PySem.F.slot_range_len ⟨_, ho, rfl⟩ PySem.F.entry_range_len (PySem.F.args_range_len_1 _) (q_rlen a lo hi t1 t2 t3 hz) ⟨ho, q'⟩
end
end L2
namespace L2
open PySem PySem.Spec PyProof.Rows
section
variable {X : Cx} {a : Expr} {ta : TE}
/-- * of any two ints whose product the machine takes -/
theorem op_mulX : OpR X (binaryOp .Mult) (rI IntMulOk fun i j => .int (i * j)) := opI fun _ _ _ _ _ _ _ hc q => mul_int q hc
theorem mulL {i j : Int} (h : -(2 ^ 64) < i ∧ i < 2 ^ 64) : IntMulOk i j := CMul.ok (.inl h)
theorem mulR {i j : Int} (h : -(2 ^ 64) < j ∧ j < 2 ^ 64) : IntMulOk i j := CMul.ok (.inr h)
/-- a test by an own truth -/
theorem pt_own {r : V → Hp → (Bool → Hp → Prop) → Prop} (ht : TruR X r) (ha : PE X a ta) (he : ∀ whole, isTrue a X.env whole = (do let v ← whole; standAt a.pos; holding [v] (truthy v)) := by intro _; rfl) :
    PT X a (fun σ H Q => ta σ H fun x H' => r x H' Q) := by
  refine ⟨fun pins s σ H Q I h => ?_⟩
  rw [he]
  refine wpAny_bind (thn (ha.run pins s σ H _ I h) fun v s1 ⟨x, H1, I1, r1, q1⟩ => ?_)
  exact wpAny_bind (wpAny_standAt (wpAny_holding (ht pins s1 σ H1 x v Q I1 r1 q1)))
end
/-- what was tracked stays, but for what stands at p -/
def SameBut (p : Addr) (H H' : Hp) : Prop := ∀ b o, b ≠ p → H b = some o → H' b = some o
theorem SameBut.refl {p : Addr} {H : Hp} : SameBut p H H := fun _ _ _ h => h
theorem SameBut.trans {p : Addr} {H H1 H2 : Hp} (a : SameBut p H H1) (b : SameBut p H1 H2) : SameBut p H H2 := fun c o n h => b c o n (a c o n h)
theorem Same.but {p : Addr} {H H' : Hp} (a : Same H H') : SameBut p H H' := fun c o _ h => a c o h
theorem same_new {H : Hp} {p : Addr} {o : HO} (h : H p = none) : Same H (upd H p o) := fun b u e => by rw [upd_ne (ne_of_none e h)]; exact e
theorem sameBut_upd {H : Hp} {p : Addr} {o : HO} : SameBut p H (upd H p o) := fun b u n e => by rw [upd_ne n]; exact e
theorem Same.seqT {K : PySem.W.Frag} {H H' : Hp} {a : Addr} {xs : List V} (e : Same H H') (h : SqT K H a xs) : SqT K H' a xs := by
  rcases h with (h | ⟨o, h⟩) | h
  · exact .inl (.inl (e _ _ h))
  · exact .inl (.inr ⟨o, e _ _ h⟩)
  · exact .inr h
theorem getMap {xs : List Int} {i : Nat} {y : V} (h : (xs.map V.int)[i]? = some y) : ∃ z, xs[i]? = some z ∧ y = V.int z := by
  rw [List.getElem?_map] at h
  cases e : xs[i]? with
  | none => rw [e] at h; cases h
  | some z => rw [e] at h; exact ⟨z, rfl, (Option.some.inj h).symm⟩
theorem bitsMul {i j : Int} (hi : Builtin.Int.intBits i ≤ 1048576) (hj : Builtin.Int.intBits j ≤ 1048576) : IntMulOk i j := IntMulOk.of_le hi hj (by decide)

theorem iteD {p : Prop} [Decidable p] {A B : Prop} (h1 : p → A) (h2 : ¬ p → B) : if decide p = true then A else B := by
  by_cases h : p
  · rw [decide_eq_true h, if_pos rfl]; exact h1 h
  · rw [decide_eq_false h, if_neg Bool.false_ne_true]; exact h2 h
theorem iteDN {p : Prop} [Decidable p] {A B : Prop} (h1 : p → B) (h2 : ¬ p → A) : if (!decide p) = true then A else B := by
  by_cases h : p
  · rw [decide_eq_true h]; exact iteF (h1 h)
  · rw [decide_eq_false h]; exact iteT (h2 h)
theorem qd {Q : VK} {H : Hp} {p q : Prop} [Decidable p] [Decidable q] (e : p ↔ q) (h : Q (.bl (decide p)) H) : Q (.bl (decide q)) H := by
  have z : decide p = decide q := by
    by_cases c : p
    · rw [decide_eq_true c, decide_eq_true (e.mp c)]
    · rw [decide_eq_false c, decide_eq_false fun y => c (e.mpr y)]
  rw [← z]; exact h
theorem qt {Q : VK} {H : Hp} {p : Prop} [Decidable p] (c : p) (h : Q (.bl (decide p)) H) : Q (.bl true) H := by
  rw [decide_eq_true c] at h; exact h
theorem qf {Q : VK} {H : Hp} {p : Prop} [Decidable p] (c : ¬ p) (h : Q (.bl (decide p)) H) : Q (.bl false) H := by
  rw [decide_eq_false c] at h; exact h

/-! ### the pool of draws -/
/-- the list of the pool: four ints, then ints of at least 1 -/
def poolL (a b c n : Int) (bs : List Int) : List V := [.int a, .int b, .int c, .int n] ++ bs.map V.int
def PoolAt (H : Hp) (p : Addr) : Prop := ∃ a b c n bs, H p = some (.lst (poolL a b c n bs)) ∧ bs.length ≤ 63 ∧ ∀ z ∈ bs, 1 ≤ z
theorem pool_len (a b c n : Int) (bs : List Int) : (poolL a b c n bs).length = 4 + bs.length := by
  unfold poolL; rw [List.length_append, List.length_map]; rfl
theorem pool_at0 {a b c n : Int} {bs : List Int} : atI (poolL a b c n bs) 0 = some (.int a) := atI_nat (j := 0) rfl
theorem pool_at1 {a b c n : Int} {bs : List Int} : atI (poolL a b c n bs) 1 = some (.int b) := atI_nat (j := 1) rfl
theorem pool_at2 {a b c n : Int} {bs : List Int} : atI (poolL a b c n bs) 2 = some (.int c) := atI_nat (j := 2) rfl
theorem pool_at3 {a b c n : Int} {bs : List Int} : atI (poolL a b c n bs) 3 = some (.int n) := atI_nat (j := 3) rfl
theorem pool_at4 {a b c n z : Int} {bs : List Int} : atI (poolL a b c n (z :: bs)) 4 = some (.int z) := atI_nat (j := 4) rfl
theorem ixN_of {n : Nat} {j : Nat} (h : j < n) : ixN n (j : Int) = some j := by
  unfold ixN
  rw [if_pos (by omega), if_pos (by omega)]
  simp
theorem pool_ix {a b c n : Int} {bs : List Int} (j : Nat) (h : j < 4) : ixN (poolL a b c n bs).length (j : Int) = some j := ixN_of (by rw [pool_len]; omega)
theorem pool_ix4 {a b c n z : Int} {bs : List Int} : ixN (poolL a b c n (z :: bs)).length 4 = some 4 := ixN_of (j := 4) (by rw [pool_len, List.length_cons]; omega)
theorem pool_seq4 {a b c n z : Int} {bs : List Int} : seqIndex? 4 (poolL a b c n (z :: bs)).length = some 4 := (ixN_seq pool_ix4).1
theorem PoolAt.of {H : Hp} {p : Addr} {a b c n : Int} {bs : List Int} (h : H p = some (.lst (poolL a b c n bs))) (hl : bs.length ≤ 63) (hz : ∀ z ∈ bs, 1 ≤ z) : PoolAt H p := ⟨a, b, c, n, bs, h, hl, hz⟩
theorem PoolAt.mono {H H' : Hp} {p : Addr} (h : PoolAt H p) (e : Same H H') : PoolAt H' p := let ⟨a, b, c, n, bs, q, hl, hz⟩ := h; ⟨a, b, c, n, bs, e _ _ q, hl, hz⟩
theorem PoolAt.ne {H : Hp} {p q : Addr} (h : PoolAt H p) (hq : H q = none) : p ≠ q := let ⟨_, _, _, _, _, e, _, _⟩ := h; ne_of_none e hq
theorem same_of_but {H H' : Hp} {p : Addr} (hp : H p = none) (s : SameBut p H H') : Same H H' := fun b o e => s b o (ne_of_none e hp) e
theorem dp2 {K : PySem.W.Frag} {H : Hp} {t : Addr} {a b : Int} (h : SqT K H t [.int a, .int b]) : Dp K H (.ref t) (.tuple [.int a, .int b]) := .tup h (.cons (.int a) (.cons (.int b) .nil))
theorem eqv2 (a b : Int) : PyData.eqv (.tuple [.int a, .int b]) (.tuple [.int a, .int b]) = true := by simp [PyData.eqv, PyData.eqvAll]
theorem eqv22 (a b c d : Int) : PyData.eqv (.tuple [.int a, .int b]) (.tuple [.int c, .int d]) = decide (a = c ∧ b = d) := by
  simp [PyData.eqv, PyData.eqvAll, Bool.decide_and]
  try rfl
theorem andV_two {p q : Prop} [Decidable p] [Decidable q] {Qk : VK} {σ : L2.St} {H : Hp} {tb : TE} (h1 : Qk (.bl (decide q)) H → tb σ H Qk) (h : Qk (.bl (decide p && decide q)) H) : if decide p = true then tb σ H Qk else Qk (.bl false) H := by
  by_cases c : p
  · rw [decide_eq_true c] at h ⊢; exact h1 h
  · rw [decide_eq_false c] at h ⊢; rw [if_neg Bool.false_ne_true]; exact h
theorem notFirst_self {K : PySem.W.Frag} {C : Addr} : PySem.W.notFirst K C (.ref C) = true := by unfold PySem.W.notFirst; simp
def spPool (K : PySem.W.Frag) : Sp := fun vs H Q _ => ∃ (a : Addr) (ns : List Int), vs = [.ref a] ∧ SqL K H a (ns.map V.int) ∧ ns.length ≤ 63 ∧ (∀ z ∈ ns, Builtin.Int.intBits z ≤ 1048576) ∧
  ∀ p H', H p = none → PoolAt H' p → SameBut p H H' → Q (.ref p) H'
def spDraw : Sp := fun vs H Q _ => ∃ (p : Addr) (m : Int), vs = [.ref p, .int m] ∧ PoolAt H p ∧ 1 ≤ m ∧ m < 1073741824 ∧ ∀ r H', 0 ≤ r → r < m → PoolAt H' p → SameBut p H H' → Q (.int r) H'

/-! ### the rules that speak of K, by the K at hand -/
section
variable {X : Cx} {o e : Expr} {ta tl : TE} {tg : Expr} {f : Str} {pos : Pos}
theorem op_eqDK (K : PySem.W.Frag) (hu : X.A.units + 64 < cLine) (hK : X.K = K := by rfl) : OpR X (compareOp .Eq) (rEqD K) := hK ▸ op_eqD hu
theorem op_neDK (K : PySem.W.Frag) (hu : X.A.units + 64 < cLine) (hK : X.K = K := by rfl) : OpR X (compareOp .NotEq) (rNeD K) := hK ▸ op_neD hu
theorem ix_tupK (K : PySem.W.Frag) (hK : X.K = K := by rfl) : IxR X (rIxT K) := hK ▸ ix_tup
theorem ix_listK (K : PySem.W.Frag) (hK : X.K = K := by rfl) : IxR X (rIxL K) := hK ▸ ix_list
theorem pe_fldK (K : PySem.W.Frag) (he : PE X e ta) (hb : attributeBase e f X.env (eval e X.env) = eval e X.env) (hK : X.K = K := by rfl) : PE X (.Attribute e f pos) (tFld K ta f) := hK ▸ pe_fld he hb
theorem op_in_seqK (K : PySem.W.Frag) (hK : X.K = K := by rfl) : OpR X (compareOp .In) (rIn K false) := hK ▸ op_in_seq
theorem op_notIn_seqK (K : PySem.W.Frag) (hK : X.K = K := by rfl) : OpR X (compareOp .NotIn) (rIn K true) := hK ▸ op_notIn_seq
theorem call_isiK' (K : PySem.W.Frag) (hK : X.K = K := by rfl) : CallR X (.builtin "isinstance") (rIsi K) := hK ▸ call_isi
theorem pi_listK (K : PySem.W.Frag) (hl : PE X o tl) (hK : X.K = K := by rfl) : PI X tg o (iList K tl) := hK ▸ pi_list hl
theorem pi_tupK (K : PySem.W.Frag) (hl : PE X o tl) (hK : X.K = K := by rfl) : PI X tg o (iTup K tl) := hK ▸ pi_tup hl
def rLenSq (K : PySem.W.Frag) : List V → Hp → VK → Prop := fun xs H Q => ∃ p ys, xs = [.ref p] ∧ (SqL K H p ys ∨ SqT K H p ys) ∧ Q (.int ys.length) H
theorem call_len_seqK (K : PySem.W.Frag) (hK : X.K = K := by rfl) : CallR X (.builtin "len") (rLenSq K) := hK ▸ call_len_seq
end
theorem kit_same {K : PySem.W.Frag} {t : Value} : PySem.W.kitOne K t t = some true := by
  unfold PySem.W.kitOne
  rw [if_pos (by simp)]
theorem kit_sub {K : PySem.W.Frag} {t C : Addr} {b : Bool} (hd : PySem.W.hasDictIn K C = true) (ty : PySem.W.typeIn K (.ref C) = some (.type "type")) (self : PySem.W.subIn K (.ref C) (.ref C) = some true) (h : PySem.W.subIn K (.ref t) (.ref C) = some b) :
    PySem.W.kitOne K (.ref t) (.ref C) = some b := by
  unfold PySem.W.kitOne
  by_cases e : t = C
  · subst e
    rw [if_pos (by simp)]
    exact self.symm.trans h
  · rw [if_neg (by simpa using e)]
    obtain ⟨cd, hc, _⟩ := PySem.W.any_some hd
    have e2 : ((PySem.W.clsIn K C).isSome && PySem.W.typeIn K (.ref C) == some (.type "type")) = true := by rw [hc, ty] <;> rfl
    show (if ((PySem.W.clsIn K C).isSome && PySem.W.typeIn K (.ref C) == some (.type "type")) = true then PySem.W.subIn K (.ref t) (.ref C) else none) = some b
    rw [if_pos e2]
    exact h
theorem kit_base {K : PySem.W.Frag} {t : Addr} {T : String} {b : Bool} (hm : PySem.W.kitMeta T = true) (h : PySem.W.subIn K (.ref t) (.type T) = some b) : PySem.W.kitOne K (.ref t) (.type T) = some b := by
  unfold PySem.W.kitOne
  rw [if_neg (by simp)]
  show (if PySem.W.kitMeta T = true then PySem.W.subIn K (.ref t) (.type T) else none) = some b
  rw [if_pos hm]
  exact h
end L2
namespace L2
open PySem PySem.Spec PyProof.Rows
theorem dec_add (i : Int) (t : Tok) (a C dx : Addr) : Meets (Builtin.«int.__add__» ⟨[.int i t, .ref a], []⟩) (fun _ R s => s.heap.get? a = some (PySem.W.instObj C dx) ∧ R (.ok (.ret .notImplemented)) s) :=
  .of_wp fun prog w A R s h => by obtain ⟨hp, g, d, tk, os⟩ := s; obtain ⟨hl, h⟩ := h; unfold PySem.W.instObj at hl; wp_walk; exact ⟨_, rfl, h⟩
theorem dec_sub (i : Int) (t : Tok) (a C dx : Addr) : Meets (Builtin.«int.__sub__» ⟨[.int i t, .ref a], []⟩) (fun _ R s => s.heap.get? a = some (PySem.W.instObj C dx) ∧ R (.ok (.ret .notImplemented)) s) :=
  .of_wp fun prog w A R s h => by obtain ⟨hp, g, d, tk, os⟩ := s; obtain ⟨hl, h⟩ := h; unfold PySem.W.instObj at hl; wp_walk; exact ⟨_, rfl, h⟩
theorem dec_mul (i : Int) (t : Tok) (a C dx : Addr) : Meets (Builtin.«int.__mul__» ⟨[.int i t, .ref a], []⟩) (fun _ R s => s.heap.get? a = some (PySem.W.instObj C dx) ∧ R (.ok (.ret .notImplemented)) s) :=
  .of_wp fun prog w A R s h => by obtain ⟨hp, g, d, tk, os⟩ := s; obtain ⟨hl, h⟩ := h; unfold PySem.W.instObj at hl; wp_walk; exact ⟨_, rfl, h⟩
theorem dec_eq (i : Int) (t : Tok) (a C dx : Addr) : Meets (Builtin.«int.__eq__» ⟨[.int i t, .ref a], []⟩) (fun _ R s => s.heap.get? a = some (PySem.W.instObj C dx) ∧ R (.ok (.ret .notImplemented)) s) :=
  .of_wp fun prog w A R s h => by obtain ⟨hp, g, d, tk, os⟩ := s; obtain ⟨hl, h⟩ := h; unfold PySem.W.instObj at hl; wp_walk; exact ⟨_, rfl, h⟩

/-- what the classes say of an operator with an int on the left -/
structure IntOp (op : Operator) (B : Builtin) (id : String) : Prop where
  fills : fillsNumberSlot (.type "int") op.info.2 = pure true
  slot : Slot "int" (PySem.dunder op.info.2) id
  entry : entryFor table id = some B
  args : ∀ a b, argsOk id ⟨[a, b], []⟩
  dec : ∀ (i : Int) (t : Tok) (a C dx : Addr), Meets (B ⟨[.int i t, .ref a], []⟩) (fun _ R s => s.heap.get? a = some (PySem.W.instObj C dx) ∧ R (.ok (.ret .notImplemented)) s)
theorem intAdd : IntOp .Add Builtin.«int.__add__» "int.__add__" := ⟨F.fills_int_add, F.slot_int_add, F.entry_int_add, F.args_int_add_2, dec_add⟩
theorem intSub : IntOp .Sub Builtin.«int.__sub__» "int.__sub__" := ⟨F.fills_int_sub, F.slot_int_sub, F.entry_int_sub, F.args_int_sub_2, dec_sub⟩
theorem intMul : IntOp .Mult Builtin.«int.__mul__» "int.__mul__" := ⟨F.fills_int_mul, F.slot_int_mul, F.entry_int_mul, F.args_int_mul_2, dec_mul⟩
open PySem.W in
theorem binop_IK {prog : Program} {w : World} {A : Around} {E : Value → Shared → Prop} {s : Shared} {K : Frag} {x C L f f0 dx : Addr} {h₀ : Heap} {m : Str → Option Value} {od : Option Obj} {op : Operator} {B : Builtin} {id : String} {i : Int} {t : Tok} {Q : Value → Shared → Prop} (J : IntOp op B id)
    (Fr0 : Fr h₀ L s.heap m) (X₀ : K.In h₀) (I : PySem.W.InstAt s.heap x (PySem.W.instObj C dx) C od) (hc : selfFirst K C = true) (hs : findIn K (.ref C) (PySem.dunder op.info.2) = some (some (.ref f0)))
    (hr : findIn K (.ref C) (dunderR op.info.2) = some (some (.ref f))) (hf : isFn K (.ref f) = true) (hsub : subIn K (.ref C) (.type "int") = some false)
    (h : wpAny (model prog w) A (call (.ref f) [.ref x, .int i t]) (PySem.W.CmpBack Q) E s) : wpAny (model prog w) A (binaryOp op (.int i t) (.ref x)) Q E s := by
  have X := X₀.keeps Fr0.keep
  obtain ⟨cd, rest, hcd, hm⟩ := ksp_first hc
  obtain ⟨hfT, slot, entry, args, dec⟩ := J
  rcases hi : op.info with ⟨sym, nm⟩
  rw [hi] at hs hr hfT slot
  dsimp only at hs hr hfT slot
  have hne : (Value.type "int" == Value.ref C) = false := Bool.eq_false_iff.mpr fun q => by cases beq_iff_eq.mp q
  simp only [binaryOp, hi]
  refine wpAny_holding (wpAny_bind ?_)
  unfold binaryOp1
  refine wpAny_bind (wpAny_typeOf (show s.TypeIs (.int i t) "int" from rfl) (wpAny_bind (I.type.here (wpAny_bind (wpAny_of_eq hfT ?_)))))
  simp only [hne, Bool.false_eq_true, if_false]
  refine wpAny_bind ((fills_K X hcd hm hs).here ?_)
  simp only [Bool.and_self, if_true]
  refine wpAny_bind ((looks_subIn X hsub).here ?_)
  have hpy : numberSlotInPython (.type "int") nm = pure false := rfl
  simp only [Bool.false_eq_true, if_false, pure_bind, Bool.not_false, Bool.and_self, if_true, hpy]
  refine wpAny_bind (wpAny_tryMethod_declines (T := "int") rfl slot (call_meets slot rfl entry (args _ _) (dec i t x C dx) ⟨I.at_, rfl, ?_⟩))
  show wpAny _ _ (tryMethod (.ref x) (dunderR nm) (.int i t) >>= _) _ _ _
  refine wpAny_bind (wpAny_mono (ksp_try X I hr hf h) (fun r s' hq => ?_) fun _ _ z => z)
  obtain ⟨v, rfl, q⟩ := hq
  first | exact wpAny_bind (wpAny_rule (wpAny_pure (wpAny_pure q))) | exact wpAny_rule (wpAny_pure (wpAny_pure q)) | exact wpAny_bind (wpAny_rule (wpAny_pure q))
open PySem.W in
theorem eq_IK {prog : Program} {w : World} {A : Around} {E : Value → Shared → Prop} {s : Shared} {K : Frag} {x C L f dx : Addr} {h₀ : Heap} {m : Str → Option Value} {od : Option Obj} {i : Int} {t : Tok} {Q : Value → Shared → Prop} (hu : A.units < cLine)
    (Fr0 : Fr h₀ L s.heap m) (X₀ : K.In h₀) (I : PySem.W.InstAt s.heap x (PySem.W.instObj C dx) C od) (hs : findIn K (.ref C) "__eq__" = some (some (.ref f))) (hf : isFn K (.ref f) = true) (hsub : subIn K (.ref C) (.type "int") = some false)
    (h : wpAny (model prog w) A (call (.ref f) [.ref x, .int i t]) (PySem.W.CmpBack Q) E s) : wpAny (model prog w) A (richCompare .Eq (.int i t) (.ref x)) Q E s := by
  have X := X₀.keeps Fr0.keep
  have one : wpAny (model prog w) A (tryCompare (.ref x) "__eq__" (.int i t)) (fun r s' => ∃ v, r = some v ∧ Q v s') E s := by
    unfold tryCompare
    refine wpAny_bind (ifBound_K X I hs hf (wpAny_mono h (fun v s' hv => ?_) fun _ _ e => e))
    cases v <;> first | exact hv.elim | exact wpAny_pure ⟨_, rfl, hv⟩
  have hne : (Value.type "int" != Value.ref C) = true := by
    have : (Value.type "int" == Value.ref C) = false := Bool.eq_false_iff.mpr fun q => by cases beq_iff_eq.mp q
    simp [bne, this]
  unfold richCompare
  refine wpAny_holding (wpAny_bind (wpAny_cRoomFor hu ?_))
  have ho : oneThing? .Eq (.int i t) (.ref x) = none := rfl
  rw [ho]
  refine wpAny_bind (wpAny_typeOf (show s.TypeIs (.int i t) "int" from rfl) (wpAny_bind (I.type.here ?_)))
  rw [if_pos hne]
  refine wpAny_bind ((looks_subIn X hsub).here ?_)
  simp only [Bool.false_eq_true, if_false]
  refine wpAny_bind (wpAny_tryCompare_declines (T := "int") rfl PySem.F.slot_int_eq (call_meets PySem.F.slot_int_eq rfl PySem.F.entry_int_eq (PySem.F.args_int_eq_2 _ _) (dec_eq i t x C dx) ⟨I.at_, rfl, ?_⟩))
  simp only [Bool.not_false, if_true]
  refine wpAny_bind (wpAny_mono one (fun r s' hq => ?_) fun _ _ z => z)
  obtain ⟨v, rfl, q⟩ := hq
  exact wpAny_pure q
section
variable {X : Cx} {CX : CXT} {k : Nat} {f f0 C : Addr} {fd : FuncData} {ps : List Str} {sp : Sp} {E : XK}
/-- i op x, an int on the left: x's reflected method at (x, i) -/
def rIOwn (C : Addr) (sp : Sp) (E : XK) : R2 := fun y x H Q => ∃ a dx fs i, x = .ref a ∧ H a = some (.ins C dx fs) ∧ y = .int i ∧ sp [x, y] H Q E
theorem op_iown {op : Operator} {B : Builtin} {id : String} (J : IntOp op B id) (hm0 : Meth X.K C (PySem.dunder op.info.2) f0) (hm : Meth X.K C (dunderR op.info.2) f) (hc : PySem.W.selfFirst X.K C = true) (hsub : PySem.W.subIn X.K (.ref C) (.type "int") = some false)
    (F : FnOk X.prog X.w X.K X.mg X.base CX k f fd ps sp) (hr : Room k X.A) (hb : Binds X.K fd ps []) (hx : Passes CX X E) : OpR X (binaryOp op) (rIOwn C sp E) := by
  intro pins s σ H y x v u Q I ry rx h
  obtain ⟨a, dx, fs, i, rfl, ea, rfl, h⟩ := h
  obtain rfl : u = Value.ref a := rx
  obtain ⟨t, rfl⟩ := (show ∃ t, v = Value.int i t from ry)
  obtain ⟨od, Ia⟩ := I.instAt ea
  obtain ⟨m, fr⟩ := I.fr
  refine binop_IK J fr I.ok.mod.kin Ia hc hm0.at_ hm.at_ hm.fn hsub (thn (run_fnA (us := [.ref a, .int i t]) (vs := [.ref a, .int i]) (dvs := []) rfl F hr hb .nil hx I (.cons rfl (.cons ⟨t, rfl⟩ .nil)) h) fun w s' q => ?_)
  obtain ⟨v', H', I', rv, q⟩ := q
  exact cmpBack_of rv ⟨v', H', I', rv, q⟩
theorem op_ieq (hm : Meth X.K C "__eq__" f) (hsub : PySem.W.subIn X.K (.ref C) (.type "int") = some false)
    (F : FnOk X.prog X.w X.K X.mg X.base CX k f fd ps sp) (hr : Room k X.A) (hb : Binds X.K fd ps []) (hx : Passes CX X E) : OpR X (compareOp .Eq) (rIOwn C sp E) := by
  intro pins s σ H y x v u Q I ry rx h
  obtain ⟨a, dx, fs, i, rfl, ea, rfl, h⟩ := h
  obtain rfl : u = Value.ref a := rx
  obtain ⟨t, rfl⟩ := (show ∃ t, v = Value.int i t from ry)
  obtain ⟨od, Ia⟩ := I.instAt ea
  obtain ⟨m, fr⟩ := I.fr
  show wpAny _ _ (richCompare .Eq (.int i t) (.ref a)) _ _ _
  refine eq_IK hr.units0 fr I.ok.mod.kin Ia hm.at_ hm.fn hsub (thn (run_fnA (us := [.ref a, .int i t]) (vs := [.ref a, .int i]) (dvs := []) rfl F hr hb .nil hx I (.cons rfl (.cons ⟨t, rfl⟩ .nil)) h) fun w s' q => ?_)
  obtain ⟨v', H', I', rv, q⟩ := q
  exact cmpBack_of rv ⟨v', H', I', rv, q⟩
end
/-- // by any divisor but 0, of less than 9000 bits -/
theorem op_fdivX {X : Cx} : OpR X (binaryOp .FloorDiv) (rI (fun _ j => j ≠ 0 ∧ j.natAbs.log2 < 9000) fun i j => .int (i.fdiv j)) := opI fun i j _ _ _ _ _ hc q => floordiv_int hc.1 q (.inl (PyProof.noPylong_of_log2 hc.2))
section
variable {X : Cx} {CX : CXT} {k : Nat} {f C : Addr} {fd : FuncData} {ps : List Str} {sp : Sp} {E : XK}
/-- abs(x), by an own __abs__ -/
def rAbsOwn (C : Addr) (sp : Sp) (E : XK) : List V → Hp → VK → Prop := fun xs H Q => ∃ a dx fs, xs = [.ref a] ∧ H a = some (.ins C dx fs) ∧ sp [.ref a] H Q E
theorem call_absOwn (hm : Meth X.K C "__abs__" f) (Fk : FnOk X.prog X.w X.K X.mg X.base CX k f fd ps sp) (hr : Room (k + 1) X.A) (hb : Binds X.K fd ps []) (hx : Passes CX X E) : CallR X (.builtin "abs") (rAbsOwn C sp E) := by
  intro pins s σ H xs us Q I r h
  obtain ⟨a, dx, fs, rfl, ea, h⟩ := h
  obtain ⟨u, rfl, ru⟩ := vals1 r
  obtain rfl : u = Value.ref a := ru
  obtain ⟨od, J⟩ := I.instAt ea
  refine PySem.Calls.call_function_entry kind_abs plain_abs entry_abs (args_abs _) ?_
  unfold Builtin.«abs»
  refine wpAny_bind (m := oneArg "abs" _) (wpAny_pure ?_)
  refine wpAny_bind (m := callSpecial? (.ref a) (Str.ofString "__abs__")) (PySem.W.special_fn I.kIn J hm.at_ (beq_iff_eq.mp hm.fn) (thn (run_fnA (A := X.A.in1) (us := [.ref a]) (vs := [.ref a]) (dvs := []) rfl Fk hr.in1 hb .nil hx I (.cons rfl .nil) h) fun w s' q => ?_))
  exact wpAny_pure ⟨_, rfl, q⟩
end
theorem kit_tb {K : PySem.W.Frag} {C : Addr} {T : String} {b : Bool} (hd : PySem.W.hasDictIn K C = true) (ty : PySem.W.typeIn K (.ref C) = some (.type "type")) (h : PySem.W.subIn K (.type T) (.ref C) = some b) : PySem.W.kitOne K (.type T) (.ref C) = some b := by
  unfold PySem.W.kitOne
  rw [if_neg (by simp)]
  obtain ⟨cd, hc, _⟩ := PySem.W.any_some hd
  have e2 : ((PySem.W.clsIn K C).isSome && PySem.W.typeIn K (.ref C) == some (.type "type")) = true := by rw [hc, ty] <;> rfl
  show (if ((PySem.W.clsIn K C).isSome && PySem.W.typeIn K (.ref C) == some (.type "type")) = true then PySem.W.subIn K (.type T) (.ref C) else none) = some b
  rw [if_pos e2]
  exact h
theorem notFirst_ty {K : PySem.W.Frag} {C : Addr} {T : String} (h : PySem.W.subIn K (.type T) (.ref C) = some false) : PySem.W.notFirst K C (.type T) = true := by unfold PySem.W.notFirst; rw [h]; simp
theorem binds_none {K : PySem.W.Frag} {fd : FuncData} {ps : List Str} (h : ∃ ds, Vals ([] : List V) ds ∧ Binds K fd ps ds) : Binds K fd ps [] := by
  obtain ⟨ds, r, b⟩ := h
  cases r
  exact b
end L2
namespace L2
open PySem PySem.Spec PyProof.Rows
section
variable {X : Cx} {CX : CXT} {k : Nat} {f C : Addr} {fd : FuncData} {ps : List Str} {sp : Sp} {E : St → XK} {m : Str} {pos apos : Pos} {e o : Expr} {es : List Expr} {ta : TE} {t : TA}
/-- o.m(e, ..) in a try's body -/
def tMethT (C : Addr) (m : Str) (sp : Sp) (E : St → XK) (ta : TE) (t : TA) : TE := fun σ H Q => ta σ H fun x H1 => ∃ a dx fs, x = .ref a ∧ H1 a = some (.ins C dx fs) ∧ fs.lookup m = none ∧ t σ H1 fun vs H2 => sp (x :: vs) H2 Q (E σ)
theorem pe_methT {pl : Sem Bool} (he : PE X o ta) (c : Cls X.K C) (hm : Meth X.K C m f) (F : FnOk X.prog X.w X.K X.mg X.base CX k f fd ps sp) (hr : Room k X.A) (hb : Binds X.K fd ps []) (hx : ∀ σ, PassesAt CX X σ (E σ)) (ha : PA X (e :: es) t)
    (hst : starEach (e :: es) X.env = (false, eval e X.env) :: starEach es X.env := by rfl) (hpl : (backTo pos (starEach es X.env)).any (·.1) = false := by rfl)
    (ht : eval (.Call (.Attribute o m apos) (e :: es) [] pos) X.env = (do
      let ov ← eval o X.env
      standAt apos.atName
      let (f, first) ← holding [ov] (getMethod ov m pl)
      callWith pos f first (backTo pos (starEach (e :: es) X.env)) (backToKw pos (keywordEach [] X.env))) := by rfl) :
    PE X (.Call (.Attribute o m apos) (e :: es) [] pos) (tMethT C m sp E ta t) := by
  refine ⟨fun pins s σ H Q I h => ?_⟩
  refine PySem.W.methodCall_KW (pl := pl) (thn (he.run pins s σ H _ I h) fun u s1 ⟨x, H1, I1, rx, a, dx, fs, ex, ea, l, q⟩ => ?_) ht
  subst ex
  obtain rfl : u = Value.ref a := rx
  refine getmeth_ok I1 ea c hm l ?_
  refine PySem.W.callWith_K (first := [.ref a]) (h₀ := X.base) I.ok.mod.kin hm.kp (thn (ha.run pos pins s1 σ H1 _ I1 q) fun us s2 ⟨vs, H2, I2, r, q2⟩ => ⟨I2.kIn, ?_⟩) hst hpl
  exact run_fnS2 (us := .ref a :: us) (vs := .ref a :: vs) F hr hb (hx σ) I2 (.cons rfl r) q2
end
theorem op_two {X : Cx} {op : Operator} {r1 r2 : R2} (h1 : OpR X (binaryOp op) r1) (h2 : OpR X (binaryOp op) r2) : OpR X (binaryOp op) (fun x y H Q => r1 x y H Q ∨ r2 x y H Q) := by
  intro pins s σ H x y v u Q I rx ry h
  rcases h with h | h
  · exact h1 _ _ _ _ _ _ _ _ _ I rx ry h
  · exact h2 _ _ _ _ _ _ _ _ _ I rx ry h
end L2
/-! iter of a tuple; list(x) of an own class whose __iter__ gives a tuple's iterator and that has an own __len__ -/
namespace L2
open PySem PySem.Spec PyProof.Rows
section
variable {prog : Program} {w : World} {A : Around} {E : Value → Shared → Prop} {s : Shared}
theorem gb_iter_tuple {t : Addr} {items : Array Value} {Q : Value → Shared → Prop} (ht : s.heap.IsTuple t items) (h : Q (.ref s.heap.objs.size) { s with heap := s.heap.push { cls := .type "tuple_iterator", data := .fields #[.ref t, .int 0 0] } }) : wpAny (model prog w) A (call (.builtin "iter") [.ref t]) Q E s := by
  refine Calls.call_function_entry (by decide +kernel) (by decide +kernel) PySem.W.kdk_entry_iter (PySem.W.kdk_args_iter _) ?_
  unfold Builtin.«iter»
  refine wpAny_bind (m := someArgs "iter" 1 2 _) (wpAny_of_eq (a := [Value.ref t]) (by first | rfl | kernel_rfl!) ?_)
  show wpAny _ _ (pyIter (.ref t) >>= _) _ _ _
  refine wpAny_bind (wpAny_pyIter_tuple ht ?_)
  exact wpAny_pure ⟨_, rfl, h⟩
/-- the end of a tuple's iterator; the iterator stays an object -/
theorem gb_tuple_end {it t : Addr} {i : Nat} {items : Array Value} {Q : Option Value → Shared → Prop} (hh : A.handled = none)
    (hit : s.heap.IsTupleIter it t i) (ht : s.heap.IsTuple t items) (hx : items[i]? = none)
    (hQ : ∀ h', Heap.ExtBut it s.heap h' → (∃ u, h'.get? it = some u) → Q none { s with heap := h' }) : wpAny (model prog w) A (pyNext (.ref it)) Q E s := by
  obtain ⟨o, ho, hc, hd⟩ := id hit
  obtain ⟨ol, hol, _, nl, hdl⟩ := ht
  unfold pyNext
  refine wpAny_bind (wpAny_attempt (wpAny_callSpecial?_slot (name := Str.ofString "__next__") hit.typeIs F.slot_tuple_iterator_next
    (wpAny_call_entry F.slot_tuple_iterator_next hit.typeIs F.entry_tuple_iterator_next ?_ (F.args_tuple_iterator_next_1 _))))
  show wpAny _ _ (field (.ref it) 0 >>= _) _ _ s
  refine wpAny_bind (wpAny_field ho hd (x := .ref t) rfl ?_)
  show wpAny _ _ (if (Value.ref t == Value.none) = true then _ else _) _ _ s
  rw [if_neg (show ¬ ((Value.ref t == Value.none) = true) from Bool.false_ne_true)]
  show wpAny _ _ (field (.ref it) 1 >>= _) _ _ s
  refine wpAny_bind (wpAny_field ho hd (x := .int i 0) rfl ?_)
  show wpAny _ _ (seqItems? (.ref t) >>= _) _ _ s
  refine wpAny_bind (wpAny_seqItems hol hdl ?_)
  simp only [Int.toNat_natCast, hx]
  refine wpAny_bind (wpAny_rule (wpAny_bind (wpAny_setField ho hd (by simp) ?_)))
  show wpAny _ _ (newExc (.type "StopIteration") [] >>= _) _ _ _
  refine wpAny_bind ?_
  simp only [newExc, newTuple]
  refine wpAny_bind (wpAny_newObj_type ?_ (by size_fits))
  refine wpAny_bind (m := firstArgMember _ _) (wpAny_of_eq (a := Value.none) (by first | rfl | (simp only [firstArgMember]; rfl)) ?_)
  refine wpAny_newObj_type ?_ (by size_fits)
  simp only [raiseNew]
  refine wpAny_bind (wpAny_handled ?_)
  first | rw [show A.in1.handled = none from hh] | rw [hh]
  refine wpAny_bind (wpAny_pure (wpAny_throw ?_))
  refine wpAny_bind (wpAny_isInstance (T := "StopIteration") (b := true) ⟨_, Heap.get?_push_size _ rfl, rfl⟩ isSubtype_stop ?_)
  exact wpAny_pure (hQ _ (((Heap.SameBut.update ..).extBut.push _).push _) ⟨_, Heap.get?_push_of_some _ (Heap.get?_push_of_some _ (Heap.get?_update_self _ ho (Obj.isFreed_of_fields (Obj.data_mapFields hd _))))⟩)
theorem gb_hint {Q : Bool → Shared → Prop} {K : PySem.W.Frag} {a C fl : Addr} {ox : Obj} {od : Option Obj} (hl : PySem.W.findIn K (.ref C) "__len__" = some (some (.ref fl))) (hK : K.In s.heap) (J : PySem.W.InstAt s.heap a ox C od)
    (h : wpAny (model prog w) A (call (.builtin "len") [.ref a]) (fun v s' => ∃ n t, v = .int n t ∧ Builtin.List.listTooLong n.toNat = false ∧ Q (n != 0) s') (fun _ _ => False) s) : wpAny (model prog w) A (Builtin.List.listLengthHint (.ref a)) Q E s := by
  unfold Builtin.List.listLengthHint
  refine wpAny_bind (wpAny_bind (J.type.here ((PySem.W.looks_findIn hK hl).here ?_)))
  refine PySem.W.KFB.if_not rfl ?_
  show wpAny _ _ (rule _ >>= _) _ _ _
  refine wpAny_bind (wpAny_rule ?_)
  refine wpAny_bind (wpAny_attempt (wpAny_mono h (fun v s' hv => ?_) fun _ _ z => ?_))
  · obtain ⟨n, t, rfl, h1, q⟩ := hv
    show wpAny _ _ (if Builtin.List.listTooLong n.toNat = true then _ else pure (n != 0)) _ _ _
    rw [if_neg (by rw [h1]; decide)]
    exact wpAny_pure q
  · exact z.elim
end
/-- at it an iterator over the tuple at t, the next place is i -/
def ItT (t it : Addr) (i : Nat) : HO := .ext fun h => h.IsTupleIter it t i
/-- at it something that is no longer of use -/
def ItX (it : Addr) : HO := .ext fun h => ∃ o, h.get? it = some o
theorem itT_ok {P : Program} {w : World} {H : Hp} {h : Heap} {t it : Addr} {i : Nat} (e : h.IsTupleIter it t i) : ObjOk P w H h it (ItT t it i) := ⟨e, let ⟨o, ho, _⟩ := e; ⟨o, ho⟩, fun h1 h2 q k => Heap.IsTupleIter.at q k⟩
theorem itX_ok {P : Program} {w : World} {H : Hp} {h : Heap} {it : Addr} (e : ∃ o, h.get? it = some o) : ObjOk P w H h it (ItX it) := ⟨e, e, fun h1 h2 q k => let ⟨o, ho⟩ := q; ⟨o, k o ho⟩⟩
section
variable {X : Cx} {pins : List (Addr × Obj)} {σ : St} {H : Hp} {s : Shared} {t it l : Addr} {i : Nat} {zs : List V}
theorem itT_get (I : Inv X pins σ H s) (e : H it = some (ItT t it i)) : s.heap.IsTupleIter it t i := (I.hok it _ e).1
def rIterT (K : PySem.W.Frag) : List V → Hp → VK → Prop := fun xs H Q => ∃ (t : Addr) (zs : List V), xs = [.ref t] ∧ SqT K H t zs ∧ ∀ it, H it = none → Q (.ref it) (upd H it (ItT t it 0))
theorem call_iterT : CallR X (.builtin "iter") (rIterT X.K) := by
  intro pins s σ H xs us Q I r h
  obtain ⟨t, zs, rfl, hq, q⟩ := h
  obtain rfl := Vals.ref1 r
  obtain ⟨its, rv, pl, hz⟩ := I.tuple hq
  refine gb_iter_tuple (show s.heap.IsTuple t its.toArray from pl) ?_
  exact ⟨.ref s.heap.objs.size, _, I.laid (t' := s.toks) (fun b u e => Heap.get?_push_of_some _ e) (Nat.le_refl _) (itT_ok ⟨_, Heap.get?_push_size _ rfl, rfl, rfl⟩), rfl, q _ (I.hok.fresh (Nat.le_refl _))⟩
theorem upd_swap {a b : Addr} {o u : HO} (h : a ≠ b) : upd (upd H a o) b u = upd (upd H b u) a o := by
  funext c
  by_cases ha : c = a
  · subst ha; rw [upd_ne h, upd_same, upd_same]
  · rw [upd_ne ha]
    by_cases hb : c = b
    · subst hb; rw [upd_same, upd_same]
    · rw [upd_ne hb, upd_ne hb, upd_ne ha]
/-- the loop over a tuple's iterator, the list at l filled -/
theorem gb_loop {A1 : Around} {Rs : Result → Shared → Prop} (hh : A1.handled = none) (hne : it ≠ l) (hT : SqT X.K H t zs) (hz : zs.length < sizeLine) (hlt : H l = none) (hit : H it = none)
    (hdone : ∀ s, Inv X pins σ (upd (upd H l (.lst zs)) it (ItX it)) s → Rs (.ok (.ret .none)) s) :
    ∀ (k i : Nat) (s : Shared), zs.length - i = k → i ≤ zs.length → Inv X pins σ (upd (upd H l (.lst (zs.take i))) it (ItT t it i)) s → codeAny (model X.prog X.w) A1 (.builtin "list.extend.loop" ⟨[.ref l, .ref it, .none], []⟩) Rs s := by
  have sT : ∀ {o1 o2 : HO}, SqT X.K (upd (upd H l o1) it o2) t zs := fun {o1 o2} => Same.seqT ((same_new hlt).trans (same_new (by rw [upd_ne hne]; exact hit))) hT
  intro k
  induction k with
  | zero =>
    intro i s hk hi I
    have hin : i = zs.length := by omega
    subst hin
    obtain ⟨its, rv, pl, _⟩ := I.tuple (sT (o1 := _) (o2 := _))
    refine codeAny_builtin PySem.F.entry_extend_loop ?_
    rw [Around.under_plainId PySem.F.plain_extend_loop _]
    show wpAny _ A1.in1 (pyNext (.ref it) >>= _) _ _ s
    refine wpAny_bind (gb_tuple_end (A := A1.in1) hh (itT_get I upd_same) (show s.heap.IsTuple t its.toArray from pl) (by have := rv.length; simp; omega) fun h' hb hu => ?_)
    refine wpAny_pure (hdone _ ?_)
    have I2 := I.write (x := it) (e := it) (o := ItX it) (h' := h') (t' := s.toks) (by rw [upd_same]; exact True.intro) (.inl rfl) (fun b u nb z => hb b u nb z) hu (itX_ok hu)
    rw [upd_upd, List.take_length] at I2
    exact I2
  | succ k ih =>
    intro i s hk hi I
    have hlt2 : i < zs.length := by omega
    obtain ⟨its, rv, pl, _⟩ := I.tuple (sT (o1 := _) (o2 := _))
    obtain ⟨u, hu, ru⟩ := rv.get (List.getElem?_eq_getElem hlt2)
    refine codeAny_builtin PySem.F.entry_extend_loop ?_
    rw [Around.under_plainId PySem.F.plain_extend_loop _]
    show wpAny _ A1.in1 (pyNext (.ref it) >>= _) _ _ s
    refine wpAny_bind (wpAny_pyNext_tuple_item (itT_get I upd_same) (show s.heap.IsTuple t its.toArray from pl) (x := u) (by simpa using hu) fun h' hi' sb => ?_)
    have I2 := I.write (x := it) (e := it) (o := ItT t it (i + 1)) (h' := h') (t' := s.toks) (by rw [upd_same]; exact True.intro) (.inl rfl) (fun b o nb z => (sb.2 b nb).trans z) (let ⟨o, ho, _⟩ := hi'; ⟨o, ho⟩) (itT_ok hi')
    rw [upd_upd, upd_swap hne.symm] at I2
    show wpAny _ A1.in1 (updateSeq l (·.push u) >>= _) _ _ _
    obtain ⟨z, its2, c, r2, hl, e⟩ := I2.lstM upd_same
    have hl2 : its2.length = i := by rw [← r2.length, List.length_take]; omega
    refine wpAny_bind (wpAny_updateSeq e rfl (wpAny_pure ⟨plainId_quiet PySem.F.plain_extend_loop _, ?_⟩) (by rw [List.size_toArray]; omega) (by show (its2.toArray.push u).size ≤ sizeLine + 1; rw [Array.size_push, List.size_toArray]; omega))
    have I3 := I2.lset (its' := its2 ++ [u]) (ys := zs.take (i + 1)) (t' := s.toks) (f := (·.push u)) upd_same e (by simp) (by rw [List.take_succ, List.getElem?_eq_getElem hlt2]; exact r2.append (.cons ru .nil)) (by rw [List.length_take]; omega)
    rw [upd_upd, upd_swap hne] at I3
    exact ih (i + 1) _ (by omega) hlt2 I3
end
section
variable {X : Cx} {k k2 : Nat} {fi fl C : Addr} {fd fd2 : FuncData} {ps ps2 : List Str} {spI spL : Sp}
/-- list(x) -/
def rListIt (K : PySem.W.Frag) (C : Addr) (spI spL : Sp) : List V → Hp → VK → Prop := fun xs H Q => ∃ (a dx t : Addr) (fs : List (Str × V)) (zs : List V), xs = [.ref a] ∧ H a = some (.ins C dx fs) ∧ SqT K H t zs ∧ zs.length < 1000 ∧
  ∀ l, H l = none →
    spI [.ref a] (upd H l (.lst [])) (fun v H' => ∃ it, v = .ref it ∧ upd H l (.lst []) it = none ∧ H' = upd (upd H l (.lst [])) it (ItT t it 0)) (fun _ _ _ => False) ∧
    (∀ it, H it = none → it ≠ l → spL [.ref a] (upd (upd H l (.lst [])) it (ItT t it 0)) (fun v H' => v = .int zs.length ∧ H' = upd (upd H l (.lst [])) it (ItT t it 0)) (fun _ _ _ => False)) ∧
    ∀ it, H it = none → it ≠ l → Q (.ref l) (upd (upd H l (.lst zs)) it (ItX it))
theorem call_listIt (hmI : Meth X.K C "__iter__" fi) (hmL : Meth X.K C "__len__" fl) (FI : FnOk X.prog X.w X.K X.mg X.base CX0 k fi fd ps spI) (FL : FnOk X.prog X.w X.K X.mg X.base CX0 k2 fl fd2 ps2 spL)
    (bI : Binds X.K fd ps []) (bL : Binds X.K fd2 ps2 []) (hr : Room (k + 2) X.A) (hr2 : Room (k2 + 3) X.A) : CallR X (.type "list") (rListIt X.K C spI spL) := by
  intro pins s σ H xs us Q I rv h
  obtain ⟨a, dx, t, fs, zs, rfl, ha, hT, hz, hq⟩ := h
  obtain ⟨u, rfl, ru⟩ := rv.one
  obtain rfl : u = Value.ref a := ru
  refine callType_codes (Q₁ := fun obj s₁ => obj = .ref s.heap.objs.size ∧ s₁ = { s with heap := s.heap.push { cls := .type "list", data := .seq #[] } }) PySem.F.called_list (PySem.F.typeCall_list_1 _) PySem.F.entry_list_init
    (code_list_new _ ⟨rfl, rfl⟩) fun obj s₁ h₁ => ?_
  obtain ⟨rfl, rfl⟩ := h₁
  have hS : (s.heap.push { cls := .type "list", data := .seq #[] }).get? s.heap.objs.size = some { cls := .type "list", data := .seq #[] } := Heap.get?_push_size _ rfl
  refine ⟨⟨_, hS, rfl⟩, PySem.F.args_list_init_2 _ _, ?_⟩
  have fr : H s.heap.objs.size = none := I.hok.fresh (Nat.le_refl _)
  obtain ⟨q1, q2, q3⟩ := hq _ fr
  have I1 : Inv X pins σ (upd H s.heap.objs.size (.lst [])) { s with heap := s.heap.push { cls := .type "list", data := .seq #[] } } := I.lnew (its := []) (t' := s.toks) .nil (Nat.zero_le _)
  show wpAny _ _ (do let old ← Builtin.List.listItems (.ref s.heap.objs.size); Builtin.List.listUpdate (.ref s.heap.objs.size) (fun _ => #[]); letGo old.toList.reverse; Builtin.List.listExtendWith (.ref s.heap.objs.size) (.ref a) .none) _ _ _
  refine wpAny_bind ?_
  unfold Builtin.List.listItems
  refine wpAny_bind (wpAny_seqItems hS rfl (wpAny_pure ?_))
  show wpAny _ _ (updateSeq s.heap.objs.size (fun _ => #[]) >>= fun _ => letGo (#[] : Array Value).toList.reverse >>= fun _ => Builtin.List.listExtendWith (.ref s.heap.objs.size) (.ref a) .none) _ _ _
  refine wpAny_bind (wpAny_updateSeq hS rfl ?_)
  have I2 := I1.lset (f := fun _ => #[]) (its := []) (its' := []) (ys := []) (t' := s.toks) upd_same hS rfl .nil (Nat.zero_le _)
  rw [upd_upd] at I2
  refine wpAny_bind (wpAny_letGo ?_)
  generalize hl0 : s.heap.objs.size = l at *
  have hne : a ≠ l := ne_of_none ha fr
  have ha2 : upd H l (.lst []) a = some (.ins C dx fs) := by rw [upd_ne hne]; exact ha
  generalize ({ s with heap := (s.heap.push { cls := .type "list", data := .seq #[] }).update l (Obj.mapSeq fun _ => #[]), toks := s.toks } : Shared) = s2 at I2 ⊢
  obtain ⟨od, J⟩ := I2.instAt ha2
  obtain ⟨m0, hF⟩ := I2.fr
  unfold Builtin.List.listExtendWith
  refine wpAny_bind (J.type.here ?_)
  have h1 : Builtin.List.listSameRef (.ref l) (.ref a) = false := by simp [Builtin.List.listSameRef, hne.symm]
  have h2 : (Value.ref C == Value.type "list") = false := rfl
  have h3 : (Value.ref C == Value.type "tuple") = false := rfl
  simp only [h1, h2, h3, Bool.or_false, Bool.false_eq_true, if_false]
  refine wpAny_bind (PySem.W.owit_iter hF I2.ok.mod.kin J hmI.at_ hmI.fn ?_)
  have rI : Room k X.A.in1.in1 := (hr.in1 (k := k + 1)).in1
  refine wpAny_mono (run_fnA (X := X.nox) (us := [.ref a]) (vs := [.ref a]) (dvs := []) rfl FI rI bI .nil pass0 (I2.wish _) (.cons rfl .nil) q1) (fun v s3 q => ?_) (fun _ _ z => z.elim)
  obtain ⟨v', H', I3, rv', it, rfl, hit, rfl⟩ := q
  obtain rfl : v = Value.ref it := rv'
  replace I3 := I3.unwish
  have hil : it ≠ l := fun z => by rw [z, upd_same] at hit; cases hit
  have hitH : H it = none := by rw [upd_ne hil] at hit; exact hit
  have gi := itT_get I3 upd_same
  show wpAny _ _ (specialOf (.ref it) "__next__") _ _ _
  refine wpAny_specialOf gi.typeIs PySem.F.slot_tuple_iterator_next.lookup ?_
  have ha3 : upd (upd H l (.lst [])) it (ItT t it 0) a = some (.ins C dx fs) := by rw [upd_ne (ne_of_none ha2 hit)]; exact ha2
  obtain ⟨od3, J3⟩ := I3.instAt ha3
  obtain ⟨m3, hF3⟩ := I3.fr
  have rL : Room k2 X.A.in1.in1.in1 := ((hr2.in1 (k := k2 + 2)).in1 (k := k2 + 1)).in1
  refine wpAny_bind (wpAny_holding (gb_hint hmL.at_ I3.kIn J3 (PySem.W.len_K hF3 I3.ok.mod.kin J3 hmL.at_ hmL.fn ?_)))
  refine wpAny_mono (run_fnA (X := X.nox) (us := [.ref a]) (vs := [.ref a]) (dvs := []) rfl FL rL bL .nil pass0 (I3.wish _) (.cons rfl .nil) (q2 it hitH hil)) (fun v s4 q => ?_) (fun _ _ z => z.elim)
  obtain ⟨v', H', I4, rv4, rfl, rfl⟩ := q
  obtain ⟨tk, rfl⟩ := (show ∃ t, v = Value.int zs.length t from rv4)
  replace I4 := I4.unwish.tok (s4.toks + 1)
  refine ⟨⟨by omega, by omega⟩, _, _, rfl, ?_, ?_⟩
  · show decide ((zs.length : Int).toNat > sizeLine) = false
    rw [sizeLine_eq]
    exact decide_eq_false (by omega)
  generalize ({ s4 with toks := s4.toks + 1 } : Shared) = s5 at I4 ⊢
  have hzl : zs.length < sizeLine := by rw [sizeLine_eq]; omega
  have loop : ∀ s, Inv X pins σ (upd (upd H l (.lst [])) it (ItT t it 0)) s → codeAny (model X.prog X.w) X.A.in1 (.builtin "list.extend.loop" ⟨[.ref l, .ref it, .none], []⟩) (wants (fun r s₂ => r = .none ∧ EP X pins σ Q (.ref l) s₂) X.xe) s := fun s' I' =>
    gb_loop (A1 := X.A.in1) (zs := zs) (show X.A.in1.handled = none from hr.hd) hil hT hzl fr hitH (fun s6 I6 => ⟨rfl, .ref l, _, I6, rfl, q3 it hitH hil⟩) zs.length 0 s' rfl (Nat.zero_le _) I'
  refine wpAny_ite_split (fun _ => ?_) (fun _ => wpAny_pure ⟨plainId_quiet PySem.F.plain_extend_loop _, loop s5 I4⟩)
  have hql : upd (upd H l (.lst [])) it (ItT t it 0) l = some (.lst []) := by rw [upd_ne hil.symm, upd_same]
  obtain ⟨z, its, k4, r3, hl3, e3⟩ := I4.lstM hql
  cases r3
  refine wpAny_bind (wpAny_rule ?_)
  refine wpAny_bind ?_
  show wpAny _ _ (updateSeq l (·.push .none) >>= fun _ => updateSeq l (·.pop)) _ _ _
  refine wpAny_bind (wpAny_updateSeq e3 rfl ?_)
  have I5 := I4.lset (f := (·.push Value.none)) (its' := [Value.none]) (ys := [.non]) (t' := s5.toks) hql e3 (by simp) (.cons rfl .nil) (by rw [List.length_singleton, sizeLine_eq]; decide)
  obtain ⟨z4, its4, k5, r4, hl4, e4⟩ := I5.lstM upd_same
  obtain ⟨u4, rfl, ru4⟩ := r4.one
  refine wpAny_updateSeq e4 rfl ?_ (by show 1 ≤ sizeLine; rw [sizeLine_eq]; decide) (by show 0 ≤ sizeLine + 1; exact Nat.zero_le _)
  refine wpAny_pure ⟨plainId_quiet PySem.F.plain_extend_loop _, loop _ ?_⟩
  have I6 := I5.lset (f := (·.pop)) (its := [u4]) (its' := []) (ys := []) (t' := s5.toks) upd_same e4 (by rfl) .nil (Nat.zero_le _)
  rw [upd_upd] at I6
  have hH : upd (upd (upd H l (.lst [])) it (ItT t it 0)) l (.lst []) = upd (upd H l (.lst [])) it (ItT t it 0) := by rw [upd_swap hil, upd_upd]
  rw [hH] at I6
  exact I6
end
end L2
namespace L2
open PySem PySem.Spec PyProof.Rows StX
/-- zip of two tuples -/
theorem walk_zipT {K : PySem.W.Frag} {a b : Addr} {xs ys : List V} {n : Nat} (hn : n = min xs.length ys.length) : Walk (RZ.ItzT K a b) n (fun H => SqT K H a xs ∧ SqT K H b ys) (YPair (fun i => xs[i]?) (fun i => ys[i]?)) := by
  subst hn
  refine ⟨fun i _ hi q => ?_, fun _ q => ⟨xs, ys, q.1, q.2, by omega⟩, fun i H v H' _ q y => ?_⟩
  · have h1 : i < xs.length := by omega
    have h2 : i < ys.length := by omega
    exact ⟨xs, ys, xs[i], ys[i], q.1, q.2, by simp [h1], by simp [h2]⟩
  · obtain ⟨T, x, z, h1, h2, h3, h4, h5⟩ := y
    exact ⟨T, x, z, h1, h2, h3, h4 xs q.1, h5 ys q.2⟩
theorem pi_zipK {X : Cx} (K : PySem.W.Frag) {e e2 : Expr} {ta : TA} {p pos tpos : Pos} {elts : List Expr} {kk : Nat} (hg : Gl X "zip") (hm : X.mg "zip" = none) (ha : PA X [e, e2] ta) (hK : X.K = K := by rfl)
    (hs : starEach [e, e2] X.env = (false, eval e X.env) :: starEach [e2] X.env := by rfl) (hpl : (backTo pos (starEach [e2] X.env)).any (·.1) = false := by rfl) :
    PI X (.Tuple elts kk tpos) (.Call (.Name "zip" p) [e, e2] [] pos) (RZ.iZipA K ta) := hK ▸ RZ.pi_zipA hg hm ha hs hpl
section
variable {P : Program} {w : World} {K : PySem.W.Frag} {mg : Str → Option Value} {base : Heap}
/-- what a def with *args says of its arguments -/
def spStar (m : Nat) (sp : Sp) : Sp := fun vs H Q E => ∃ ws rest, vs = ws ++ rest ∧ ws.length = m ∧ rest.length ≤ sizeLine ∧ ∀ p, H p = Option.none → sp (ws ++ [V.ref p]) (upd H p (.tup rest)) Q E
theorem Fun.okStar {x qual : Str} {st : Stmt} {f : Addr} {fd : FuncData} {N : List Str} {p1 pv : Str} {k : Nat} {sp : Sp} (F : Fun K x qual st f fd) (S : FnScope N ([p1] ++ [pv]) (defScope st))
    (hb : ∀ (kV doc pm : Value) (an : Option Addr) (cdv ct : Value) (us rest : List Value), us.length = [p1].length → bindArgs (PySem.W.fnOf x qual (defArgs st) (defBody st) (defScope st) .none kV doc pm an cdv ct) ⟨us ++ rest, []⟩ = (newTuple rest >>= fun t => pure ([p1].zip us ++ [(pv, t)])))
    (hbody : ∀ (cdv : Value) (A : Around) (outer : List Env) (s : Shared) (H : Hp) (vs : List V) (Q : VK) (E : XK), Room k (A.deeper (envOfC qual (defScope st) s.heap.objs.size f cdv)) → sp vs H Q E →
      ∃ t, PSs (cxOf (L2.CX P w) P w K mg base N qual (defScope st) f cdv A outer s H E) (defBody st) t ∧ t { nx := fun _ H' => Q .non H', rt := Q } (start N vs) H) : FnR P w K mg base (L2.CX P w) (k + 1) f (spStar 1 sp) := by
  obtain ⟨oc, od, kV, doc, pm, an, cdv, ct, osl, rfl, lk, hcd⟩ := F.ex
  exact fn_star (ps := [p1]) (pv := pv) lk hcd S cxUp (hb kV doc pm an cdv ct) fun A outer s H vs Q E hr hsp => hbody cdv A outer s H vs Q E hr hsp
end
section
variable {X : Cx} {CX : CXT} {k : Nat} {f C : Addr} {fd : FuncData} {ps : List Str} {sp : Sp} {E : XK} {x : Str} {e : Expr} {es : List Expr} {te : TE} {t : TA} {p sp_ pos : Pos}
/-- C(*y) -/
def tMakeStar (K : PySem.W.Frag) (C : Addr) (sp : Sp) (E : XK) (te : TE) : TE := fun σ H Q => te σ H fun y H1 => ∃ a xs, y = V.ref a ∧ (SqT K H1 a xs ∨ SqL K H1 a xs) ∧ ∀ x dx, H1 x = Option.none → H1 dx = Option.none → dx ≠ x →
  sp (V.ref x :: xs) (upd (upd H1 dx (.own x)) x (.ins C dx [])) (fun v H2 => v = .non ∧ Q (.ref x) H2) E
theorem pe_makeStar (M : Mk X.K C f) (F : FnR X.prog X.w X.K X.mg X.base CX k f sp) (hr : Room (k + 1) X.A) (hg : Gl X x) (hm : X.mg x = some (.ref C)) (hx : Passes CX X E) (he : PE X e te) (hd : (x == ("__debug__" : Str)) = false := by decide)
    (hst : starEach [.Starred e sp_] X.env = [(true, eval e X.env)] := by rfl) : PE X (.Call (.Name x p) [.Starred e sp_] [] pos) (tMakeStar X.K C sp E te) := by
  refine ⟨fun pins s σ H Q I h => ?_⟩
  refine wpAny_Call_Name_kw (ld_glob I hg hm ?_ hd)
  refine PySem.W.callWith_S (h₀ := X.base) I.ok.mod.kin M.kp (thn (he.run pins s σ H _ I h) fun v s1 ⟨y, H1, I1, ry, a, xs, ey, hxs, q⟩ => ?_) hst
  subst ey
  obtain rfl : v = Value.ref a := ry
  exact star_any I1 hxs fun us s2 I2 rv => ⟨I2.kIn, run_makeR M F hr hx I2 rv q⟩
/-- the same in a try's body -/
def tMakeRT (C : Addr) (sp : Sp) (E : St → XK) (t : TA) : TE := fun σ H Q => t σ H fun vs H1 => ∀ x dx, H1 x = Option.none → H1 dx = Option.none → dx ≠ x →
  sp (V.ref x :: vs) (upd (upd H1 dx (.own x)) x (.ins C dx [])) (fun v H2 => v = .non ∧ Q (.ref x) H2) (E σ)
theorem run_makeRT {E : St → XK} {pins : List (Addr × Obj)} {σ : L2.St} {H : Hp} {s : Shared} {Q : VK} {us : List Value} {vs : List V} (M : Mk X.K C f) (F : FnR X.prog X.w X.K X.mg X.base CX k f sp) (hr : Room (k + 1) X.A) (hx : PassesAt CX X σ (E σ)) (I : Inv X pins σ H s) (r : Vals vs us)
    (h : ∀ x dx, H x = Option.none → H dx = Option.none → dx ≠ x → sp (V.ref x :: vs) (upd (upd H dx (.own x)) x (.ins C dx [])) (fun v H2 => v = .non ∧ Q (.ref x) H2) (E σ)) :
    wpAny (model X.prog X.w) X.A (call (.ref C) us) (EP X pins σ Q) X.xe s := by
  have hq := h (s.heap.objs.size + 1) s.heap.objs.size (I.hok.fresh (Nat.le_succ _)) (I.hok.fresh (Nat.le_refl _)) (Nat.ne_of_lt (Nat.lt_succ_self _))
  have I2 := Inv.made (C := C) I
  have r2 : Vals (V.ref (s.heap.objs.size + 1) :: vs) (Value.ref (s.heap.objs.size + 1) :: us) := .cons rfl r
  refine wpAny_call (make_map (f := f) I.kIn M.makes M.init (beq_iff_eq.mp M.fn) (codeAny_mono (F _ X.stack _ _ (Value.ref (s.heap.objs.size + 1) :: us) _ _ (E σ) (hr.make C us []) (I2.env0.make C us []) r2 hq) fun r s' hq' => ?_))
  cases r with
  | error e => exact hx pins _ _ e s' I2 hq'
  | ok fl =>
    cases fl with
    | ret u =>
      obtain ⟨v, H', I3, rv, ev, q3⟩ := I2.after hq'
      subst ev
      exact ⟨rv, ⟨V.ref (s.heap.objs.size + 1), H', I3, rfl, q3⟩⟩
    | next => exact False.elim hq'
    | brk => exact False.elim hq'
    | cont => exact False.elim hq'
theorem pe_makeRT {E : St → XK} (M : Mk X.K C f) (F : FnR X.prog X.w X.K X.mg X.base CX k f sp) (hr : Room (k + 1) X.A) (hg : Gl X x) (hm : X.mg x = some (.ref C)) (hx : ∀ σ, PassesAt CX X σ (E σ)) (ha : PA X (e :: es) t) (hdb : (x == ("__debug__" : Str)) = false := by decide)
    (he : starEach (e :: es) X.env = (false, eval e X.env) :: starEach es X.env := by rfl) (hpl : (backTo pos (starEach es X.env)).any (·.1) = false := by rfl) : PE X (.Call (.Name x p) (e :: es) [] pos) (tMakeRT C sp E t) := by
  refine ⟨fun pins s σ H Q I h => ?_⟩
  refine wpAny_Call_Name_kw (ld_glob I hg hm ?_ hdb)
  refine PySem.W.callWith_K (h₀ := X.base) I.ok.mod.kin M.kp (thn (ha.run pos pins s σ H _ I h) fun us s1 ⟨vs, H1, I1, r, q⟩ => ⟨I1.kIn, ?_⟩) he hpl
  exact run_makeRT M F hr (hx σ) I1 r q
theorem pe_makeRT0 {E : St → XK} (M : Mk X.K C f) (F : FnR X.prog X.w X.K X.mg X.base CX k f sp) (hr : Room (k + 1) X.A) (hg : Gl X x) (hm : X.mg x = some (.ref C)) (hx : ∀ σ, PassesAt CX X σ (E σ)) (hdb : (x == ("__debug__" : Str)) = false := by decide) :
    PE X (.Call (.Name x p) [] [] pos) (tMakeRT C sp E tNil) := by
  refine ⟨fun pins s σ H Q I h => ?_⟩
  refine wpAny_Call_Name_kw (ld_glob I hg hm ?_ hdb)
  exact PySem.W.callWith_K0 I.kIn M.kp (run_makeRT M F hr (hx σ) I .nil h)
/-- y in x in a try's body, x of an own class -/
def tInT (C : Addr) (sp : Sp) (E : St → XK) (ta tb : TE) : TE := fun σ H Q => ta σ H fun y H1 => tb σ H1 fun x H2 => ∃ a dx fs, x = .ref a ∧ H2 a = some (.ins C dx fs) ∧ sp [x, y] H2 (fun v H' => ∃ b, v = .bl b ∧ Q (.bl b) H') (E σ)
theorem pe_inT {E : St → XK} {l r : Expr} {ta tb : TE} (hm : Meth X.K C "__contains__" f) (F : FnOk X.prog X.w X.K X.mg X.base CX k f fd ps sp) (hr : Room k X.A) (hb : Binds X.K fd ps []) (hx : ∀ σ, PassesAt CX X σ (E σ)) (ha : PE X l ta) (hb' : PE X r tb) (hmk : behindInMarks .In r = false) :
    PE X (.Compare l [.In] [r] pos) (tInT C sp E ta tb) := by
  refine ⟨fun pins s σ H Q I h => ?_⟩
  refine wpAny_Compare1 (binT ha hb' I h fun v u s2 y x H2 I2 ry rx q => ?_) hmk
  obtain ⟨a, dx, fs, rfl, ea, q⟩ := q
  obtain rfl : u = Value.ref a := rx
  obtain ⟨od, J⟩ := I2.instAt ea
  obtain ⟨m, fr⟩ := I2.fr
  refine PySem.W.in_K fr I2.ok.mod.kin J hm.at_ hm.fn (thn (run_fnS2 F hr hb (hx σ) I2 (.cons (show RelV (.ref a) (Value.ref a) from rfl) (.cons ry .nil)) q) fun w s' q => ?_)
  obtain ⟨v', H', I', rv, b, rfl, q⟩ := q
  obtain rfl : w = Value.bool b := rv
  exact wpAny_truthy_bool ⟨.bl b, H', I', rfl, q⟩
end
section
variable {X : Cx} {CX : CXT} {k : Nat} {f C : Addr} {fd : FuncData} {ps : List Str} {sp : Sp} {E : XK}
/-- x[y] by an own __getitem__ -/
def rIxOwn (C : Addr) (sp : Sp) (E : XK) : R2 := fun x y H Q => ∃ a dx fs i, x = .ref a ∧ H a = some (.ins C dx fs) ∧ y = .int i ∧ sp [x, y] H Q E
theorem pe_ixOwn {a b : Expr} {ta tb : TE} {pos : Pos} (hm : Meth X.K C "__getitem__" f) (hfn : PySem.W.fnIn X.K f = true) (F : FnOk X.prog X.w X.K X.mg X.base CX k f fd ps sp) (hr : Room (k + 1) X.A) (hb : Binds X.K fd ps []) (hx : Passes CX X E) (ha : PE X a ta) (hb2 : PE X b tb)
    (hs : ∀ (x : Addr) (i : Value), subscripted b true (.ref x) i = runValue (.builtin "lifetime.subscript" ⟨[.ref x, i], []⟩) := by intro _ _; rfl) : PE X (.Subscript a b pos) (tOp (rIxOwn C sp E) ta tb) := by
  refine ⟨fun pins s σ H Q I h => ?_⟩
  refine Subscript_ (binT ha hb2 I h fun v u s2 x y H2 I2 rx ry q => ?_)
  obtain ⟨a', dx, fs, i, rfl, ea, rfl, q⟩ := q
  obtain rfl : v = Value.ref a' := rx
  obtain ⟨t, rfl⟩ := (show ∃ t, u = Value.int i t from ry)
  obtain ⟨od, J⟩ := I2.instAt ea
  obtain ⟨m, fr⟩ := I2.fr
  exact PySem.W.sub_K fr I2.ok.mod.kin J hm.at_ hfn hm.fn (run_fnA (A := X.A.in1) (us := [.ref a', .int i t]) (vs := [.ref a', .int i]) (dvs := []) rfl F hr.in1 hb .nil hx I2 (.cons rfl (.cons ⟨t, rfl⟩ .nil)) q) (hs _ _)
end
end L2
namespace L2
open PySem PySem.Spec PyProof.Rows StX
theorem call_listItK {X : Cx} (K : PySem.W.Frag) {k k2 : Nat} {fi fl C : Addr} {fd fd2 : FuncData} {ps ps2 : List Str} {spI spL : Sp} (hmI : Meth X.K C "__iter__" fi) (hmL : Meth X.K C "__len__" fl) (FI : FnOk X.prog X.w X.K X.mg X.base CX0 k fi fd ps spI) (FL : FnOk X.prog X.w X.K X.mg X.base CX0 k2 fl fd2 ps2 spL)
    (bI : Binds X.K fd ps []) (bL : Binds X.K fd2 ps2 []) (hr : Room (k + 2) X.A) (hr2 : Room (k2 + 3) X.A) (hK : X.K = K := by rfl) : CallR X (.type "list") (rListIt K C spI spL) := hK ▸ call_listIt hmI hmL FI FL bI bL hr hr2
theorem call_iterTK {X : Cx} (K : PySem.W.Frag) (hK : X.K = K := by rfl) : CallR X (.builtin "iter") (rIterT K) := hK ▸ call_iterT
def spNever : Sp := fun _ _ _ _ => False
theorem dpInts {K : PySem.W.Frag} {H : Hp} : ∀ xs : List Int, DpAll K H (xs.map V.int) (xs.map PyData.int)
  | [] => .nil
  | x :: xs => .cons (.int x) (dpInts xs)
theorem eqvInts : ∀ xs ys : List Int, PyData.eqvAll (xs.map PyData.int) (ys.map PyData.int) = decide (xs = ys)
  | [], [] => by simp [PyData.eqvAll]
  | [], _ :: _ => by simp [PyData.eqvAll]
  | _ :: _, [] => by simp [PyData.eqvAll]
  | x :: xs, y :: ys => by
    simp only [List.map_cons, PyData.eqvAll, eqvInts xs ys, PyData.eqv]
    simp [List.cons.injEq, Bool.decide_and]
    rfl
theorem eqvT (xs ys : List Int) : PyData.eqv (.tuple (xs.map PyData.int)) (.tuple (ys.map PyData.int)) = decide (xs = ys) := by simp only [PyData.eqv]; exact eqvInts xs ys
theorem eqvL (xs ys : List Int) : PyData.eqv (.list (xs.map PyData.int)) (.list (ys.map PyData.int)) = decide (xs = ys) := by simp only [PyData.eqv]; exact eqvInts xs ys
theorem layInts : ∀ xs : List Int, PyData.canLayAll0 (xs.map PyData.int) = true
  | [] => rfl
  | x :: xs => by
    show (PyData.canLay0 (PyData.int x) && PyData.canLayAll0 (xs.map PyData.int)) = true
    rw [layInts xs]; rfl
theorem depInts : ∀ xs : List Int, PyData.depthAll (xs.map PyData.int) = 0
  | [] => rfl
  | x :: xs => by
    simp only [List.map_cons, PyData.depthAll, depInts xs, PyData.depth]
    rfl
theorem shT (xs : List Int) : SeqAt.shaped (.tuple (xs.map PyData.int)) = true := by
  unfold SeqAt.shaped
  simp only [PyData.canLay0, PyData.depth, layInts, depInts]
  rfl
theorem shL (xs : List Int) : SeqAt.shaped (.list (xs.map PyData.int)) = true := by
  unfold SeqAt.shaped
  simp only [PyData.canLay0, PyData.depth, layInts, depInts]
  rfl
theorem same_put {H H' : Hp} {D : Addr} {o : HO} (s : Same H H') (h : H D = none) : Same H (upd H' D o) := fun b u e => by
  rw [upd_ne (fun z => by rw [z, h] at e; cases e)]
  exact s b u e
end L2
namespace L2
open PySem PySem.Spec PyProof.Rows StX
def rTupOf (K : PySem.W.Frag) : List V → Hp → VK → Prop := fun xs H Q => ∃ p ys, xs = [.ref p] ∧ ((SqL K H p ys ∧ ∀ l, H l = none → Q (.ref l) (upd H l (.tup ys))) ∨ (SqT K H p ys ∧ Q (.ref p) H))
theorem call_tuple_ofK {X : Cx} (K : PySem.W.Frag) (hK : X.K = K := by rfl) : CallR X (.type "tuple") (rTupOf K) := hK ▸ call_tuple_of
theorem sl_listK {X : Cx} (K : PySem.W.Frag) (hK : X.K = K := by rfl) : SlR X (rSlL K) := hK ▸ sl_list
end L2
/-! plain mathematics: lowest terms, Euclid's steps -/
namespace L2
/-- (t, b) is T / B in lowest terms -/
structure Rep (t b T B : Int) : Prop where
  pos : 1 ≤ b
  cross : t * B = T * b
  cop : Nat.gcd t.natAbs b.natAbs = 1
  st : t.natAbs ≤ T.natAbs
  sb : b.natAbs ≤ B.natAbs
theorem rep_of {T B : Int} (hB : B ≠ 0) {g : Nat} (hg : g = Nat.gcd T.natAbs B.natAbs) {f : Int} (hf : f = if B < 0 then -(g : Int) else (g : Int)) : f ≠ 0 ∧ f.natAbs ≤ B.natAbs ∧ Rep (T.fdiv f) (B.fdiv f) T B := by
  have hb0 : 0 < B.natAbs := Int.natAbs_pos.mpr hB
  have g0 : 0 < g := by rw [hg]; exact Nat.gcd_pos_of_pos_right _ hb0
  have gle : g ≤ B.natAbs := by rw [hg]; exact Nat.gcd_le_right _ hb0
  have d1 : (g : Int) ∣ T := by
    rw [hg]; exact Int.ofNat_dvd_left.mpr (Nat.gcd_dvd_left _ _)
  have d2 : (g : Int) ∣ B := by
    rw [hg]; exact Int.ofNat_dvd_left.mpr (Nat.gcd_dvd_right _ _)
  obtain ⟨t1, e1⟩ := d1
  obtain ⟨b1, e2⟩ := d2
  have gi : (g : Int) ≠ 0 := by omega
  have cop : Nat.gcd t1.natAbs b1.natAbs = 1 := by
    have h : g = g * Nat.gcd t1.natAbs b1.natAbs := by
      have : Nat.gcd T.natAbs B.natAbs = g * Nat.gcd t1.natAbs b1.natAbs := by
        rw [e1, e2, Int.natAbs_mul, Int.natAbs_mul, Int.natAbs_natCast, Nat.gcd_mul_left]
      rw [← hg] at this; exact this
    have h' : g * 1 = g * Nat.gcd t1.natAbs b1.natAbs := by rw [Nat.mul_one]; exact h
    exact (Nat.eq_of_mul_eq_mul_left g0 h').symm
  have st : t1.natAbs ≤ T.natAbs := by rw [e1, Int.natAbs_mul, Int.natAbs_natCast]; exact Nat.le_mul_of_pos_left _ g0
  have sb : b1.natAbs ≤ B.natAbs := by rw [e2, Int.natAbs_mul, Int.natAbs_natCast]; exact Nat.le_mul_of_pos_left _ g0
  by_cases hn : B < 0
  · rw [if_pos hn] at hf
    have ft : T.fdiv f = -t1 := by
      rw [hf, e1, show (g : Int) * t1 = -(g : Int) * (-t1) by rw [Int.neg_mul_neg]]
      exact Int.mul_fdiv_cancel_left _ (by omega)
    have fb : B.fdiv f = -b1 := by
      rw [hf, e2, show (g : Int) * b1 = -(g : Int) * (-b1) by rw [Int.neg_mul_neg]]
      exact Int.mul_fdiv_cancel_left _ (by omega)
    have hb1 : b1 < 0 := by
      have q : (g : Int) * b1 < (g : Int) * 0 := by rw [Int.mul_zero, ← e2]; exact hn
      exact Int.lt_of_mul_lt_mul_left q (by omega)
    refine ⟨by omega, by rw [hf, Int.natAbs_neg, Int.natAbs_natCast]; exact gle, ?_⟩
    rw [ft, fb]
    refine ⟨by omega, ?_, by rw [Int.natAbs_neg, Int.natAbs_neg]; exact cop, by rw [Int.natAbs_neg]; exact st, by rw [Int.natAbs_neg]; exact sb⟩
    rw [e1, e2, Int.neg_mul, Int.mul_neg, Int.mul_assoc, Int.mul_left_comm]
  · rw [if_neg hn] at hf
    have ft : T.fdiv f = t1 := by rw [hf, e1]; exact Int.mul_fdiv_cancel_left _ gi
    have fb : B.fdiv f = b1 := by rw [hf, e2]; exact Int.mul_fdiv_cancel_left _ gi
    have hb1 : 0 < b1 := by
      have q : (g : Int) * 0 < (g : Int) * b1 := by rw [Int.mul_zero, ← e2]; omega
      exact Int.lt_of_mul_lt_mul_left q (by omega)
    refine ⟨by omega, by rw [hf, Int.natAbs_natCast]; exact gle, ?_⟩
    rw [ft, fb]
    refine ⟨by omega, ?_, cop, st, sb⟩
    rw [e1, e2, Int.mul_assoc, Int.mul_left_comm]
/-- lowest terms are the only ones -/
theorem rep_uniq {t b t' b' : Int} (h : 1 ≤ b) (h' : 1 ≤ b') (c : Nat.gcd t.natAbs b.natAbs = 1) (c' : Nat.gcd t'.natAbs b'.natAbs = 1) (e : t * b' = t' * b) : t = t' ∧ b = b' := by
  have e1 : t.natAbs * b'.natAbs = t'.natAbs * b.natAbs := by rw [← Int.natAbs_mul, ← Int.natAbs_mul, e]
  have d1 : b.natAbs ∣ b'.natAbs := by
    refine Nat.Coprime.dvd_of_dvd_mul_left (k := b.natAbs) (m := t.natAbs) ?_ ?_
    · show Nat.gcd b.natAbs t.natAbs = 1
      rw [Nat.gcd_comm]; exact c
    · rw [e1]; exact Nat.dvd_mul_left _ _
  have d2 : b'.natAbs ∣ b.natAbs := by
    refine Nat.Coprime.dvd_of_dvd_mul_left (k := b'.natAbs) (m := t'.natAbs) ?_ ?_
    · show Nat.gcd b'.natAbs t'.natAbs = 1
      rw [Nat.gcd_comm]; exact c'
    · rw [← e1]; exact Nat.dvd_mul_left _ _
  have eb := Nat.dvd_antisymm d1 d2
  have eb' : b = b' := by omega
  subst eb'
  exact ⟨Int.eq_of_mul_eq_mul_right (by omega) e, rfl⟩
/-! ### Euclid -/
def Euc (a b i : Nat) : Prop := (i = 0 ∧ b < 2 ^ 200) ∨ (1 ≤ i ∧ b < a ∧ a * b * 2 ^ (i - 1) ≤ 2 ^ 400)
theorem Euc.turn {a b i : Nat} (h : Euc a b i) (hb : b ≠ 0) : Euc b (a % b) (i + 1) ∧ i ≤ 401 := by
  have hm : a % b < b := Nat.mod_lt _ (Nat.pos_of_ne_zero hb)
  rcases h with ⟨rfl, h⟩ | ⟨h1, h2, h3⟩
  · refine ⟨.inr ⟨Nat.le_refl _, hm, ?_⟩, Nat.zero_le _⟩
    show b * (a % b) * 2 ^ 0 ≤ 2 ^ 400
    have : b * (a % b) ≤ 2 ^ 200 * 2 ^ 200 := Nat.mul_le_mul (Nat.le_of_lt h) (Nat.le_of_lt (Nat.lt_trans hm h))
    rw [Nat.pow_zero, Nat.mul_one]
    rw [← Nat.pow_add] at this
    exact this
  · refine ⟨.inr ⟨by omega, hm, ?_⟩, ?_⟩
    · obtain ⟨j, rfl⟩ : ∃ j, i = j + 1 := ⟨i - 1, by omega⟩
      show b * (a % b) * 2 ^ (j + 1) ≤ 2 ^ 400
      have h2' : 2 * (a % b) ≤ a := by
        have e := Nat.div_add_mod a b
        have q : 1 ≤ a / b := Nat.div_pos (Nat.le_of_lt h2) (Nat.pos_of_ne_zero hb)
        have : b * 1 ≤ b * (a / b) := Nat.mul_le_mul_left _ q
        omega
      have e : b * (a % b) * 2 ^ (j + 1) = (b * (2 * (a % b))) * 2 ^ j := by
        rw [Nat.pow_succ, Nat.mul_comm (2 ^ j) 2, ← Nat.mul_assoc, Nat.mul_assoc b, Nat.mul_comm (a % b) 2]
      rw [e]
      refine Nat.le_trans (Nat.mul_le_mul_right _ (Nat.mul_le_mul_left b h2')) ?_
      rw [Nat.mul_comm b a]
      exact h3
    · have : 1 * 1 * 2 ^ (i - 1) ≤ a * b * 2 ^ (i - 1) := Nat.mul_le_mul_right _ (Nat.mul_le_mul (by omega) (by omega))
      simp only [Nat.one_mul] at this
      have q : i - 1 ≤ 400 := (Nat.pow_le_pow_iff_right (by decide)).mp (Nat.le_trans this h3)
      omega
theorem pow_le {m n : Nat} (h : m ≤ n) : (1000 : Int) ^ m ≤ 1000 ^ n := by
  induction h with
  | refl => exact Int.le_refl _
  | step h ih =>
    rename_i k
    have p : ∀ j : Nat, (0 : Int) ≤ 1000 ^ j := fun j => by
      induction j with
      | zero => decide
      | succ j ih => rw [Int.pow_succ]; omega
    rw [Nat.succ_eq_add_one, Int.pow_succ]
    have := p k
    omega
end L2
namespace L2
open PySem PySem.Spec PyProof.Rows StX
theorem upd_fr {H : Hp} {p q : Addr} {o u : HO} (e : H q = some u) (hp : H p = none) : upd H p o q = some u := by rw [upd_ne (ne_of_none e hp)]; exact e
theorem upd_df {H : Hp} {p q : Addr} {o u : HO} (e : H q = some u) (n : q ≠ p) : upd H p o q = some u := by rw [upd_ne n]; exact e
theorem none_ne {H : Hp} {a b : Addr} {o : HO} (h' : H b = none) (h : H a = some o) : a ≠ b := ne_of_none h h'
theorem same_nw {H H' : Hp} {p : Addr} {o : HO} (s : Same H H') (h : H' p = none) : Same H (upd H' p o) := s.trans (same_new h)
theorem but_nw {q : Addr} {H H' : Hp} {p : Addr} {o : HO} (s : SameBut q H H') (h : H' p = none) : SameBut q H (upd H' p o) := s.trans (same_new h).but
theorem but_own {p : Addr} {H H' : Hp} {o : HO} (s : SameBut p H H') : SameBut p H (upd H' p o) := s.trans sameBut_upd
theorem put_but {p D : Addr} {H0 H' : Hp} {o : HO} (s : SameBut p H0 H') (hD : H0 D = none) : SameBut p H0 (upd H' D o) := fun b u n e => by
  rw [upd_ne (fun z => by rw [z, hD] at e; cases e)]
  exact s b u n e
theorem iteB {c : Bool} {A B : Prop} (h1 : c = true → A) (h2 : c = false → B) : if c = true then A else B := by
  cases c with
  | true => rw [if_pos rfl]; exact h1 rfl
  | false => rw [if_neg (by decide)]; exact h2 rfl
theorem eq_int {a b : Int} (h : V.int a = V.int b) : a = b := by injection h
theorem ne_int {a b : Int} (h : ¬ V.int a = V.int b) : ¬ a = b := fun e => h (by rw [e])
theorem iteI {a b : Int} {A B : Prop} (h1 : a = b → A) (h2 : ¬ a = b → B) : if decide (V.int a = V.int b) = true then A else B := iteD (fun e => h1 (eq_int e)) fun e => h2 (ne_int e)
theorem iteIN {a b : Int} {A B : Prop} (h1 : ¬ a = b → A) (h2 : a = b → B) : if (!decide (V.int a = V.int b)) = true then A else B := iteDN (fun e => h2 (eq_int e)) fun e => h1 (ne_int e)
theorem lc_put {H H' : Hp} {D : Addr} {vs : List V} {i : Nat} {v : V} (hD : H D = none) (s : Same H H') (e : H' D = some (.lst (vs.take i))) (hv : vs[i]? = some v) (hz : vs.length ≤ 1000) :
    ∃ acc, H' D = some (.lst acc) ∧ acc.length < sizeLine ∧ (Same H (upd H' D (.lst (acc ++ [v]))) ∧ upd H' D (.lst (acc ++ [v])) D = some (.lst (vs.take (i + 1)))) := by
  refine ⟨_, e, by rw [sizeLine_eq, List.length_take]; omega, same_put s hD, ?_⟩
  rw [upd_same, List.take_succ, hv]
  rfl
theorem take_all {vs : List V} {n : Nat} (h : vs.length ≤ n) : vs.take n = vs := List.take_of_length_le h
end L2
namespace L2
open PySem PySem.Spec PyProof.Rows StX
theorem lc_end {H' : Hp} {D : Addr} {vs : List V} {i : Nat} {v : V} (hv : vs[i]? = some v) : upd H' D (.lst (vs.take i ++ [v])) D = some (.lst (vs.take (i + 1))) := by
  rw [upd_same, List.take_succ, hv]
  rfl
theorem at_int {xs : List Int} {i : Nat} {z : Int} (h : xs[i]? = some z) : atI (xs.map V.int) ((0 : Int) + (i : Nat)) = some (.int z) := by
  rw [Int.zero_add]; exact atI_nat (by rw [List.getElem?_map, h]; rfl)
theorem get_mm {xs : List Int} {f : Int → Int} {i : Nat} {z w : Int} (h : xs[i]? = some z) (e : f z = w) : ((xs.map f).map V.int)[i]? = some (.int w) := by
  rw [List.getElem?_map, List.getElem?_map, h, ← e]; rfl
theorem get_zz {xs ys : List Int} {f : Int → Int → Int} {i : Nat} {z u w : Int} (h : xs[i]? = some z) (g : ys[i]? = some u) (e : f z u = w) : ((List.zipWith f xs ys).map V.int)[i]? = some (.int w) := by
  rw [List.getElem?_map, List.getElem?_zipWith, h, g, ← e]; rfl
end L2
namespace L2
open PySem PySem.Spec PyProof.Rows StX
theorem flat_str (ns : List Str) : (ns.map V.str).all flatV = true := by
  rw [List.all_eq_true]; intro v hv; obtain ⟨z, _, rfl⟩ := List.mem_map.mp hv; rfl
theorem flat_int (ns : List Int) : (ns.map V.int).all flatV = true := by
  rw [List.all_eq_true]; intro v hv; obtain ⟨z, _, rfl⟩ := List.mem_map.mp hv; rfl
theorem inV_strs (x : Str) : ∀ ns : List Str, inV (.str x) (ns.map V.str) = decide (x ∈ ns)
  | [] => rfl
  | n :: ns => by
    have ih := inV_strs x ns
    unfold inV at *
    rw [List.map_cons, List.any_cons, ih]
    by_cases h : x = n
    · subst h
      simp [eqV]
    · have : decide (x ∈ n :: ns) = decide (x ∈ ns) := by simp [h]
      rw [this]
      have e : eqV (.str n) (.str x) = false := by
        simp [eqV]
        intro hh; exact h hh.symm
      first
      | rw [e, Bool.false_or]
      | (have e2 : eqV (.str x) (.str n) = false := by
          simp [eqV]
          exact h
         rw [e2, Bool.false_or])
end L2
namespace L2
open PySem PySem.Spec PyProof.Rows StX
theorem inV_kv (x : Str) (ns : List Str) : inV (kV (Sum.inr x)) (ns.map V.str) = decide (x ∈ ns) := inV_strs x ns
theorem valV_kv (n : Str) : ∀ kvs : List (Str × Int), (valV (kvs.map fun p => ((Sum.inr p.1 : Key), V.int p.2)) (Sum.inr n)) = ((kvs.find? fun p => decide (p.1 = n)).map (·.2)).map V.int
  | [] => rfl
  | p :: kvs => by
    have ih := valV_kv n kvs
    unfold valV at *
    rw [List.map_cons, List.find?_cons, List.find?_cons]
    by_cases h : p.1 = n
    · have e1 : decide ((Sum.inr p.1 : Key) = Sum.inr n) = true := decide_eq_true (by rw [h])
      have e2 : decide (p.1 = n) = true := decide_eq_true h
      simp only [e1, e2]
      rfl
    · have e1 : decide ((Sum.inr p.1 : Key) = Sum.inr n) = false := decide_eq_false (fun e => h (by injection e))
      have e2 : decide (p.1 = n) = false := decide_eq_false h
      simp only [e1, e2]
      exact ih
end L2
namespace L2
open PySem PySem.Spec PyProof.Rows StX
theorem dpStrs {K : PySem.W.Frag} {H : Hp} : ∀ xs : List Str, DpAll K H (xs.map V.str) (xs.map PyData.str)
  | [] => .nil
  | x :: xs => .cons (.str x) (dpStrs xs)
theorem eqvStrs : ∀ xs ys : List Str, PyData.eqvAll (xs.map PyData.str) (ys.map PyData.str) = decide (xs = ys)
  | [], [] => by simp [PyData.eqvAll]
  | [], _ :: _ => by simp [PyData.eqvAll]
  | _ :: _, [] => by simp [PyData.eqvAll]
  | x :: xs, y :: ys => by
    simp only [List.map_cons, PyData.eqvAll, eqvStrs xs ys, PyData.eqv]
    by_cases h : x = y
    · subst h; simp
    · simp [h]
theorem eqvSL (xs ys : List Str) : PyData.eqv (.list (xs.map PyData.str)) (.list (ys.map PyData.str)) = decide (xs = ys) := by simp only [PyData.eqv]; exact eqvStrs xs ys
theorem eqvST (xs ys : List Str) : PyData.eqv (.tuple (xs.map PyData.str)) (.tuple (ys.map PyData.str)) = decide (xs = ys) := by simp only [PyData.eqv]; exact eqvStrs xs ys
theorem eqvSL0 (xs : List Str) : PyData.eqv (.list (xs.map PyData.str)) (.list []) = decide (xs = []) := eqvSL xs []
theorem layStrs : ∀ xs : List Str, (∀ s ∈ xs, PyData.strOk s = true) → PyData.canLayAll0 (xs.map PyData.str) = true
  | [], _ => rfl
  | x :: xs, h => by
    show (PyData.strOk x && PyData.canLayAll0 (xs.map PyData.str)) = true
    rw [layStrs xs (fun s hs => h s (List.mem_cons_of_mem _ hs)), h x List.mem_cons_self]; rfl
theorem depStrs : ∀ xs : List Str, PyData.depthAll (xs.map PyData.str) = 0
  | [] => rfl
  | x :: xs => by
    simp only [List.map_cons, PyData.depthAll, depStrs xs, PyData.depth]
    rfl
theorem shSL {xs : List Str} (h : ∀ s ∈ xs, PyData.strOk s = true) : SeqAt.shaped (.list (xs.map PyData.str)) = true := by
  unfold SeqAt.shaped
  simp only [PyData.canLay0, PyData.depth, layStrs xs h, depStrs]
  rfl
theorem shST {xs : List Str} (h : ∀ s ∈ xs, PyData.strOk s = true) : SeqAt.shaped (.tuple (xs.map PyData.str)) = true := by
  unfold SeqAt.shaped
  simp only [PyData.canLay0, PyData.depth, layStrs xs h, depStrs]
  rfl
theorem at_ex {α : Type} {xs : List α} {r : Int} (h0 : 0 ≤ r) (h1 : r < xs.length) : ∃ c, atI xs r = some c := by
  obtain ⟨n, rfl⟩ : ∃ n : Nat, r = (n : Int) := ⟨r.toNat, by omega⟩
  exact ⟨xs[n]'(by omega), atI_nat (List.getElem?_eq_getElem (by omega))⟩
end L2
namespace L2
open PySem PySem.Spec PyProof.Rows StX
theorem but_same {H H1 H2 : Hp} {d : Addr} (s : Same H H1) (hd : H d = none) (b : SameBut d H1 H2) : Same H H2 := fun q o e => b q o (fun z => by rw [z, hd] at e; cases e) (s q o e)
end L2
namespace L2
open PySem PySem.Spec PyProof.Rows StX
theorem but_free {p q : Addr} {H H' : Hp} (s : SameBut p H H') (n : q ≠ p) (h : H' q = none) : H q = none := by
  cases e : H q with
  | none => rfl
  | some o => rw [s q o n e] at h; cases h
end L2
namespace L2
open PySem PySem.Spec PyProof.Rows StX
theorem erase_perm {α : Type} : ∀ (l : List α) (i : Nat) (h : i < l.length), (l[i] :: l.eraseIdx i).Perm l
  | a :: l, 0, _ => .refl _
  | a :: l, i + 1, h => by
    have hi : i < l.length := by simpa using h
    have ih := erase_perm l i hi
    show (l[i]'hi :: a :: l.eraseIdx i).Perm (a :: l)
    exact (List.Perm.swap _ _ _).trans (ih.cons a)
theorem map_erase {α β : Type} (f : α → β) : ∀ (l : List α) (i : Nat), (l.map f).eraseIdx i = (l.eraseIdx i).map f
  | [], _ => by simp
  | a :: l, 0 => rfl
  | a :: l, i + 1 => by
    show f a :: (l.map f).eraseIdx i = f a :: (l.eraseIdx i).map f
    rw [map_erase f l i]
end L2
namespace L2
open PySem PySem.Spec PyProof.Rows StX
theorem at_ref {L : List Addr} {w : Nat} (h : w < L.length) : atI (L.map V.ref) ((0 : Int) + (w : Nat)) = some (.ref (L.getD w 0)) := by
  rw [Int.zero_add]
  refine atI_nat ?_
  rw [List.getElem?_map, List.getElem?_eq_getElem h, List.getD_eq_getElem?_getD, List.getElem?_eq_getElem h]
  rfl
theorem str_ok {s : Str} (h : s.cps.all (· < 0x110000) = true) : PyData.strOk s = true := h
end L2
namespace L2
open PySem PySem.Spec PyProof.Rows StX
theorem eqv00 : PyData.eqv (.list []) (.list []) = true := by simp [PyData.eqv, PyData.eqvAll]
end L2
namespace L2
open PySem PySem.Spec PyProof.Rows StX
/-- `if c: R`, where c comes out false: what follows is read once, from any heap that the test may leave -/
theorem skip_if (G : Hp → Prop) {c : TT} {R rest : TS} {D : Ends} {σ : L2.St} {H : Hp} (h : ∀ Q : Bool → Hp → Prop, (∀ H', G H' → Q false H') → c σ H Q) (k : ∀ H', G H' → rest D σ H') : tSeq (tIfS c R tNext) rest D σ H :=
  h _ fun H' g => iteF (k H' g)
theorem skip_last (G : Hp → Prop) {c : TT} {R : TS} {D : Ends} {σ : L2.St} {H : Hp} (h : ∀ Q : Bool → Hp → Prop, (∀ H', G H' → Q false H') → c σ H Q) (k : ∀ H', G H' → D.nx σ H') : tIfS c R tNext D σ H :=
  h _ fun H' g => iteF (k H' g)
end L2
/-! notes: their trees, their texts, and what a reader from the left finds -/
namespace GN
open PySem TL
inductive N where
  | non
  | wrd (w : List Nat)
  | num (i : Int)
  | tup (ns : List N)
/-- the signs of an integer -/
def numT (i : Int) : List Nat := tl (Str.ofString (toString i))
mutual
def N.txt : N → List Nat
  | .non => [45]
  | .wrd w => w
  | .num i => numT i
  | .tup ns => 40 :: (N.txts ns ++ [41])
def N.txts : List N → List Nat
  | [] => []
  | n :: ns => N.txt n ++ N.more ns
def N.more : List N → List Nat
  | [] => []
  | n :: ns => 32 :: (N.txt n ++ N.more ns)
end
mutual
def N.dep : N → Nat
  | .non => 0
  | .wrd _ => 0
  | .num _ => 0
  | .tup ns => 1 + N.deps ns
def N.deps : List N → Nat
  | [] => 0
  | n :: ns => max (N.dep n) (N.deps ns)
end
mutual
def N.sz : N → Nat
  | .non => 1
  | .wrd _ => 1
  | .num _ => 1
  | .tup ns => 1 + N.szs ns
def N.szs : List N → Nat
  | [] => 0
  | n :: ns => N.sz n + N.szs ns
end
def wcs : List Nat := tl (Str.ofString "abcdefghijklmnopqrstuvwxyz0123456789-:")
def lets : List Nat := tl (Str.ofString "abcdefghijklmnopqrstuvwxyz")
def digs : List Nat := tl (Str.ofString "0123456789")
def WOk (w : List Nat) : Prop := w.length ≤ 24 ∧ ∃ c r, w = c :: r ∧ c ∈ lets ∧ ∀ d ∈ r, d ∈ wcs
mutual
def N.ok : N → Prop
  | .non => True
  | .wrd w => WOk w
  | .num i => i.natAbs < 10 ^ 200
  | .tup ns => N.oks ns
def N.oks : List N → Prop
  | [] => True
  | n :: ns => N.ok n ∧ N.oks ns
end
theorem oks_mem : ∀ {ns : List N}, N.oks ns ↔ ∀ n ∈ ns, N.ok n
  | [] => by simp [N.oks]
  | n :: ns => by simp [N.oks, oks_mem (ns := ns)]
theorem deps_le {k : Nat} : ∀ {ns : List N}, N.deps ns ≤ k ↔ ∀ n ∈ ns, N.dep n ≤ k
  | [] => by simp [N.deps]
  | n :: ns => by simp [N.deps, Nat.max_le, deps_le (ns := ns)]
theorem lets_wcs {c : Nat} (h : c ∈ lets) : c ∈ wcs := by
  have : ∀ c ∈ lets, c ∈ wcs := by decide +kernel
  exact this c h
theorem WOk.all {w : List Nat} (h : WOk w) : ∀ d ∈ w, d ∈ wcs := by
  obtain ⟨_, c, r, rfl, hc, hr⟩ := h
  intro d hd
  rcases List.mem_cons.mp hd with e | hd
  · rw [e]; exact lets_wcs hc
  · exact hr d hd
/-! ### the integer's signs -/
theorem numT_nat (m : Nat) : numT (m : Int) = numL m := tl_num m
theorem numT_neg (m : Nat) (h : 0 < m) : numT (-(m : Int)) = 45 :: numL m := by
  obtain ⟨k, rfl⟩ : ∃ k, m = k + 1 := ⟨m - 1, by omega⟩
  have e : (-((k + 1 : Nat) : Int)) = Int.negSucc k := rfl
  unfold numT
  rw [e, tl_ofString]
  show ("-" ++ Nat.repr (k + 1)).toList.map Char.toNat = _
  rw [String.toList_append, Nat.toList_repr, List.map_append]
  rfl
theorem numL_zero : numL 0 = [48] := numL_lt (by decide)
/-- the first sign of a number is no nought -/
theorem numL_head : ∀ (m : Nat), 0 < m → ∃ c r, numL m = c :: r ∧ 49 ≤ c ∧ c ≤ 57 := by
  intro m
  induction m using Nat.strongRecOn with
  | _ m ih =>
    intro h0
    by_cases h : m < 10
    · exact ⟨48 + m, [], numL_lt h, by omega, by omega⟩
    · obtain ⟨c, r, e, h1, h2⟩ := ih (m / 10) (by omega) (by omega)
      exact ⟨c, r ++ [48 + m % 10], by rw [numL_step (by omega), e]; rfl, h1, h2⟩
theorem digs_of {c : Nat} (h : 48 ≤ c ∧ c ≤ 57) : c ∈ digs := by
  have : ∀ d : Fin 10, 48 + d.val ∈ digs := by decide +kernel
  have e := this ⟨c - 48, by omega⟩
  have : 48 + (c - 48) = c := by omega
  rw [← this]; exact e
theorem digs_range {c : Nat} (h : c ∈ digs) : 48 ≤ c ∧ c ≤ 57 := by
  have : ∀ c ∈ digs, 48 ≤ c ∧ c ≤ 57 := by decide +kernel
  exact this c h
theorem numL_digs (m : Nat) : ∀ c ∈ numL m, c ∈ digs := fun c h => digs_of (numL_digits m c h)
/-! ### a reader from the left -/
inductive R where
  | bad (i : Nat)
  | got (n : N) (i : Nat)
def isN (t : List Nat) (i : Nat) : Bool := match t[i]? with
  | some c => decide (49 ≤ c ∧ c ≤ 57)
  | none => false
def run (cs : List Nat) (most : Nat) (t : List Nat) (i : Nat) : Nat := i + (((t.drop i).take most).takeWhile fun c => decide (c ∈ cs)).length
def cut (t : List Nat) (i j : Nat) : List Nat := (t.drop i).take (j - i)
def val (w : List Nat) : Int := (intText? ⟨w.toArray⟩).getD 0
def rnumF (t : List Nat) (i : Nat) : Nat := if t[i]? = some 45 then i + 1 else i
def rnum (t : List Nat) (i : Nat) : R :=
  if t[i]? = some 48 then .got (.num 0) (i + 1)
  else if isN t (rnumF t i) = true then .got (.num (val (cut t i (run digs 200 t (rnumF t i))))) (run digs 200 t (rnumF t i)) else .bad (rnumF t i)
def rleaf (t : List Nat) (i : Nat) : R := match t[i]? with
  | none => .bad i
  | some c => if c ∈ lets then .got (.wrd (cut t i (run wcs 24 t i))) (run wcs 24 t i)
    else if c = 45 ∧ isN t (i + 1) = false then .got .non (i + 1) else rnum t i
def rloop (f : Nat → R) (t : List Nat) : Nat → Nat → List N → R
  | 0, i, _ => .bad i
  | m + 1, i, acc => match f (i + 1) with
    | .bad b => .bad b
    | .got n j => if t[j]? = some 32 then rloop f t m j (acc ++ [n]) else if t[j]? = some 41 then .got (.tup (acc ++ [n])) (j + 1) else .bad j
def rpart (t : List Nat) : Nat → Nat → R
  | 0, i => if t[i]? = some 40 then .bad i else rleaf t i
  | r + 1, i => if t[i]? = some 40 then (if t[i + 1]? = some 41 then .got (.tup []) (i + 2) else rloop (rpart t r) t (t.length - i) i []) else rleaf t i
/-! ### what it finds in a text -/
def Delim (s : List Nat) : Prop := s = [] ∨ (∃ r, s = 32 :: r) ∨ ∃ r, s = 41 :: r
theorem at_zero (pre : List Nat) (c : Nat) (l : List Nat) : (pre ++ c :: l)[pre.length]? = some c := by
  rw [List.getElem?_append_right (Nat.le_refl _), Nat.sub_self]; rfl
theorem at_pre (pre l : List Nat) (j : Nat) : (pre ++ l)[pre.length + j]? = l[j]? := by
  rw [List.getElem?_append_right (by omega)]; congr 1; omega
theorem takeWhile_run {p : Nat → Bool} : ∀ {w suf : List Nat} {most : Nat}, (∀ c ∈ w, p c = true) → w.length ≤ most → (suf = [] ∨ ∃ c s, suf = c :: s ∧ p c = false) → ((w ++ suf).take most).takeWhile p = w
  | [], suf, most, _, _, hs => by
    rw [List.nil_append]
    rcases hs with rfl | ⟨c, s, rfl, h⟩
    · rw [List.take_nil, List.takeWhile_nil]
    · cases most with
      | zero => rfl
      | succ m => rw [List.take_succ_cons, List.takeWhile_cons, h]; rfl
  | c :: w, suf, 0, _, hl, _ => absurd hl (by simp)
  | c :: w, suf, most + 1, hw, hl, hs => by
    rw [List.cons_append, List.take_succ_cons, List.takeWhile_cons, hw c List.mem_cons_self]
    show c :: _ = _
    rw [takeWhile_run (fun d hd => hw d (List.mem_cons_of_mem _ hd)) (by simpa using hl) hs]
theorem run_eq {cs : List Nat} {most : Nat} {pre w suf : List Nat} (hw : ∀ c ∈ w, c ∈ cs) (hl : w.length ≤ most) (hs : suf = [] ∨ ∃ c s, suf = c :: s ∧ c ∉ cs) :
    run cs most (pre ++ (w ++ suf)) pre.length = pre.length + w.length := by
  unfold run
  rw [List.drop_left, takeWhile_run (fun c hc => decide_eq_true (hw c hc)) hl]
  rcases hs with h | ⟨c, s, h, hn⟩
  · exact .inl h
  · exact .inr ⟨c, s, h, decide_eq_false hn⟩
theorem cut_eq (pre w suf : List Nat) : cut (pre ++ (w ++ suf)) pre.length (pre.length + w.length) = w := by
  unfold cut
  rw [List.drop_left, Nat.add_sub_cancel_left, List.take_left]
theorem Delim.out {s : List Nat} (h : Delim s) : s = [] ∨ ∃ c r, s = c :: r ∧ c ∉ wcs ∧ c ∉ digs ∧ (49 ≤ c ∧ c ≤ 57 → False) := by
  rcases h with h | ⟨r, h⟩ | ⟨r, h⟩
  · exact .inl h
  · exact .inr ⟨32, r, h, by decide +kernel, by decide +kernel, by omega⟩
  · exact .inr ⟨41, r, h, by decide +kernel, by decide +kernel, by omega⟩
theorem Delim.w {s : List Nat} (h : Delim s) : s = [] ∨ ∃ c r, s = c :: r ∧ c ∉ wcs := by
  rcases h.out with h | ⟨c, r, h, a, _⟩
  · exact .inl h
  · exact .inr ⟨c, r, h, a⟩
theorem Delim.d {s : List Nat} (h : Delim s) : s = [] ∨ ∃ c r, s = c :: r ∧ c ∉ digs := by
  rcases h.out with h | ⟨c, r, h, _, a, _⟩
  · exact .inl h
  · exact .inr ⟨c, r, h, a⟩
theorem Delim.n {s pre : List Nat} (h : Delim s) : isN (pre ++ s) pre.length = false := by
  unfold isN
  rcases h.out with rfl | ⟨c, r, rfl, _, _, a⟩
  · rw [List.append_nil, List.getElem?_eq_none (Nat.le_refl _)]
  · rw [at_zero]; exact decide_eq_false a
theorem val_pos {m : Nat} (h : m < 10 ^ 200) : val (numL m) = (m : Int) := by
  have hl := numL_len (n := m) (k := 200) (by decide) h
  unfold val
  have e : intText? (⟨(numL m).toArray⟩ : Str) = some ((NumText.digitsVal (numL m) : Nat) : Int) :=
    intText_digits (x := ⟨(numL m).toArray⟩) (numL_digits m) (numL_ne m) (by rw [len_tl, tl_mk]; omega)
  rw [e, numL_val]; rfl
theorem val_neg {m : Nat} (h : m < 10 ^ 200) : val (45 :: numL m) = -(m : Int) := by
  have hl := numL_len (n := m) (k := 200) (by decide) h
  unfold val
  have e : intText? (⟨(45 :: numL m).toArray⟩ : Str) = some (-((NumText.digitsVal (numL m) : Nat) : Int)) :=
    intText_neg (x := ⟨(45 :: numL m).toArray⟩) (cs := numL m) rfl (numL_digits m) (numL_ne m) (by rw [len_tl, tl_mk, List.length_cons]; omega)
  rw [e, numL_val]; rfl
theorem lets_range {c : Nat} (h : c ∈ lets) : 97 ≤ c ∧ c ≤ 122 := by
  have : ∀ c ∈ lets, 97 ≤ c ∧ c ≤ 122 := by decide +kernel
  exact this c h
theorem rleaf_num (i : Int) (h : i.natAbs < 10 ^ 200) (pre suf : List Nat) (hd : Delim suf) : rleaf (pre ++ (numT i ++ suf)) pre.length = .got (.num i) (pre.length + (numT i).length) := by
  rcases Int.lt_trichotomy i 0 with hn | rfl | hp
  · obtain ⟨m, rfl⟩ : ∃ m : Nat, i = -(m : Int) := ⟨i.natAbs, by omega⟩
    have hm : 0 < m := by omega
    have hb : m < 10 ^ 200 := by simpa using h
    rw [numT_neg m hm]
    obtain ⟨c, r, e, h1, h2⟩ := numL_head m hm
    unfold rleaf
    rw [List.cons_append, at_zero]
    have hl : (45 : Nat) ∉ lets := by decide +kernel
    have e1 : pre ++ 45 :: (numL m ++ suf) = (pre ++ [45]) ++ (numL m ++ suf) := by simp
    have e2 : pre.length + 1 = (pre ++ [45]).length := by simp
    have hN : isN (pre ++ 45 :: (numL m ++ suf)) (pre.length + 1) = true := by
      unfold isN
      rw [e1, e2, e, List.cons_append, at_zero]
      exact decide_eq_true ⟨h1, h2⟩
    show (if (45 : Nat) ∈ lets then _ else if (45 : Nat) = 45 ∧ isN _ (pre.length + 1) = false then _ else rnum _ _) = _
    rw [if_neg hl, if_neg (by rw [hN]; intro z; cases z.2)]
    unfold rnum
    have hF : rnumF (pre ++ 45 :: (numL m ++ suf)) pre.length = pre.length + 1 := by unfold rnumF; rw [at_zero, if_pos rfl]
    rw [hF, hN, at_zero, if_neg (by decide), if_pos rfl]
    have hrun : run digs 200 (pre ++ 45 :: (numL m ++ suf)) (pre.length + 1) = pre.length + 1 + (numL m).length := by
      rw [e1, e2]; exact run_eq (numL_digs m) (numL_len (by decide) hb) hd.d
    rw [hrun]
    have hcut : cut (pre ++ 45 :: (numL m ++ suf)) pre.length (pre.length + 1 + (numL m).length) = 45 :: numL m := by
      have := cut_eq pre (45 :: numL m) suf
      rw [List.length_cons, List.cons_append] at this
      rw [← this]; congr 1; omega
    rw [hcut, val_neg hb, List.length_cons]
    congr 1
    omega
  · have e0 : numT 0 = [48] := (numT_nat 0).trans numL_zero
    rw [e0]
    unfold rleaf
    rw [List.cons_append, at_zero]
    have hl : (48 : Nat) ∉ lets := by decide +kernel
    show (if (48 : Nat) ∈ lets then _ else if (48 : Nat) = 45 ∧ _ then _ else rnum _ _) = _
    rw [if_neg hl, if_neg (by intro z; exact absurd z.1 (by decide))]
    unfold rnum
    rw [at_zero, if_pos rfl]
    rfl
  · obtain ⟨m, rfl⟩ : ∃ m : Nat, i = (m : Int) := ⟨i.natAbs, by omega⟩
    have hm : 0 < m := by omega
    have hb : m < 10 ^ 200 := by simpa using h
    rw [numT_nat m]
    obtain ⟨c, r, e, h1, h2⟩ := numL_head m hm
    have hat : (pre ++ (numL m ++ suf))[pre.length]? = some c := by rw [e, List.cons_append, at_zero]
    have hN : isN (pre ++ (numL m ++ suf)) pre.length = true := by
      unfold isN
      rw [hat]
      exact decide_eq_true ⟨h1, h2⟩
    unfold rleaf
    rw [hat]
    have hl : c ∉ lets := fun z => by have := lets_range z; omega
    show (if c ∈ lets then _ else if c = 45 ∧ _ then _ else rnum _ _) = _
    rw [if_neg hl, if_neg (by intro z; omega)]
    unfold rnum
    have hF : rnumF (pre ++ (numL m ++ suf)) pre.length = pre.length := by
      unfold rnumF; rw [hat, if_neg (by intro z; injection z; omega)]
    rw [hF, hN, hat, if_neg (by intro z; injection z; omega), if_pos rfl]
    rw [run_eq (numL_digs m) (numL_len (by decide) hb) hd.d, cut_eq, val_pos hb]
theorem rleaf_wrd {w : List Nat} (h : WOk w) (pre suf : List Nat) (hd : Delim suf) : rleaf (pre ++ (w ++ suf)) pre.length = .got (.wrd w) (pre.length + w.length) := by
  have ha := h.all
  obtain ⟨hl, c, r, e, hc, _⟩ := h
  have hat : (pre ++ (w ++ suf))[pre.length]? = some c := by rw [e, List.cons_append, at_zero]
  unfold rleaf
  rw [hat]
  show (if c ∈ lets then _ else _) = _
  rw [if_pos hc, run_eq ha hl hd.w, cut_eq]
theorem rleaf_non (pre suf : List Nat) (hd : Delim suf) : rleaf (pre ++ 45 :: suf) pre.length = .got .non (pre.length + 1) := by
  unfold rleaf
  rw [at_zero]
  have hl : (45 : Nat) ∉ lets := by decide +kernel
  have hN : isN (pre ++ 45 :: suf) (pre.length + 1) = false := by
    have := hd.n (pre := pre ++ [45])
    rw [List.length_append] at this
    rw [show pre ++ 45 :: suf = pre ++ [45] ++ suf by simp]
    exact this
  show (if (45 : Nat) ∈ lets then _ else if (45 : Nat) = 45 ∧ _ then _ else rnum _ _) = _
  rw [if_neg hl, if_pos ⟨rfl, hN⟩]
/-- the first sign of a note's text -/
theorem txt_head : ∀ {n : N}, n.ok → ∃ c r, n.txt = c :: r ∧ c ≠ 41 ∧ c ≠ 32
  | .non, _ => ⟨45, [], rfl, by decide, by decide⟩
  | .wrd w, h => by
    obtain ⟨_, c, r, e, hc, _⟩ := (show WOk w from h)
    have := lets_range hc
    exact ⟨c, r, e, by omega, by omega⟩
  | .num i, _ => by
    show ∃ c r, numT i = c :: r ∧ _
    rcases Int.lt_or_le i 0 with hn | hp
    · obtain ⟨m, rfl⟩ : ∃ m : Nat, i = -(m : Int) := ⟨i.natAbs, by omega⟩
      exact ⟨45, _, numT_neg m (by omega), by decide, by decide⟩
    · obtain ⟨m, rfl⟩ : ∃ m : Nat, i = (m : Int) := ⟨i.natAbs, by omega⟩
      rw [numT_nat]
      cases e : numL m with
      | nil => exact absurd e (numL_ne m)
      | cons c r =>
        have := numL_digits m c (by rw [e]; exact List.mem_cons_self)
        exact ⟨c, r, rfl, by omega, by omega⟩
  | .tup ns, _ => ⟨40, _, rfl, by decide, by decide⟩
theorem not40 {n : N} (h : n.ok) (ht : ∀ ns, n ≠ .tup ns) : ∃ c r, n.txt = c :: r ∧ c ≠ 40 := by
  cases n with
  | non => exact ⟨45, [], rfl, by decide⟩
  | wrd w =>
    obtain ⟨_, c, r, e, hc, _⟩ := (show WOk w from h)
    have := lets_range hc
    exact ⟨c, r, e, by omega⟩
  | num i =>
    show ∃ c r, numT i = c :: r ∧ _
    rcases Int.lt_or_le i 0 with hn | hp
    · obtain ⟨m, rfl⟩ : ∃ m : Nat, i = -(m : Int) := ⟨i.natAbs, by omega⟩
      exact ⟨45, _, numT_neg m (by omega), by decide⟩
    · obtain ⟨m, rfl⟩ : ∃ m : Nat, i = (m : Int) := ⟨i.natAbs, by omega⟩
      rw [numT_nat]
      cases e : numL m with
      | nil => exact absurd e (numL_ne m)
      | cons c r =>
        have := numL_digits m c (by rw [e]; exact List.mem_cons_self)
        exact ⟨c, r, rfl, by omega⟩
  | tup ns => exact absurd rfl (ht ns)
theorem more_len : ∀ ns : List N, ns.length ≤ (N.more ns).length
  | [] => Nat.le_refl _
  | n :: ns => by
    have := more_len ns
    simp only [N.more, List.length_cons, List.length_append]
    omega
def Reads (f : Nat → R) (t : List Nat) (n : N) : Prop := ∀ pre suf, t = pre ++ (n.txt ++ suf) → Delim suf → f pre.length = .got n (pre.length + n.txt.length)
theorem loop_txt {f : Nat → R} {t : List Nat} : ∀ (ns : List N) (n : N) (acc : List N) (m i : Nat) (pre suf : List Nat), (∀ x ∈ n :: ns, Reads f t x) → i + 1 = pre.length → ns.length < m → t = pre ++ (n.txt ++ (N.more ns ++ 41 :: suf)) →
    rloop f t m i acc = .got (.tup (acc ++ n :: ns)) (pre.length + n.txt.length + (N.more ns).length + 1)
  | [], n, acc, 0, _, _, _, _, _, hm, _ => absurd hm (by simp)
  | [], n, acc, m + 1, i, pre, suf, hr, hi, hm, ht => by
    have h := hr n List.mem_cons_self pre (41 :: suf) (by rw [ht]; rfl) (.inr (.inr ⟨_, rfl⟩))
    have hat : t[pre.length + n.txt.length]? = some 41 := by
      rw [ht, ← List.append_assoc]
      have := at_zero (pre ++ n.txt) 41 suf
      rw [List.length_append] at this
      exact this
    unfold rloop
    rw [hi, h]
    show (if t[pre.length + n.txt.length]? = some 32 then _ else if t[pre.length + n.txt.length]? = some 41 then _ else _) = _
    rw [hat, if_neg (by decide), if_pos rfl]
    rfl
  | n2 :: ns, n, acc, 0, _, _, _, _, _, hm, _ => absurd hm (by simp)
  | n2 :: ns, n, acc, m + 1, i, pre, suf, hr, hi, hm, ht => by
    have h := hr n List.mem_cons_self pre (32 :: (n2.txt ++ N.more ns) ++ 41 :: suf) (by rw [ht]; rfl) (.inr (.inl ⟨_, rfl⟩))
    have ht2 : t = (pre ++ n.txt ++ [32]) ++ (n2.txt ++ (N.more ns ++ 41 :: suf)) := by
      rw [ht]; simp [N.more]
    have hl2 : (pre ++ n.txt ++ [32]).length = pre.length + n.txt.length + 1 := by simp [Nat.add_assoc]
    have hat : t[pre.length + n.txt.length]? = some 32 := by
      rw [ht2, List.append_assoc]
      have := at_zero (pre ++ n.txt) 32 (n2.txt ++ (N.more ns ++ 41 :: suf))
      rw [List.length_append] at this
      exact this
    unfold rloop
    rw [hi, h]
    show (if t[pre.length + n.txt.length]? = some 32 then _ else _) = _
    rw [if_pos hat]
    rw [loop_txt ns n2 (acc ++ [n]) m (pre.length + n.txt.length) (pre ++ n.txt ++ [32]) suf (fun x hx => hr x (List.mem_cons_of_mem _ hx)) hl2.symm (by simpa using hm) ht2]
    rw [hl2, List.append_assoc]
    congr 1
    simp only [N.more, List.length_cons, List.length_append]
    omega
theorem rpart_leaf {t : List Nat} {r i : Nat} (h : t[i]? ≠ some 40) : rpart t r i = rleaf t i := by
  cases r <;> (unfold rpart; rw [if_neg h])
mutual
theorem rpart_txt {t : List Nat} : ∀ (n : N) (r : Nat), n.ok → n.dep ≤ r → Reads (rpart t r) t n
  | .non, r, _, _ => fun pre suf ht hd => by
    subst ht
    rw [rpart_leaf (by show (pre ++ 45 :: suf)[pre.length]? ≠ _; rw [at_zero]; decide)]
    exact rleaf_non pre suf hd
  | .wrd w, r, h, _ => fun pre suf ht hd => by
    subst ht
    obtain ⟨c, l, e, h40⟩ := not40 (n := .wrd w) h (fun _ z => nomatch z)
    rw [rpart_leaf (by rw [e, List.cons_append, at_zero]; intro z; injection z; contradiction)]
    exact rleaf_wrd h pre suf hd
  | .num i, r, h, _ => fun pre suf ht hd => by
    subst ht
    obtain ⟨c, l, e, h40⟩ := not40 (n := .num i) h (fun _ z => nomatch z)
    rw [rpart_leaf (by rw [e, List.cons_append, at_zero]; intro z; injection z; contradiction)]
    exact rleaf_num i h pre suf hd
  | .tup ns, 0, _, hr => absurd hr (by simp [N.dep])
  | .tup [], r + 1, _, _ => fun pre suf ht _ => by
    subst ht
    have h1 : (pre ++ ((N.tup []).txt ++ suf))[pre.length + 1]? = some 41 := by rw [at_pre]; rfl
    unfold rpart
    rw [if_pos (by show (pre ++ 40 :: _)[pre.length]? = _; rw [at_zero]), if_pos h1]
    rfl
  | .tup (n :: ns), r + 1, h, hr => fun pre suf ht hd => by
    have ih := rparts_txt (t := t) (n :: ns) r h (by simp only [N.dep] at hr; omega)
    have hn : n.ok := (oks_mem.mp h) n List.mem_cons_self
    obtain ⟨c, l, e, c41, _⟩ := txt_head hn
    have ht2 : t = (pre ++ [40]) ++ (n.txt ++ (N.more ns ++ 41 :: suf)) := by
      rw [ht]; simp [N.txt, N.txts]
    have hl2 : (pre ++ [40]).length = pre.length + 1 := by simp
    have h0 : t[pre.length]? = some 40 := by rw [ht]; show (pre ++ 40 :: _)[pre.length]? = _; rw [at_zero]
    have h1 : t[pre.length + 1]? ≠ some 41 := by
      rw [ht2, ← hl2, e, List.cons_append, at_zero]; intro z; injection z; contradiction
    have htl : t.length = pre.length + 1 + (n.txt.length + ((N.more ns).length + (suf.length + 1))) := by rw [ht2]; simp [Nat.add_assoc]; omega
    have hml := more_len ns
    unfold rpart
    rw [if_pos h0, if_neg h1, loop_txt ns n [] (t.length - pre.length) pre.length (pre ++ [40]) suf ih hl2.symm (by omega) ht2, hl2]
    congr 1
    simp only [N.txt, N.txts, List.length_cons, List.length_append, List.length_nil]
    omega
theorem rparts_txt {t : List Nat} : ∀ (ns : List N) (r : Nat), N.oks ns → N.deps ns ≤ r → ∀ x ∈ ns, Reads (rpart t r) t x
  | [], _, _, _ => fun x hx => absurd hx List.not_mem_nil
  | n :: ns, r, h, hr => fun x hx => by
    simp only [N.deps] at hr
    rcases List.mem_cons.mp hx with e | hx
    · rw [e]; exact rpart_txt n r h.1 (by omega)
    · exact rparts_txt ns r h.2 (by omega) x hx
end
/-! ### sizes -/
mutual
theorem sz_le : ∀ (n : N), n.ok → n.sz ≤ n.txt.length
  | .non, _ => by simp [N.sz, N.txt]
  | .wrd w, h => by
    obtain ⟨c, r, e, _⟩ := txt_head (n := .wrd w) h
    rw [e]; simp [N.sz]
  | .num i, h => by
    obtain ⟨c, r, e, _⟩ := txt_head (n := .num i) h
    rw [e]; simp [N.sz]
  | .tup ns, h => by
    have := szs_le ns h
    simp only [N.sz, N.txt, List.length_cons, List.length_append, List.length_nil]
    omega
theorem szs_le : ∀ (ns : List N), N.oks ns → N.szs ns ≤ (N.txts ns).length
  | [], _ => Nat.le_refl _
  | n :: ns, h => by
    have h1 := sz_le n h.1
    have h2 := szm_le ns h.2
    simp only [N.szs, N.txts, List.length_append]
    omega
theorem szm_le : ∀ (ns : List N), N.oks ns → N.szs ns ≤ (N.more ns).length
  | [], _ => Nat.le_refl _
  | n :: ns, h => by
    have h1 := sz_le n h.1
    have h2 := szm_le ns h.2
    simp only [N.szs, N.more, List.length_append, List.length_cons]
    omega
end
theorem join_more : ∀ (ns : List N) (n : N), joinL [32] ((n :: ns).map N.txt) = n.txt ++ N.more ns
  | [], n => by show n.txt = n.txt ++ []; rw [List.append_nil]
  | n2 :: ns, n => by
    have ih := join_more ns n2
    show n.txt ++ ([32] ++ joinL [32] ((n2 :: ns).map N.txt)) = _
    rw [ih]; rfl
theorem join_txts : ∀ ns : List N, joinL [32] (ns.map N.txt) = N.txts ns
  | [] => rfl
  | n :: ns => join_more ns n
theorem join_N (ns : List N) : Txt.join ⟨#[32]⟩ (ns.map fun n => SX.S n.txt) = SX.S (N.txts ns) := by
  have e : (ns.map fun n => SX.S n.txt) = (ns.map N.txt).map SX.S := by rw [List.map_map]; rfl
  have := SX.join_S [32] (ns.map N.txt)
  rw [join_txts] at this
  rw [e]; exact this
theorem more_sum : ∀ ns : List N, (N.more ns).length = (ns.map fun n => n.txt.length).sum + ns.length
  | [] => rfl
  | n :: ns => by
    simp only [N.more, List.length_cons, List.length_append, more_sum ns, List.map_cons, List.sum_cons]
    omega
theorem txts_sum (ns : List N) : (ns.map fun n => n.txt.length).sum + ns.length ≤ (N.txts ns).length + 1 := by
  cases ns with
  | nil => simp
  | cons n ns =>
    simp only [N.txts, List.length_append, more_sum, List.map_cons, List.sum_cons, List.length_cons]
    omega
theorem mem_txt_le {n : N} : ∀ {ns : List N}, n ∈ ns → n.txt.length ≤ (N.txts ns).length := by
  intro ns h
  have : ∀ ns : List N, n ∈ ns → n.txt.length ≤ (N.more ns).length := by
    intro ns
    induction ns with
    | nil => intro h; cases h
    | cons m ns ih =>
      intro h
      simp only [N.more, List.length_cons, List.length_append]
      rcases List.mem_cons.mp h with e | h
      · rw [e]; omega
      · have := ih h; omega
  cases ns with
  | nil => cases h
  | cons m ns =>
    simp only [N.txts, List.length_append]
    rcases List.mem_cons.mp h with e | h
    · rw [e]; omega
    · have := this ns h; omega
end GN
namespace GN
open PySem TL
theorem run_char {cs : List Nat} {most : Nat} {t : List Nat} {i k : Nat} (hk : k ≤ most) (hin : ∀ j, j < k → ∃ c, t[i + j]? = some c ∧ c ∈ cs) (hout : k = most ∨ t[i + k]? = none ∨ ∃ c, t[i + k]? = some c ∧ c ∉ cs) : run cs most t i = i + k := by
  have hl : ((t.drop i).take k).length = k := by
    rw [List.length_take, List.length_drop]
    cases k with
    | zero => simp
    | succ k =>
      obtain ⟨c, e, _⟩ := hin k (by omega)
      have := (List.getElem?_eq_some_iff.mp e).1
      omega
  have hall : ∀ c ∈ (t.drop i).take k, decide (c ∈ cs) = true := by
    intro c hc
    obtain ⟨j, hj⟩ := List.mem_iff_getElem?.mp hc
    have hjk : j < k := by have := (List.getElem?_eq_some_iff.mp hj).1; omega
    rw [List.getElem?_take_of_lt hjk, List.getElem?_drop] at hj
    obtain ⟨d, e, hd⟩ := hin j hjk
    rw [hj] at e; cases e
    exact decide_eq_true hd
  have split : t.drop i = (t.drop i).take k ++ t.drop (i + k) := by
    have := List.take_append_drop k (t.drop i)
    rw [List.drop_drop] at this
    exact this.symm
  unfold run
  by_cases hm : k = most
  · subst hm
    have : ((t.drop i).take k).takeWhile (fun c => decide (c ∈ cs)) = (t.drop i).take k := by
      exact PySem.NumText.takeWhile_all hall
    rw [this, hl]
  · rw [split, takeWhile_run hall (by omega), hl]
    rcases hout with h | h | ⟨c, h, hn⟩
    · exact absurd h hm
    · exact .inl (List.drop_eq_nil_iff.mpr (List.getElem?_eq_none_iff.mp h))
    · have hlt := (List.getElem?_eq_some_iff.mp h).1
      refine .inr ⟨c, t.drop (i + k + 1), ?_, decide_eq_false hn⟩
      rw [List.drop_eq_getElem_cons hlt, (List.getElem?_eq_some_iff.mp h).2]
theorem takeWhile_le {p : Nat → Bool} : ∀ (l : List Nat), (l.takeWhile p).length ≤ l.length
  | [] => Nat.le_refl _
  | c :: l => by
    rw [List.takeWhile_cons]
    split
    · have := takeWhile_le (p := p) l; simp; omega
    · simp
theorem run_le {cs : List Nat} {most : Nat} {t : List Nat} {i : Nat} (h : i ≤ t.length) : run cs most t i ≤ t.length := by
  unfold run
  have := takeWhile_le (p := fun c => decide (c ∈ cs)) ((t.drop i).take most)
  rw [List.length_take, List.length_drop] at this
  omega
theorem run_gt {cs : List Nat} {most : Nat} {t : List Nat} {i c : Nat} (h : t[i]? = some c) (hc : c ∈ cs) (hm : 0 < most) : i < run cs most t i := by
  unfold run
  obtain ⟨hlt, e⟩ := List.getElem?_eq_some_iff.mp h
  obtain ⟨m, rfl⟩ : ∃ m, most = m + 1 := ⟨most - 1, by omega⟩
  rw [List.drop_eq_getElem_cons hlt, e, List.take_succ_cons, List.takeWhile_cons, if_pos (decide_eq_true hc)]
  simp
theorem isN_at {t : List Nat} {i : Nat} (h : isN t i = true) : ∃ c, t[i]? = some c ∧ 49 ≤ c ∧ c ≤ 57 := by
  unfold isN at h
  cases e : t[i]? with
  | none => rw [e] at h; cases h
  | some c => rw [e] at h; exact ⟨c, rfl, of_decide_eq_true h⟩
theorem rnumF_ge {t : List Nat} {i : Nat} : i ≤ rnumF t i := by unfold rnumF; split <;> omega
theorem rnum_pos {t : List Nat} {i j : Nat} {n : N} (hi : i < t.length) (h : rnum t i = .got n j) : i < j ∧ j ≤ t.length := by
  unfold rnum at h
  split at h
  · cases h; omega
  · split at h
    · rename_i hN
      cases h
      obtain ⟨c, e, h1, h2⟩ := isN_at hN
      have := run_gt (most := 200) e (digs_of ⟨by omega, h2⟩) (by decide)
      have hl := (List.getElem?_eq_some_iff.mp e).1
      have := run_le (cs := digs) (most := 200) (Nat.le_of_lt hl)
      have := rnumF_ge (t := t) (i := i)
      omega
    · cases h
theorem rleaf_pos {t : List Nat} {i j : Nat} {n : N} (h : rleaf t i = .got n j) : i < j ∧ j ≤ t.length := by
  unfold rleaf at h
  cases e : t[i]? with
  | none => rw [e] at h; cases h
  | some c =>
    rw [e] at h
    have hl := (List.getElem?_eq_some_iff.mp e).1
    revert h
    show (if c ∈ lets then _ else if c = 45 ∧ isN t (i + 1) = false then _ else rnum t i) = _ → _
    split
    · rename_i hc
      intro h; cases h
      have := run_gt (most := 24) e (lets_wcs hc) (by decide)
      have := run_le (cs := wcs) (most := 24) (Nat.le_of_lt hl)
      omega
    · split
      · intro h; cases h; omega
      · exact fun h => rnum_pos hl h
theorem rloop_pos {f : Nat → R} {t : List Nat} (hf : ∀ i n j, f i = .got n j → i < j ∧ j ≤ t.length) : ∀ m i acc n j, rloop f t m i acc = .got n j → i < j ∧ j ≤ t.length
  | 0, i, acc, n, j, h => by unfold rloop at h; cases h
  | m + 1, i, acc, n, j, h => by
    unfold rloop at h
    cases e : f (i + 1) with
    | bad b => rw [e] at h; cases h
    | got k a =>
      rw [e] at h
      have p := hf _ _ _ e
      revert h
      show (if t[a]? = some 32 then _ else if t[a]? = some 41 then _ else _) = _ → _
      split
      · intro h
        have := rloop_pos hf m a _ n j h
        omega
      · split
        · rename_i h41
          intro h; cases h
          have := (List.getElem?_eq_some_iff.mp h41).1
          omega
        · intro h; cases h
def rtup (t : List Nat) (r i : Nat) : R := if t[i + 1]? = some 41 then .got (.tup []) (i + 2) else rloop (rpart t r) t (t.length - i) i []
def rtupS (t : List Nat) : Nat → Nat → R
  | 0, i => .bad i
  | r + 1, i => rtup t r i
theorem rpart_eq (t : List Nat) (r i : Nat) : rpart t r i = if t[i]? = some 40 then rtupS t r i else rleaf t i := by
  cases r <;> rfl
theorem rpart_pos {t : List Nat} : ∀ r i n j, rpart t r i = .got n j → i < j ∧ j ≤ t.length
  | 0, i, n, j, h => by
    rw [rpart_eq] at h
    split at h
    · cases h
    · exact rleaf_pos h
  | r + 1, i, n, j, h => by
    rw [rpart_eq] at h
    split at h
    · have h' : rtup t r i = .got n j := h
      unfold rtup at h'
      split at h'
      · rename_i h41
        cases h'
        have := (List.getElem?_eq_some_iff.mp h41).1
        omega
      · exact rloop_pos (rpart_pos r) _ _ _ _ _ h'
    · exact rleaf_pos h
end GN
namespace GN
open PySem TL
theorem takeWhile_pre {p : Nat → Bool} : ∀ (l : List Nat) (m : Nat), l.take ((l.take m).takeWhile p).length = (l.take m).takeWhile p
  | [], _ => by simp
  | c :: l, 0 => rfl
  | c :: l, m + 1 => by
    rw [List.take_succ_cons, List.takeWhile_cons]
    by_cases h : p c = true
    · rw [if_pos h, List.length_cons, List.take_succ_cons, takeWhile_pre l m]
    · rw [if_neg h]; rfl
theorem cut_run (cs : List Nat) (most : Nat) (t : List Nat) (i : Nat) : cut t i (run cs most t i) = ((t.drop i).take most).takeWhile fun c => decide (c ∈ cs) := by
  unfold cut run
  rw [Nat.add_sub_cancel_left]
  exact takeWhile_pre _ _
theorem takeWhile_mem {p : Nat → Bool} : ∀ {l : List Nat} {c : Nat}, c ∈ l.takeWhile p → p c = true
  | d :: l, c, h => by
    rw [List.takeWhile_cons] at h
    by_cases hp : p d = true
    · rw [if_pos hp] at h
      rcases List.mem_cons.mp h with e | h
      · rw [e]; exact hp
      · exact takeWhile_mem h
    · rw [if_neg hp] at h; cases h
theorem cut_all {cs : List Nat} {most : Nat} {t : List Nat} {i : Nat} : ∀ c ∈ cut t i (run cs most t i), c ∈ cs := fun c h => by
  rw [cut_run] at h
  exact of_decide_eq_true (takeWhile_mem h)
theorem cut_len {cs : List Nat} {most : Nat} {t : List Nat} {i : Nat} : (cut t i (run cs most t i)).length ≤ most := by
  rw [cut_run]
  have := takeWhile_le (p := fun c => decide (c ∈ cs)) ((t.drop i).take most)
  rw [List.length_take] at this
  omega
theorem cut_cons {t : List Nat} {i e c : Nat} (h : t[i]? = some c) (he : i < e) : cut t i e = c :: cut t (i + 1) e := by
  unfold cut
  obtain ⟨hlt, h2⟩ := List.getElem?_eq_some_iff.mp h
  rw [List.drop_eq_getElem_cons hlt, h2]
  obtain ⟨k, hk⟩ : ∃ k, e - i = k + 1 := ⟨e - i - 1, by omega⟩
  rw [hk, List.take_succ_cons]
  congr 2
  omega
/-- what is read as a number is one -/
theorem num_read {t : List Nat} {i : Nat} (h : isN t (rnumF t i) = true) : intText? (SX.S (cut t i (run digs 200 t (rnumF t i)))) = some (val (cut t i (run digs 200 t (rnumF t i)))) ∧ (cut t i (run digs 200 t (rnumF t i))).length ≤ 201 := by
  obtain ⟨c, hc, h1, h2⟩ := isN_at h
  have hgt := run_gt (most := 200) hc (digs_of (c := c) ⟨by omega, h2⟩) (by decide)
  have hall : NumText.AllDigits (cut t (rnumF t i) (run digs 200 t (rnumF t i))) := fun d hd => digs_range (cut_all d hd)
  have hne : cut t (rnumF t i) (run digs 200 t (rnumF t i)) ≠ [] := by rw [cut_cons hc hgt]; simp
  have hl := cut_len (cs := digs) (most := 200) (t := t) (i := rnumF t i)
  by_cases h45 : t[i]? = some 45
  · have hF : rnumF t i = i + 1 := by unfold rnumF; rw [if_pos h45]
    rw [hF] at hgt hall hne hl ⊢
    rw [cut_cons h45 (by omega)]
    have e : intText? (SX.S (45 :: cut t (i + 1) (run digs 200 t (i + 1)))) = _ := intText_neg (x := SX.S (45 :: cut t (i + 1) (run digs 200 t (i + 1)))) rfl hall hne (by rw [SX.S_len, List.length_cons]; omega)
    refine ⟨?_, by rw [List.length_cons]; omega⟩
    unfold val
    rw [e]; rfl
  · have hF : rnumF t i = i := by unfold rnumF; rw [if_neg h45]
    rw [hF] at hgt hall hne hl ⊢
    have e : intText? (SX.S (cut t i (run digs 200 t i))) = _ := intText_digits (x := SX.S (cut t i (run digs 200 t i))) hall hne (by rw [SX.S_len]; omega)
    refine ⟨?_, by omega⟩
    unfold val
    rw [e]; rfl
end GN
namespace GN
open PySem TL
theorem fold_lt : ∀ (cs : List Nat) (a : Nat), NumText.AllDigits cs → cs.foldl (fun acc c => acc * 10 + (c - 48)) a < (a + 1) * 10 ^ cs.length
  | [], a, _ => by simp
  | c :: cs, a, h => by
    have h1 := fold_lt cs (a * 10 + (c - 48)) h.tail
    have h2 := h.head
    rw [List.foldl_cons, List.length_cons, Nat.pow_succ]
    refine Nat.lt_of_lt_of_le h1 ?_
    have : a * 10 + (c - 48) + 1 ≤ (a + 1) * 10 := by omega
    calc (a * 10 + (c - 48) + 1) * 10 ^ cs.length ≤ ((a + 1) * 10) * 10 ^ cs.length := Nat.mul_le_mul_right _ this
      _ = (a + 1) * (10 ^ cs.length * 10) := by rw [Nat.mul_assoc, Nat.mul_comm 10]
theorem digits_lt {cs : List Nat} (h : NumText.AllDigits cs) : NumText.digitsVal cs < 10 ^ cs.length := by
  have := fold_lt cs 0 h
  rw [Nat.zero_add, Nat.one_mul] at this
  exact this
theorem fold_rep (x : Nat) : ∀ (n : Nat) (a : Array Nat), ((List.replicate n #[x]).foldl (· ++ ·) a).toList = a.toList ++ List.replicate n x
  | 0, a => by simp
  | n + 1, a => by
    rw [List.replicate_succ, List.foldl_cons, fold_rep x n (a ++ #[x]), List.replicate_succ]
    simp
theorem mul_rep (x : Nat) (n : Nat) (h : 1 ≤ n) : tl (Txt.mul ⟨#[x]⟩ (n : Int)) = List.replicate n x := by
  unfold Txt.mul
  rw [if_neg (by omega)]
  by_cases h1 : n = 1
  · subst h1; rfl
  · have e : (((n : Int) == 1) || ((⟨#[x]⟩ : Str).length == 0)) = false := by
      have : (((n : Int)) == 1) = false := by rw [beq_eq_false_iff_ne]; omega
      rw [this]; rfl
    rw [e, if_neg (by decide), Int.toNat_natCast]
    have := fold_rep x n #[]
    rw [show (#[] : Array Nat).toList = [] from rfl, List.nil_append] at this
    exact this
theorem nine {r : Int} (h0 : 0 ≤ r) (h1 : r < 200) : MulOk (Str.ofString "9") (1 + r) ∧ ∃ n : Int, intText? (Txt.mul (Str.ofString "9") (1 + r)) = some n ∧ n.natAbs < 10 ^ 200 ∧ (Txt.mul (Str.ofString "9") (1 + r)).length ≤ 640 := by
  obtain ⟨n, e⟩ : ∃ n : Nat, 1 + r = (n : Int) := ⟨(1 + r).toNat, by omega⟩
  have hn1 : 1 ≤ n := by omega
  have hn2 : n ≤ 200 := by omega
  have e9 : Str.ofString "9" = ⟨#[57]⟩ := by decide +kernel
  rw [e, e9]
  have hT := mul_rep 57 n hn1
  have hL : (Txt.mul ⟨#[57]⟩ (n : Int)).length = n := by rw [len_tl, hT, List.length_replicate]
  have hd : NumText.AllDigits (tl (Txt.mul ⟨#[57]⟩ (n : Int))) := by
    rw [hT]; intro c hc; rw [(List.mem_replicate.mp hc).2]; omega
  refine ⟨⟨?_, fun _ _ => ?_, fun _ _ => ?_⟩, (NumText.digitsVal (tl (Txt.mul ⟨#[57]⟩ (n : Int))) : Nat), ?_, ?_, by rw [hL]; omega⟩
  · rw [Bool.or_eq_false_iff]; exact ⟨decide_eq_false (by omega), decide_eq_false (by omega)⟩
  · show ¬ ((1 : Nat) : Int) > (2 ^ 63 - 1) / (n : Int)
    have : (1 : Int) ≤ (2 ^ 63 - 1) / (n : Int) := by
      rw [Int.le_ediv_iff_mul_le (by omega)]; omega
    omega
  · show Builtin.Str.tooLong (1 * (n : Int).toNat) = false
    rw [Int.toNat_natCast]
    exact decide_eq_false (by rw [sizeLine_eq]; omega)
  · exact intText_digits hd (by rw [show (Txt.mul ⟨#[57]⟩ (n : Int)).cps.toList = _ from hT]; intro z; rw [List.replicate_eq_nil_iff] at z; omega) (by rw [hL]; omega)
  · have := digits_lt hd
    rw [hT, List.length_replicate] at this
    rw [hT]
    show (NumText.digitsVal (List.replicate n 57)) < 10 ^ 200
    exact Nat.lt_of_lt_of_le this (Nat.pow_le_pow_right (by decide) hn2)
end GN
/-! list(zip(a, b)) of two tuples of one length: each pair that came out stays in the list, so that the next one is new -/
namespace GZ
open PySem
section
variable {prog : Program} {w : World} {A : Around} {E : Value → Shared → Prop} {s : Shared} {z TI TO T j1 j2 a b : Addr} {f : Bool} {oT : Obj} {n1 n2 : Nat} {xs ys : Array Value} {x y : Value}
theorem held_item {Q : Value → Shared → Prop} (D : ZipApart z TI TO j1 j2 a b) (hZ : IsZipHeld s.heap z TI TO T f) (hT : s.heap.get? T = some oT) (hP : IsPair s.heap TI (.ref j1) (.ref j2))
    (it1 : s.heap.IsTupleIter j1 a n1) (it2 : s.heap.IsTupleIter j2 b n2) (ta : s.heap.IsTuple a xs) (tb : s.heap.IsTuple b ys) (ex : xs[n1]? = some x) (ey : ys[n2]? = some y)
    (q : ∀ h', IsZipHeld h' z TI TO T true → h'.IsTupleIter j1 a (n1 + 1) → h'.IsTupleIter j2 b (n2 + 1) → IsPair h' s.heap.objs.size x y → (∀ c o, c ≠ z → c ≠ j1 → c ≠ j2 → s.heap.get? c = some o → h'.get? c = some o) →
      Q (.ref s.heap.objs.size) { s with heap := h' }) :
    wpAny (model prog w) A (Builtin.«zip.__next__» ⟨[.ref z], []⟩) (fun fin s' => ∃ v, fin = .done (.ret v) ∧ Q v s') E s := by
  show wpAny (model prog w) A (field (.ref z) 2 >>= _) _ _ _
  refine wpAny_bind (wpAny_field (x := .bool false) hZ rfl rfl ?_)
  show wpAny (model prog w) A (field (.ref z) 3 >>= _) _ _ _
  refine wpAny_bind (wpAny_field (x := .ref TI) hZ rfl rfl (wpAny_bind (wpAny_seqItems hP rfl ?_)))
  show wpAny (model prog w) A (Builtin.SmallTypes.ownedTupleIsFree (.ref z) >>= _) _ _ _
  refine wpAny_bind (wpAny_tupleHeld_zip hZ hT fun u1 Z1 b1 => ?_)
  simp only [Bool.false_eq_true, if_false]
  refine wpAny_bind ?_
  rw [← Array.forIn_toList]
  simp only [List.forIn_cons, List.forIn_nil]
  refine wpAny_bind (wpAny_bind (wpAny_holding ?_))
  show wpAny (model prog w) A (Builtin.SmallTypes.nextOf (.ref j1) >>= _) _ _ _
  have e1 := b1.extBut
  refine wpAny_bind (RZ.nextOf_tuple_item (s := { s with heap := u1 }) (it1.extBut e1 D.i1z) (ta.extBut e1 D.l1z) ex fun u2 I2 b2 => wpAny_pure (wpAny_pure ?_))
  have e2 := b2.extBut
  refine wpAny_bind (wpAny_bind (wpAny_holding ?_))
  show wpAny (model prog w) A (Builtin.SmallTypes.nextOf (.ref j2) >>= _) _ _ _
  refine wpAny_bind (RZ.nextOf_tuple_item (s := { s with heap := u2 }) ((it2.extBut e1 D.i2z).extBut e2 D.i12.symm) ((tb.extBut e1 D.l2z).extBut e2 D.l2i1) ey fun u3 I3 b3 => wpAny_pure (wpAny_pure (wpAny_pure ?_)))
  have e3 := b3.extBut
  show wpAny (model prog w) A (newTuple [x, y] >>= _) _ _ _
  refine wpAny_bind (wpAny_newTuple ?_)
  have sz : u3.objs.size = s.heap.objs.size := (b3.1.trans b2.1).trans b1.1
  have up : ∀ c o, c ≠ z → c ≠ j1 → c ≠ j2 → s.heap.get? c = some o → u3.get? c = some o := fun c o c1 c2 c3 e => e3 _ _ c3 (e2 _ _ c2 (e1 _ _ c1 e))
  refine wpAny_pure ⟨_, rfl, ?_⟩
  show Q (.ref u3.objs.size) _
  have new : IsPair (u3.push { cls := .type "tuple", data := .seq #[x, y] }) u3.objs.size x y := Heap.get?_push_size _ rfl
  rw [sz] at new ⊢
  exact q _ (Heap.get?_push_of_some _ (e3 _ _ D.i2z.symm (e2 _ _ D.i1z.symm Z1))) ((I2.extBut e3 D.i12).at fun o e => Heap.get?_push_of_some _ e) (I3.at fun o e => Heap.get?_push_of_some _ e) new
    fun c o c1 c2 c3 e => Heap.get?_push_of_some _ (up c o c1 c2 c3 e)
theorem held_end {Q : Fin → Shared → Prop} (hh : A.handled = none) (D : ZipApart z TI TO j1 j2 a b) (hZ : IsZipHeld s.heap z TI TO T f) (hT : s.heap.get? T = some oT) (hP : IsPair s.heap TI (.ref j1) (.ref j2))
    (it1 : s.heap.IsTupleIter j1 a n1) (ta : s.heap.IsTuple a xs) (ex : xs[n1]? = none)
    (q : ∀ h' e, (∀ c o, c ≠ z → c ≠ j1 → c ≠ j2 → s.heap.get? c = some o → h'.get? c = some o) → (∃ o, h'.get? e = some o ∧ o.cls = .type "StopIteration") → E (.ref e) { s with heap := h' }) :
    wpAny (model prog w) A (Builtin.«zip.__next__» ⟨[.ref z], []⟩) Q E s := by
  show wpAny (model prog w) A (field (.ref z) 2 >>= _) _ _ _
  refine wpAny_bind (wpAny_field (x := .bool false) hZ rfl rfl ?_)
  show wpAny (model prog w) A (field (.ref z) 3 >>= _) _ _ _
  refine wpAny_bind (wpAny_field (x := .ref TI) hZ rfl rfl (wpAny_bind (wpAny_seqItems hP rfl ?_)))
  show wpAny (model prog w) A (Builtin.SmallTypes.ownedTupleIsFree (.ref z) >>= _) _ _ _
  refine wpAny_bind (wpAny_tupleHeld_zip hZ hT fun u1 Z1 b1 => ?_)
  simp only [Bool.false_eq_true, if_false]
  refine wpAny_bind ?_
  rw [← Array.forIn_toList]
  simp only [List.forIn_cons, List.forIn_nil]
  refine wpAny_bind (wpAny_bind (wpAny_holding ?_))
  show wpAny (model prog w) A (Builtin.SmallTypes.nextOf (.ref j1) >>= _) _ _ _
  have e1 := b1.extBut
  exact wpAny_bind (RZ.nextOf_tuple_end (s := { s with heap := u1 }) hh (it1.extBut e1 D.i1z) (ta.extBut e1 D.l1z) ex fun u2 e b2 he => q u2 e (fun c o c1 c2 _ k => b2 _ _ c2 (e1 _ _ c1 k)) he)
theorem py_item {Q : Option Value → Shared → Prop} (D : ZipApart z TI TO j1 j2 a b) (hZ : IsZipHeld s.heap z TI TO T f) (hT : s.heap.get? T = some oT) (hP : IsPair s.heap TI (.ref j1) (.ref j2))
    (it1 : s.heap.IsTupleIter j1 a n1) (it2 : s.heap.IsTupleIter j2 b n2) (ta : s.heap.IsTuple a xs) (tb : s.heap.IsTuple b ys) (ex : xs[n1]? = some x) (ey : ys[n2]? = some y)
    (q : ∀ h', IsZipHeld h' z TI TO T true → h'.IsTupleIter j1 a (n1 + 1) → h'.IsTupleIter j2 b (n2 + 1) → IsPair h' s.heap.objs.size x y → (∀ c o, c ≠ z → c ≠ j1 → c ≠ j2 → s.heap.get? c = some o → h'.get? c = some o) →
      Q (some (.ref s.heap.objs.size)) { s with heap := h' }) : wpAny (model prog w) A (pyNext (.ref z)) Q E s := by
  have ty : s.TypeIs (.ref z) "zip" := ⟨_, hZ, rfl⟩
  unfold pyNext
  refine wpAny_bind (wpAny_attempt (wpAny_callSpecial?_slot (name := Str.ofString "__next__") ty F.slot_zip_next (wpAny_call_entry F.slot_zip_next ty F.entry_zip_next ?_ (F.args_zip_next_1 _))))
  exact held_item D hZ hT hP it1 it2 ta tb ex ey fun h' c1 c2 c3 c4 c5 => wpAny_pure (q h' c1 c2 c3 c4 c5)
theorem py_end {Q : Option Value → Shared → Prop} (hh : A.handled = none) (D : ZipApart z TI TO j1 j2 a b) (hZ : IsZipHeld s.heap z TI TO T f) (hT : s.heap.get? T = some oT) (hP : IsPair s.heap TI (.ref j1) (.ref j2))
    (it1 : s.heap.IsTupleIter j1 a n1) (ta : s.heap.IsTuple a xs) (ex : xs[n1]? = none)
    (q : ∀ h', (∀ c o, c ≠ z → c ≠ j1 → c ≠ j2 → s.heap.get? c = some o → h'.get? c = some o) → Q none { s with heap := h' }) : wpAny (model prog w) A (pyNext (.ref z)) Q E s := by
  have ty : s.TypeIs (.ref z) "zip" := ⟨_, hZ, rfl⟩
  unfold pyNext
  refine wpAny_bind (wpAny_attempt (wpAny_callSpecial?_slot (name := Str.ofString "__next__") ty F.slot_zip_next (wpAny_call_entry F.slot_zip_next ty F.entry_zip_next (held_end hh D hZ hT hP it1 ta ex fun h' e k he => ?_) (F.args_zip_next_1 _))))
  obtain ⟨o, ho, hc⟩ := he
  exact wpAny_bind (wpAny_isInstance (T := "StopIteration") (b := true) ⟨o, ho, hc⟩ isSubtype_stop (wpAny_pure (q _ k)))
/-- nothing is said of the length of a zip -/
theorem zip_hint {Q : Bool → Shared → Prop} (ty : s.TypeIs (.ref z) "zip") (q : Q true s) : wpAny (model prog w) A (Builtin.List.listLengthHint (.ref z)) Q E s := by
  unfold Builtin.List.listLengthHint
  refine wpAny_bind (wpAny_specialOf ty (r := none) (by rw [typeLookup_type, builtinLookup_eq_fast]; kernel_rfl) ?_)
  refine PySem.W.KFB.if_not rfl (PySem.W.KFB.if_not rfl ?_)
  exact wpAny_bind (wpAny_specialOf ty (r := none) (by rw [typeLookup_type, builtinLookup_eq_fast]; kernel_rfl) (wpAny_pure q))
end
end GZ
namespace L2
open PySem PySem.Spec PyProof.Rows StX
/-- a zip at z over the tuples at a and b, i pairs of which have come out -/
def ZSt (H : Hp) (h : Heap) (z TI TO j1 j2 a b : Addr) (i : Nat) : Prop := IsPair h TI (.ref j1) (.ref j2) ∧ h.IsTupleIter j1 a i ∧ h.IsTupleIter j2 b i ∧ (∃ o, h.get? TO = some o) ∧ ((IsZip h z TI TO .none ∧ ∃ x y, IsPair h TO x y) ∨ ∃ T f p, IsZipHeld h z TI TO T f ∧ H T = some (.tup p))
section
variable {X : Cx} {pins : List (Addr × Obj)} {σ : L2.St} {H : Hp} {s : Shared} {z TI TO j1 j2 a b q : Addr} {i : Nat} {xs ys : List V} {x y : V} {A : Around}
theorem ZSt.keep {H' : Hp} {h h' : Heap} (st : ZSt H h z TI TO j1 j2 a b i) (k : ∀ c ∈ [z, TI, TO, j1, j2], ∀ o, h.get? c = some o → h'.get? c = some o) (t : ∀ T p, H T = some (.tup p) → H' T = some (.tup p)) : ZSt H' h' z TI TO j1 j2 a b i := by
  obtain ⟨c1, c2, c3, ⟨o0, c0⟩, c4⟩ := st
  refine ⟨k TI (by simp) _ c1, c2.at fun o e => k j1 (by simp) o e, c3.at fun o e => k j2 (by simp) o e, ⟨o0, k TO (by simp) _ c0⟩, ?_⟩
  rcases c4 with ⟨e, u, v, e2⟩ | ⟨T, f, p, e, e2⟩
  · exact .inl ⟨k z (by simp) _ e, u, v, k TO (by simp) _ e2⟩
  · exact .inr ⟨T, f, p, k z (by simp) _ e, t T p e2⟩
theorem zip_turn {E : Value → Shared → Prop} {Q : Option Value → Shared → Prop} (I : Inv X pins σ H s) (D : ZipApart z TI TO j1 j2 a b) (fp : ∀ c ∈ [z, TI, TO, j1, j2], FpOk X pins H c) (st : ZSt H s.heap z TI TO j1 j2 a b i)
    (qa : SqT X.K H a xs) (qb : SqT X.K H b ys) (ex : xs[i]? = some x) (ey : ys[i]? = some y)
    (k : ∀ T h', H T = none → (∀ c ∈ [z, TI, TO, j1, j2], T ≠ c) → Inv X pins σ (upd H T (.tup [x, y])) { s with heap := h' } → ZSt (upd H T (.tup [x, y])) h' z TI TO j1 j2 a b (i + 1) → Q (some (.ref T)) { s with heap := h' }) :
    wpAny (model X.prog X.w) A (pyNext (.ref z)) Q E s := by
  obtain ⟨P1, t1, t2, ⟨o0, c0⟩, c4⟩ := st
  obtain ⟨us, rv, pa, _⟩ := I.tuple qa
  obtain ⟨ws, rw_, pb, _⟩ := I.tuple qb
  obtain ⟨u, hu, ru⟩ := rv.get ex
  obtain ⟨v, hv, rw2⟩ := rw_.get ey
  have fr : H s.heap.objs.size = none := I.hok.fresh (Nat.le_refl _)
  have made : ∀ h', IsPair h' s.heap.objs.size u v → (∀ c o, c ∉ [z, TI, TO, j1, j2] → s.heap.get? c = some o → h'.get? c = some o) → Inv X pins σ (upd H s.heap.objs.size (.tup [x, y])) { s with heap := h' } := fun h' e kp =>
    I.turnedNew (t' := s.toks) (ch := [z, TI, TO, j1, j2]) kp fp (Nat.le_refl _) ⟨by show 2 ≤ sizeLine; decide, [u, v], .cons ru (.cons rw2 .nil), ⟨_, e, rfl, _, rfl⟩⟩
  have lt : ∀ {c o}, s.heap.get? c = some o → s.heap.objs.size ≠ c := fun e => Nat.ne_of_gt (Heap.lt_size e)
  have lt1 : s.heap.objs.size ≠ j1 := let ⟨_, e, _⟩ := t1; lt e
  have lt2 : s.heap.objs.size ≠ j2 := let ⟨_, e, _⟩ := t2; lt e
  rcases c4 with ⟨Z, u0, v0, P2⟩ | ⟨T0, f, p, Z, hT0⟩
  · refine RZ.pyNext_zipT_item D Z P1 P2 t1 t2 pa pb (x := u) (y := v) (by simpa using hu) (by simpa using hv) fun h' Z' P2' t1' t2' e _ kp => ?_
    refine k s.heap.objs.size h' fr ?_ (made h' e fun c o hc => kp c o (fun w => hc (by simp [w])) (fun w => hc (by simp [w])) (fun w => hc (by simp [w])) fun w => hc (by simp [w])) ⟨kp _ _ D.TIz D.TITO D.TIi1 D.TIi2 P1, t1', t2', ⟨_, P2'⟩, .inr ⟨_, false, _, Z', upd_same⟩⟩
    intro c hc
    simp only [List.mem_cons, List.not_mem_nil, or_false] at hc
    rcases hc with e | e | e | e | e
    · rw [e]; exact lt Z
    · rw [e]; exact lt P1
    · rw [e]; exact lt P2
    · rw [e]; exact lt1
    · rw [e]; exact lt2
  · obtain ⟨_, _, ⟨oT, eT, _⟩, _⟩ := I.tuple (show SqT X.K H T0 p from SqT.of hT0)
    refine GZ.py_item D Z eT P1 t1 t2 pa pb (x := u) (y := v) (by simpa using hu) (by simpa using hv) fun h' Z' t1' t2' e kp => ?_
    refine k s.heap.objs.size h' fr ?_ (made h' e fun c o hc => kp c o (fun w => hc (by simp [w])) (fun w => hc (by simp [w])) fun w => hc (by simp [w])) ⟨kp _ _ D.TIz D.TIi1 D.TIi2 P1, t1', t2', ⟨o0, kp _ _ D.TOz D.TOi1 D.TOi2 c0⟩, .inr ⟨T0, true, p, Z', by rw [upd_ne (ne_of_none hT0 fr)]; exact hT0⟩⟩
    intro c hc
    simp only [List.mem_cons, List.not_mem_nil, or_false] at hc
    rcases hc with e | e | e | e | e
    · rw [e]; exact lt Z
    · rw [e]; exact lt P1
    · rw [e]; exact lt c0
    · rw [e]; exact lt1
    · rw [e]; exact lt2
theorem zip_stop {E : Value → Shared → Prop} {Q : Option Value → Shared → Prop} (hh : A.handled = none) (I : Inv X pins σ H s) (D : ZipApart z TI TO j1 j2 a b) (fp : ∀ c ∈ [z, TI, TO, j1, j2], FpOk X pins H c) (st : ZSt H s.heap z TI TO j1 j2 a b i)
    (qa : SqT X.K H a xs) (qb : SqT X.K H b ys) (ex : xs.length ≤ i) (k : ∀ h', Inv X pins σ H { s with heap := h' } → Q none { s with heap := h' }) : wpAny (model X.prog X.w) A (pyNext (.ref z)) Q E s := by
  obtain ⟨P1, t1, t2, ⟨o0, c0⟩, c4⟩ := st
  obtain ⟨us, rv, pa, _⟩ := I.tuple qa
  obtain ⟨ws, rw_, pb, _⟩ := I.tuple qb
  have el := rv.length
  have no : us.toArray[i]? = none := by simp; omega
  rcases c4 with ⟨Z, u0, v0, P2⟩ | ⟨T0, f, p, Z, hT0⟩
  · exact RZ.pyNext_zipT_end hh D Z P1 P2 t1 t2 pa pb (.inl no) fun h' kp => k h' (I.turnedL (t' := s.toks) (ch := [z, TI, TO, j1, j2]) (fun c o hc => kp c o (fun w => hc (by simp [w])) (fun w => hc (by simp [w])) (fun w => hc (by simp [w])) fun w => hc (by simp [w])) fp)
  · obtain ⟨_, _, ⟨oT, eT, _⟩, _⟩ := I.tuple (show SqT X.K H T0 p from SqT.of hT0)
    exact GZ.py_end hh D Z eT P1 t1 pa no fun h' kp => k h' (I.turnedL (t' := s.toks) (ch := [z, TI, TO, j1, j2]) (fun c o hc => kp c o (fun w => hc (by simp [w])) (fun w => hc (by simp [w])) fun w => hc (by simp [w])) fp)
/-- the pairs at ts are those of xs and ys, as far as they go -/
def Pairs (H : Hp) (xs ys : List V) (ts : List Addr) : Prop := ∀ (j : Nat) (T : Addr) (x y : V), ts[j]? = some T → xs[j]? = some x → ys[j]? = some y → H T = some (.tup [x, y])
theorem zl_loop {Rs : Result → Shared → Prop} {H0 : Hp} (hh : A.in1.handled = none) (D : ZipApart z TI TO j1 j2 a b) (el : xs.length = ys.length) (sz : xs.length ≤ sizeLine) (qa : SqT X.K H0 a xs) (qb : SqT X.K H0 b ys) (fq : H0 q = none)
    (done : ∀ (ts : List Addr) (H : Hp) (s : Shared), Inv X pins σ H s → Same H0 H → H q = some (.lst (ts.map V.ref)) → ts.length = xs.length → Pairs H xs ys ts → Rs (.ok (.ret .none)) s) (err : ∀ e s, X.xe e s → Rs (.error e) s) :
    ∀ (m i : Nat) (ts : List Addr) (H : Hp) (s : Shared), m + i = xs.length → Inv X pins σ H s → (∀ c ∈ [z, TI, TO, j1, j2], FpOk X pins H c ∧ c ≠ q) → ZSt H s.heap z TI TO j1 j2 a b i → Same H0 H → H q = some (.lst (ts.map V.ref)) → ts.length = i → Pairs H xs ys ts →
      codeAny (model X.prog X.w) A (.builtin "list.extend.loop" ⟨[.ref q, .ref z, .none], []⟩) Rs s := by
  intro m
  induction m with
  | zero =>
    intro i ts H s hm I fp st sm hq hl hp
    refine codeAny_builtin PySem.F.entry_extend_loop ?_
    rw [Around.under_plainId PySem.F.plain_extend_loop]
    show wpAny (model X.prog X.w) A.in1 (pyNext (.ref z) >>= _) _ _ s
    refine wpAny_bind (zip_stop hh I D (fun c hc => (fp c hc).1) st (sm.seqT qa) (sm.seqT qb) (by omega) fun h' I' => wpAny_pure ?_)
    exact done ts H _ I' sm hq (by omega) hp
  | succ m ih =>
    intro i ts H s hm I fp st sm hq hl hp
    refine codeAny_builtin PySem.F.entry_extend_loop ?_
    rw [Around.under_plainId PySem.F.plain_extend_loop]
    show wpAny (model X.prog X.w) A.in1 (pyNext (.ref z) >>= _) _ _ s
    obtain ⟨x, ex⟩ : ∃ x, xs[i]? = some x := ⟨_, List.getElem?_eq_getElem (by omega)⟩
    obtain ⟨y, ey⟩ : ∃ y, ys[i]? = some y := ⟨_, List.getElem?_eq_getElem (by omega)⟩
    refine wpAny_bind (zip_turn I D (fun c hc => (fp c hc).1) st (sm.seqT qa) (sm.seqT qb) ex ey fun T h' fT nT I' st' => ?_)
    show wpAny (model X.prog X.w) A.in1 (updateSeq q (·.push (.ref T)) >>= _) _ _ _
    have nTq : q ≠ T := fun w => by rw [w, fT] at hq; cases hq
    have hq' : upd H T (.tup [x, y]) q = some (.lst (ts.map V.ref)) := by rw [upd_ne nTq]; exact hq
    obtain ⟨z0, its, n, r2, hl2, e⟩ := I'.lstM hq'
    rw [List.length_map] at hl2 z0
    have big : its.toArray.size < sizeLine := by rw [List.size_toArray]; omega
    refine wpAny_bind (wpAny_updateSeq e rfl (wpAny_pure ⟨plainId_quiet PySem.F.plain_extend_loop _, ?_⟩) (Nat.le_of_lt big) (by rw [Array.size_push]; omega))
    have I2 := I'.lset (its' := its ++ [.ref T]) (ys := (ts ++ [T]).map V.ref) (t' := s.toks) hq' e (f := (·.push (.ref T))) (by simp) (by rw [List.map_append]; exact r2.append (.cons rfl .nil)) (by rw [List.length_map, List.length_append, List.length_singleton]; omega)
    have sm1 : Same H (upd H T (.tup [x, y])) := same_new fT
    have sm2 : Same H0 (upd (upd H T (.tup [x, y])) q (.lst ((ts ++ [T]).map V.ref))) := same_put (sm.trans sm1) fq
    have keepT : ∀ T' p, H T' = some (.tup p) → upd (upd H T (.tup [x, y])) q (.lst ((ts ++ [T]).map V.ref)) T' = some (.tup p) := fun T' p e' => by
      rw [upd_ne (fun w => by rw [w, hq] at e'; cases e')]
      exact sm1 _ _ e'
    refine ih (i + 1) (ts ++ [T]) _ _ (by omega) I2 ?_ ?_ sm2 upd_same (by rw [List.length_append, hl]; rfl) ?_
    · intro c hc
      obtain ⟨⟨f1, f2⟩, nc⟩ := fp c hc
      exact ⟨⟨by rw [upd_ne nc, upd_ne (nT c hc).symm]; exact f1, f2⟩, nc⟩
    · refine st'.keep (fun c hc o e' => ?_) fun T' p e' => ?_
      · exact (Heap.get?_update_other _ _ (fp c hc).2.symm).trans e'
      · rw [upd_ne (fun w => by rw [w, hq'] at e'; cases e')]; exact e'
    · intro j T' x' y' h1 h2 h3
      by_cases hj : j < i
      · rw [List.getElem?_append_left (by omega)] at h1
        exact keepT _ _ (hp j T' x' y' h1 h2 h3)
      · have hj' : j = ts.length := by
          have := (List.getElem?_eq_some_iff.mp h1).1
          rw [List.length_append] at this
          simp at this
          omega
        rw [hj', List.getElem?_append_right (Nat.le_refl _), Nat.sub_self] at h1
        cases h1
        rw [hj', hl] at h2 h3
        rw [ex] at h2; rw [ey] at h3
        cases h2; cases h3
        rw [upd_ne nTq.symm]; exact upd_same
/-- list(z) of a zip that has not begun -/
theorem zip_list {Q : VK} (hh : X.A.handled = none) (I : Inv X pins σ H s) (D : ZipApart z TI TO j1 j2 a b) (fp : ∀ c ∈ [z, TI, TO, j1, j2], FpOk X pins H c) (st : ZSt H s.heap z TI TO j1 j2 a b 0) (Z : IsZip s.heap z TI TO .none)
    (qa : SqT X.K H a xs) (qb : SqT X.K H b ys) (el : xs.length = ys.length)
    (k : ∀ (q : Addr) (ts : List Addr) (H' : Hp), H q = none → Same H H' → H' q = some (.lst (ts.map V.ref)) → ts.length = xs.length → Pairs H' xs ys ts → Q (.ref q) H') :
    wpAny (model X.prog X.w) X.A (call (.type "list") [.ref z]) (EP X pins σ Q) X.xe s := by
  obtain ⟨_, _, _, sz⟩ := I.tuple qa
  have fr : H s.heap.objs.size = none := I.hok.fresh (Nat.le_refl _)
  have nq : ∀ c ∈ [z, TI, TO, j1, j2], c ≠ s.heap.objs.size := by
    obtain ⟨P1, ⟨_, t1, _⟩, ⟨_, t2, _⟩, ⟨o0, c0⟩, _⟩ := st
    intro c hc
    simp only [List.mem_cons, List.not_mem_nil, or_false] at hc
    rcases hc with e | e | e | e | e
    · rw [e]; exact Nat.ne_of_lt (Heap.lt_size Z)
    · rw [e]; exact Nat.ne_of_lt (Heap.lt_size P1)
    · rw [e]; exact Nat.ne_of_lt (Heap.lt_size c0)
    · rw [e]; exact Nat.ne_of_lt (Heap.lt_size t1)
    · rw [e]; exact Nat.ne_of_lt (Heap.lt_size t2)
  refine callType_codes (Q₁ := fun obj s1 => obj = .ref s.heap.objs.size ∧ s1 = { s with heap := s.heap.push { cls := .type "list", data := .seq #[] } }) PySem.F.called_list (PySem.F.typeCall_list_1 _) PySem.F.entry_list_init (code_list_new _ ⟨rfl, rfl⟩) fun obj s1 h1 => ?_
  obtain ⟨rfl, rfl⟩ := h1
  have eS : (s.heap.push { cls := .type "list", data := .seq #[] }).get? s.heap.objs.size = some { cls := .type "list", data := .seq #[] } := Heap.get?_push_size _ rfl
  refine ⟨⟨_, eS, rfl⟩, PySem.F.args_list_init_2 _ _, ?_⟩
  have I1 : Inv X pins σ (upd H s.heap.objs.size (.lst [])) { s with heap := s.heap.push { cls := .type "list", data := .seq #[] } } := I.lnew (its := []) (t' := s.toks) .nil (Nat.zero_le _)
  show wpAny (model X.prog X.w) _ (do let old ← Builtin.List.listItems (.ref s.heap.objs.size); Builtin.List.listUpdate (.ref s.heap.objs.size) (fun _ => #[]); letGo old.toList.reverse; Builtin.List.listExtendWith (.ref s.heap.objs.size) (.ref z) .none) _ _ _
  refine wpAny_bind ?_
  unfold Builtin.List.listItems
  refine wpAny_bind (wpAny_seqItems eS rfl (wpAny_pure ?_))
  show wpAny (model X.prog X.w) _ (updateSeq s.heap.objs.size (fun _ => #[]) >>= fun _ => letGo (#[] : Array Value).toList.reverse >>= fun _ => Builtin.List.listExtendWith (.ref s.heap.objs.size) (.ref z) .none) _ _ _
  refine wpAny_bind (wpAny_updateSeq eS rfl (wpAny_bind (wpAny_letGo ?_)))
  have I2 := I1.lset (f := fun _ => #[]) (its := []) (its' := []) (ys := []) (t' := s.toks) upd_same eS rfl .nil (Nat.zero_le _)
  rw [upd_upd] at I2
  have hq : upd H s.heap.objs.size (.lst []) s.heap.objs.size = some (.lst (([] : List Addr).map V.ref)) := upd_same
  have s0 : Same H (upd H s.heap.objs.size (.lst [])) := same_new fr
  have fp2 : ∀ c ∈ [z, TI, TO, j1, j2], FpOk X pins (upd H s.heap.objs.size (.lst [])) c ∧ c ≠ s.heap.objs.size := fun c hc => ⟨⟨by rw [upd_ne (nq c hc)]; exact (fp c hc).1, (fp c hc).2⟩, nq c hc⟩
  have st2 : ∀ h', (∀ c ∈ [z, TI, TO, j1, j2], ∀ o, s.heap.get? c = some o → h'.get? c = some o) → ZSt (upd H s.heap.objs.size (.lst [])) h' z TI TO j1 j2 a b 0 := fun h' kp => st.keep kp fun T p e => s0 _ _ e
  have kp2 : ∀ c ∈ [z, TI, TO, j1, j2], ∀ o, s.heap.get? c = some o → ((s.heap.push { cls := .type "list", data := .seq #[] }).update s.heap.objs.size (Obj.mapSeq fun _ => #[])).get? c = some o := fun c hc o e =>
    (Heap.get?_update_other _ _ (nq c hc).symm).trans (Heap.get?_push_of_some _ e)
  have Z2 := kp2 z (by simp) _ Z
  have ne : s.heap.objs.size ≠ z := (nq z (by simp)).symm
  have ty : ∀ tk, ({ s with heap := (s.heap.push { cls := .type "list", data := .seq #[] }).update s.heap.objs.size (Obj.mapSeq fun _ => #[]), toks := tk } : Shared).TypeIs (.ref z) "zip" := fun tk => ⟨_, Z2, rfl⟩
  have go : ∀ (h' : Heap) (t' : Nat), Inv X pins σ (upd H s.heap.objs.size (.lst [])) { s with heap := h', toks := t' } → (∀ c ∈ [z, TI, TO, j1, j2], ∀ o, s.heap.get? c = some o → h'.get? c = some o) →
      codeAny (model X.prog X.w) X.A.in1 (.builtin "list.extend.loop" ⟨[.ref s.heap.objs.size, .ref z, .none], []⟩) (wants (fun r s2 => r = .none ∧ EP X pins σ Q (.ref s.heap.objs.size) s2) X.xe) { s with heap := h', toks := t' } := fun h' t' I' kp =>
    zl_loop (A := X.A.in1) (H0 := H) (q := s.heap.objs.size) hh D el sz qa qb fr (fun ts H' s' I' sm hq' hl hp => ⟨rfl, .ref s.heap.objs.size, H', I', rfl, k _ ts H' fr sm hq' hl hp⟩) (fun e s' he => he) xs.length 0 [] _ _ (by omega) I' fp2 (st2 h' kp) s0 hq rfl (fun j T x y h => by cases h)
  unfold Builtin.List.listExtendWith
  refine wpAny_bind (wpAny_typeOf (ty s.toks) ?_)
  have n1 : Builtin.List.listSameRef (.ref s.heap.objs.size) (.ref z) = false := by simp [Builtin.List.listSameRef, ne]
  have n2 : (Value.type "zip" == Value.type "list") = false := by decide
  have n3 : (Value.type "zip" == Value.type "tuple") = false := by decide
  simp only [n1, n2, n3, Bool.or_false, Bool.false_eq_true, if_false]
  refine wpAny_bind (wpAny_pyIter_zip Z2 (wpAny_bind (wpAny_holding (GZ.zip_hint (ty s.toks) ?_))))
  refine wpAny_ite_split (fun _ => ?_) (fun w => absurd rfl w)
  obtain ⟨z0, its, n, r3, hl3, e3⟩ := I2.lstM upd_same
  cases r3
  refine wpAny_bind (wpAny_rule (wpAny_bind ?_))
  show wpAny (model X.prog X.w) _ (updateSeq s.heap.objs.size (·.push .none) >>= fun _ => updateSeq s.heap.objs.size (·.pop)) _ _ _
  refine wpAny_bind (wpAny_updateSeq e3 rfl ?_)
  have I3 := I2.lset (f := (·.push Value.none)) (its' := [Value.none]) (ys := [.non]) (t' := s.toks) upd_same e3 (by simp) (.cons rfl .nil) (by rw [List.length_singleton, sizeLine_eq]; decide)
  obtain ⟨z4, its4, n4, r4, hl4, e4⟩ := I3.lstM upd_same
  obtain ⟨u4, rfl, ru4⟩ := r4.one
  refine wpAny_updateSeq e4 rfl ?_ (by show 1 ≤ sizeLine; rw [sizeLine_eq]; decide) (by show 0 ≤ sizeLine + 1; exact Nat.zero_le _)
  have I4 := I3.lset (f := (·.pop)) (its := [u4]) (its' := []) (ys := []) (t' := s.toks) upd_same e4 (by rfl) .nil (Nat.zero_le _)
  rw [upd_upd, upd_upd] at I4
  refine wpAny_pure ⟨plainId_quiet PySem.F.plain_extend_loop _, go _ _ I4 fun c hc o e => ?_⟩
  have nc := (nq c hc).symm
  exact (Heap.get?_update_other _ _ nc).trans ((Heap.get?_update_other _ _ nc).trans (kp2 c hc o e))
end
/-- list(zip(a, b)) -/
def tLz (K : PySem.W.Frag) (ta : TA) : TE := fun σ H Q => ta σ H fun vs H1 => ∃ a b xs ys, vs = [.ref a, .ref b] ∧ SqT K H1 a xs ∧ SqT K H1 b ys ∧ xs.length = ys.length ∧
  ∀ (q : Addr) (ts : List Addr) (H' : Hp), H1 q = none → Same H1 H' → H' q = some (.lst (ts.map V.ref)) → ts.length = xs.length → Pairs H' xs ys ts → Q (.ref q) H'
theorem pe_listZip {X : Cx} {e e2 : Expr} {ta : TA} {p p2 pos pos2 : Pos} (hc : X.calm = true) (hg : Gl X "list") (hm : X.mg "list" = none) (hg2 : Gl X "zip") (hm2 : X.mg "zip" = none) (ha : PA X [e, e2] ta)
    (hs : starEach [e, e2] X.env = (false, eval e X.env) :: starEach [e2] X.env := by rfl) (hpl : (backTo pos2 (starEach [e2] X.env)).any (·.1) = false := by rfl)
    (na : starEach [.Call (.Name "zip" p2) [e, e2] [] pos2] X.env = (false, eval (.Call (.Name "zip" p2) [e, e2] [] pos2) X.env) :: starEach [] X.env := by rfl) :
    PE X (.Call (.Name "list" p) [.Call (.Name "zip" p2) [e, e2] [] pos2] [] pos) (tLz X.K ta) := by
  refine ⟨fun pins s σ H Q I h => ?_⟩
  refine Call_ (ld_blt I hg hm boot_list (PyProof.Rows.callWith_type1 (args_cons (Call_ (ld_blt I hg2 hm2 PyProof.Rows.boot_zip (PyProof.Rows.callWith_type1 (thn (ha.run pos2 pins s σ H _ I h) fun us s1 ⟨vs, H1, I1, r1, q1⟩ => ?_) hs hpl))) na) na))
  obtain ⟨a, b, xs, ys, ex, qa, qb, el, k⟩ := q1
  subst ex
  cases r1 with
  | cons ra rr =>
    cases rr with
    | cons rb rr =>
      cases rr
      cases ra
      cases rb
      obtain ⟨its, rv, p1, _⟩ := I1.tuple qa
      obtain ⟨its2, rv2, p3, _⟩ := I1.tuple qb
      obtain ⟨o1, ho1, _⟩ := id p1
      obtain ⟨o2, ho2, _⟩ := id p3
      refine RZ.call_zipT (show s1.heap.IsTuple a its.toArray from p1) (show s1.heap.IsTuple b its2.toArray from p3) fun h' Z P1 P2 t1 t2 _ kp => args_nil ?_
      have I2 : Inv X pins σ H1 { s1 with heap := h' } := I1.kept (t' := s1.toks) kp
      refine zip_list (I2.ok.hd hc) I2 (PySem.W.ktu_apart s1.heap.objs.size a b (Heap.lt_size ho1) (Heap.lt_size ho2)) (fun c hcm => ?_) ⟨P1, t1, t2, ⟨_, P2⟩, .inl ⟨Z, _, _, P2⟩⟩ Z qa qb el k
      have hle : s1.heap.objs.size ≤ c := by
        simp only [List.mem_cons, List.not_mem_nil, or_false] at hcm
        rcases hcm with w | w | w | w | w
        · rw [w]; exact Nat.le_add_right _ _
        · rw [w]; exact Nat.le_add_right _ _
        · rw [w]; exact Nat.le_add_right _ _
        · rw [w]; exact Nat.le_refl _
        · rw [w]; exact Nat.le_add_right _ _
      exact I1.fpOk hle (I1.hok.fresh hle)
end L2
namespace L2
open PySem PySem.Spec PyProof.Rows StX
/-- text * n -/
def rMulS : R2 := fun x y H Q => ∃ z n, x = .str z ∧ y = .int n ∧ MulOk z n ∧ Q (.str (Txt.mul z n)) H
theorem op_mul_str {X : Cx} : OpR X (binaryOp .Mult) rMulS := by
  intro pins s σ H x y v u Q I rx ry h
  obtain ⟨z, n, rfl, rfl, ok, q⟩ := h
  obtain ⟨t, rfl⟩ := rx
  obtain ⟨t', rfl⟩ := ry
  exact SB.mul ok fun t' tk => ⟨.str (Txt.mul z n), H, I.tok _, ⟨_, rfl⟩, q⟩
/-- str(x) of an integer or a text -/
def rStr2 : List V → Hp → VK → Prop := fun xs H Q => (∃ i, xs = [.int i] ∧ i.natAbs.log2 < 1920 ∧ Q (.str (toString i)) H) ∨ ∃ a, xs = [.str a] ∧ Q (.str a) H
theorem call_str2 {X : Cx} : CallR X (.type "str") rStr2 := by
  intro pins s σ H xs us Q I r h
  rcases h with h | h
  · exact call_str_int _ _ _ _ _ _ _ I r h
  · exact SkE.call_str_str _ _ _ _ _ _ _ I r h
end L2
namespace GN
open PySem TL L2
/-! ### notes in memory -/
mutual
def NoteAt (H : Hp) : N → V → Prop
  | .non, v => v = .non
  | .wrd w, v => v = .str ⟨w.toArray⟩
  | .num i, v => v = .int i
  | .tup ns, v => ∃ (a : Addr) (vs : List V), v = .ref a ∧ H a = some (.tup vs) ∧ NotesAt H ns vs
def NotesAt (H : Hp) : List N → List V → Prop
  | [], vs => vs = []
  | n :: ns, vs => ∃ v r, vs = v :: r ∧ NoteAt H n v ∧ NotesAt H ns r
end
def Tups (H H' : Hp) : Prop := ∀ (a : Addr) xs, H a = some (.tup xs) → H' a = some (.tup xs)
theorem Tups.refl {H : Hp} : Tups H H := fun _ _ h => h
theorem Tups.trans {H H1 H2 : Hp} (a : Tups H H1) (b : Tups H1 H2) : Tups H H2 := fun x y h => b x y (a x y h)
theorem tups_same {H H' : Hp} (s : Same H H') : Tups H H' := fun a xs h => s a _ h
theorem tups_put {H H' : Hp} {l : Addr} {xs ys : List V} (t : Tups H H') (h : H' l = some (.lst xs)) : Tups H (upd H' l (.lst ys)) := fun a zs e => by
  have e' := t a zs e
  rw [upd_ne (fun z => by rw [z, h] at e'; cases e')]
  exact e'
theorem tups_nw {H H' : Hp} {l : Addr} {o : HO} (t : Tups H H') (h : H' l = none) : Tups H (upd H' l o) := t.trans (tups_same (same_new h))
theorem tups_but {H H' : Hp} {p : Addr} {xs : List V} (s : SameBut p H H') (h : H p = some (.lst xs)) : Tups H H' := fun a ys e => s a _ (fun z => by rw [z, h] at e; cases e) e
mutual
theorem NoteAt.mono {H H' : Hp} (t : Tups H H') : ∀ {n : N} {v : V}, NoteAt H n v → NoteAt H' n v
  | .non, _, h => h
  | .wrd _, _, h => h
  | .num _, _, h => h
  | .tup ns, _, h => by
    obtain ⟨a, vs, e, ha, hs⟩ := h
    exact ⟨a, vs, e, t a vs ha, NotesAt.mono t hs⟩
theorem NotesAt.mono {H H' : Hp} (t : Tups H H') : ∀ {ns : List N} {vs : List V}, NotesAt H ns vs → NotesAt H' ns vs
  | [], _, h => h
  | n :: ns, _, h => by
    obtain ⟨v, r, e, h1, h2⟩ := h
    exact ⟨v, r, e, NoteAt.mono t h1, NotesAt.mono t h2⟩
end
theorem NotesAt.len {H : Hp} : ∀ {ns : List N} {vs : List V}, NotesAt H ns vs → vs.length = ns.length
  | [], _, h => by rw [(show _ = [] from h)]; rfl
  | n :: ns, _, h => by
    obtain ⟨v, r, e, _, h2⟩ := h
    rw [e, List.length_cons, List.length_cons, NotesAt.len h2]
theorem NotesAt.get {H : Hp} : ∀ {ns : List N} {vs : List V} {i : Nat} {v : V}, NotesAt H ns vs → vs[i]? = some v → ∃ n, ns[i]? = some n ∧ NoteAt H n v
  | [], _, _, _, h, e => by rw [(show _ = [] from h)] at e; cases e
  | n :: ns, _, 0, _, h, e => by
    obtain ⟨u, r, rfl, h1, _⟩ := h
    cases e
    exact ⟨n, rfl, h1⟩
  | n :: ns, _, i + 1, _, h, e => by
    obtain ⟨u, r, rfl, _, h2⟩ := h
    have ih := NotesAt.get (i := i) h2 (show r[i]? = some _ from e)
    exact ih
theorem NotesAt.snoc {H : Hp} {n : N} {v : V} (hv : NoteAt H n v) : ∀ {ns : List N} {vs : List V}, NotesAt H ns vs → NotesAt H (ns ++ [n]) (vs ++ [v])
  | [], _, h => by rw [(show _ = [] from h)]; exact ⟨v, [], rfl, hv, rfl⟩
  | m :: ns, _, h => by
    obtain ⟨u, r, rfl, h1, h2⟩ := h
    exact ⟨u, r ++ [v], rfl, h1, NotesAt.snoc hv h2⟩
end GN
namespace GN
open PySem TL L2
/-! ### pairs of two notes that are alike -/
def PairAt (H : Hp) (n : N) (v : V) : Prop := ∃ (T : Addr) (x y : V), v = .ref T ∧ H T = some (.tup [x, y]) ∧ NoteAt H n x ∧ NoteAt H n y
def PrsAt (H : Hp) : List N → List V → Prop
  | [], vs => vs = []
  | n :: ns, vs => ∃ v r, vs = v :: r ∧ PairAt H n v ∧ PrsAt H ns r
theorem PairAt.mono {H H' : Hp} (t : Tups H H') {n : N} {v : V} (h : PairAt H n v) : PairAt H' n v := by
  obtain ⟨T, x, y, e, hT, hx, hy⟩ := h
  exact ⟨T, x, y, e, t _ _ hT, hx.mono t, hy.mono t⟩
theorem PrsAt.mono {H H' : Hp} (t : Tups H H') : ∀ {ns : List N} {vs : List V}, PrsAt H ns vs → PrsAt H' ns vs
  | [], _, h => h
  | _ :: _, _, h => by
    obtain ⟨v, r, e, h1, h2⟩ := h
    exact ⟨v, r, e, h1.mono t, PrsAt.mono t h2⟩
theorem PrsAt.app {H : Hp} {ms : List N} {us : List V} (hu : PrsAt H ms us) : ∀ {ns : List N} {vs : List V}, PrsAt H ns vs → PrsAt H (ns ++ ms) (vs ++ us)
  | [], _, h => by rw [(show _ = [] from h)]; exact hu
  | n :: ns, _, h => by
    obtain ⟨v, r, rfl, h1, h2⟩ := h
    exact ⟨v, r ++ us, rfl, h1, PrsAt.app hu h2⟩
theorem PrsAt.last {H : Hp} {v : V} : ∀ {ns : List N} {r : List V}, PrsAt H ns (r ++ [v]) → ∃ ns' n, ns = ns' ++ [n] ∧ PrsAt H ns' r ∧ PairAt H n v
  | [], r, h => absurd (show r ++ [v] = [] from h) (by simp)
  | n :: ns, [], h => by
    obtain ⟨u, q, e, h1, h2⟩ := h
    injection e with e1 e2
    subst e1 e2
    cases ns with
    | nil => exact ⟨[], n, rfl, rfl, h1⟩
    | cons m ms => obtain ⟨_, _, e, _⟩ := h2; cases e
  | n :: ns, w :: r, h => by
    obtain ⟨u, q, e, h1, h2⟩ := h
    injection e with e1 e2
    subst e1 e2
    obtain ⟨ns', m, e, h3, h4⟩ := PrsAt.last h2
    exact ⟨n :: ns', m, by rw [e]; rfl, ⟨w, r, rfl, h1, h3⟩, h4⟩
theorem PrsAt.len {H : Hp} : ∀ {ns : List N} {vs : List V}, PrsAt H ns vs → vs.length = ns.length
  | [], _, h => by rw [(show _ = [] from h)]; rfl
  | n :: ns, _, h => by
    obtain ⟨v, r, e, _, h2⟩ := h
    rw [e, List.length_cons, List.length_cons, PrsAt.len h2]
theorem szs_app : ∀ (a b : List N), N.szs (a ++ b) = N.szs a + N.szs b
  | [], b => by simp [N.szs]
  | n :: a, b => by simp only [List.cons_append, N.szs, szs_app a b]; omega
theorem sz_pos : ∀ n : N, 1 ≤ n.sz
  | .non => Nat.le_refl _
  | .wrd _ => Nat.le_refl _
  | .num _ => Nat.le_refl _
  | .tup ns => by simp only [N.sz]; omega
theorem len_szs : ∀ ns : List N, ns.length ≤ N.szs ns
  | [] => Nat.le_refl _
  | n :: ns => by
    have := len_szs ns
    have := sz_pos n
    simp only [N.szs, List.length_cons]; omega
theorem prs_of {H : Hp} : ∀ {ns : List N} {xs ys : List V} {ts : List Addr}, NotesAt H ns xs → NotesAt H ns ys → ts.length = xs.length → Pairs H xs ys ts → PrsAt H ns (ts.map V.ref)
  | [], xs, _, ts, hx, _, hl, _ => by
    rw [(show xs = [] from hx)] at hl
    rw [List.length_eq_zero_iff.mp hl]; rfl
  | n :: ns, _, _, ts, hx, hy, hl, hp => by
    obtain ⟨x, xr, rfl, hx1, hx2⟩ := hx
    obtain ⟨y, yr, rfl, hy1, hy2⟩ := hy
    cases ts with
    | nil => simp at hl
    | cons T ts =>
      refine ⟨.ref T, ts.map V.ref, rfl, ⟨T, x, y, rfl, hp 0 T x y rfl rfl rfl, hx1, hy1⟩, ?_⟩
      exact prs_of hx2 hy2 (by simpa using hl) fun j T' x' y' h1 h2 h3 => hp (j + 1) T' x' y' h1 h2 h3
end GN
/-! a classmethod: called off its class (in a try's body too), and the class made by the name that holds it; f'..' -/
namespace L2
open PySem PySem.Spec PyProof.Rows StX
section
variable {P : Program} {w : World} {K : PySem.W.Frag} {mg : Str → Option Value} {base : Heap} {CX : CXT} {k : Nat} {f : Addr} {sp : Sp}
theorem FnOk.toR {fd : FuncData} {ps : List Str} (F : FnOk P w K mg base CX k f fd ps sp) (hb : Binds K fd ps []) : FnR P w K mg base CX k f sp :=
  (F.raw hb .nil).imp fun vs H Q E h => by rw [List.append_nil]; exact h
end
section
variable {X : Cx} {CX : CXT} {k i : Nat} {f C p g q : Addr} {mc : Value} {fd : FuncData} {ps : List Str} {sp : Sp} {dvs : List V} {ds : List Value} {x m : Str} {pos apos xp : Pos} {e o : Expr} {es : List Expr} {ta : TE} {t : TA} {pl : Sem Bool}
/-- cls(..): the i-th slot holds the class at C -/
def tMakeL (i : Nat) (C : Addr) (sp : Sp) (dvs : List V) (E : XK) (t : TA) : TE := fun σ H Q => σ[i]? = some (some (.ref C)) ∧ tMake C sp dvs E t σ H Q
theorem pe_mkL {E : XK} (hN : X.N[i]? = some x) (hv : Vis X.env.scope x) (M : Mk X.K C f) (F : FnOk X.prog X.w X.K X.mg X.base CX k f fd ps sp) (hr : Room (k + 1) X.A) (hb : Binds X.K fd ps ds) (hd : Vals dvs ds) (hx : Passes CX X E) (ha : PA X (e :: es) t)
    (hdb : (x == ("__debug__" : Str)) = false := by decide) (hcd : (x == ("__classdict__" : Str)) = false := by decide)
    (he : starEach (e :: es) X.env = (false, eval e X.env) :: starEach es X.env := by rfl) (hpl : (backTo pos (starEach es X.env)).any (·.1) = false := by rfl) : PE X (.Call (.Name x xp) (e :: es) [] pos) (tMakeL i C sp dvs E t) := by
  refine ⟨fun pins s σ H Q I h => ?_⟩
  obtain ⟨hs, ht⟩ := h
  refine wpAny_Call_Name_kw (thn ((pe_var (pos := xp) hN hv hdb hcd).run pins s σ H (fun v H1 => v = .ref C ∧ H1 = H) I ⟨.ref C, hs, rfl, rfl⟩) fun u s1 ⟨v, H1, I1, r1, q1⟩ => ?_)
  obtain ⟨rfl, rfl⟩ := q1
  cases r1
  refine PySem.W.callWith_K (h₀ := X.base) I1.ok.mod.kin M.kp (thn (ha.run pos pins s1 σ _ _ I1 ht) fun us s2 ⟨vs, H2, I2, r, q⟩ => ⟨I2.kIn, ?_⟩) he hpl
  exact run_make M F hr hb hd hx I2 r q
theorem run_fnRT {pins : List (Addr × Obj)} {σ : St} {H : Hp} {s : Shared} {E : XK} {Q : VK} {us : List Value} {vs : List V} (F : FnR X.prog X.w X.K X.mg X.base CX k f sp) (hr : Room k X.A) (hx : PassesAt CX X σ E) (I : Inv X pins σ H s) (r : Vals vs us) (h : sp vs H Q E) :
    codeAny (model X.prog X.w) X.A (.call (.ref f) ⟨us, []⟩) (fun r s' => match r with | .ok (.ret v) => EP X pins σ Q v s' | .ok _ => False | .error e => X.xe e s') s := by
  refine codeAny_mono (F X.A X.stack s H us vs Q E hr I.env0 r h) fun r s' hq => ?_
  cases r with
  | error e => exact hx pins H s e s' I hq
  | ok fl =>
    cases fl with
    | ret u => exact I.after hq
    | next => exact False.elim hq
    | brk => exact False.elim hq
    | cont => exact False.elim hq
theorem run_cmT {pins : List (Addr × Obj)} {σ : St} {H : Hp} {s : Shared} {E : XK} {Q : VK} {us : List Value} {vs : List V} (F : FnR X.prog X.w X.K X.mg X.base CX k g sp) (hr : Room k X.A) (hx : PassesAt CX X σ E) (I : Inv X ((q, PySem.W.methodObj (.ref g) (.ref C)) :: pins) σ H s)
    (r : Vals vs us) (h : sp (.ref C :: vs) H Q E) : wpAny (model X.prog X.w) X.A (call (.ref q) us) (EP X pins σ Q) X.xe s := by
  have z : wpAny (model X.prog X.w) X.A (call (.ref q) us) (EP X ((q, PySem.W.methodObj (.ref g) (.ref C)) :: pins) σ Q) X.xe s :=
    wpAny_call (PySem.W.method_call (ClX.pin_at I) (run_fnRT (us := .ref C :: us) (vs := .ref C :: vs) F hr hx I (.cons rfl r) h))
  exact thn z fun _ _ y => ClX.unpinE y
/-- e.m(..) in a try's body, e the class at C, m a classmethod -/
def tCMethT (C : Addr) (sp : Sp) (E : St → XK) (ta : TE) (t : TA) : TE := fun σ H Q => ta σ H fun x H1 => x = .ref C ∧ t σ H1 fun vs H2 => sp (.ref C :: vs) H2 Q (E σ)
theorem pe_cmethT {E : St → XK} (he : PE X o ta) (r : ClX.CRead X.K C mc) (c : ClX.CMet X.K C mc m p g) (F : FnR X.prog X.w X.K X.mg X.base CX k g sp) (hr : Room k X.A) (hx : ∀ σ, PassesAt CX X σ (E σ)) (ha : PA X (e :: es) t)
    (hst : starEach (e :: es) X.env = (false, eval e X.env) :: starEach es X.env := by rfl) (hpl : (backTo pos (starEach es X.env)).any (·.1) = false := by rfl)
    (ht : eval (.Call (.Attribute o m apos) (e :: es) [] pos) X.env = (do
      let ov ← eval o X.env
      standAt apos.atName
      let (f, first) ← holding [ov] (getMethod ov m pl)
      callWith pos f first (backTo pos (starEach (e :: es) X.env)) (backToKw pos (keywordEach [] X.env))) := by rfl) :
    PE X (.Call (.Attribute o m apos) (e :: es) [] pos) (tCMethT C sp E ta t) := by
  refine ⟨fun pins s σ H Q I h => ?_⟩
  refine PySem.W.methodCall_KW (pl := pl) (thn (he.run pins s σ H _ I h) fun u s1 ⟨x, H1, I1, rx, ex, q⟩ => ?_) ht
  subst ex
  obtain rfl : u = Value.ref C := rx
  refine ClX.getmethcm_ok I1 r c fun s2 I2 => ?_
  refine ClX.callwith_cm I2 (ClX.base_none I1 (Nat.le_refl _)) c.fi (thn (ha.run pos _ s2 σ H1 _ I2 q) fun us s3 ⟨vs, H2, I3, rv, q2⟩ => ⟨⟨ClX.pin_at I3, I3.kIn⟩, ?_⟩) hst hpl
  exact run_cmT F hr (hx σ) I3 rv q2
end
end L2
namespace L2
open PySem PySem.Spec PyProof.Rows StX
theorem for_txt {t : List Nat} {g : TG} {tb : TS} {D : Ends} {σ : St} {H : Hp} (Pv : Nat → St → Hp → Prop) (h0 : Pv 0 σ H)
    (hs : ∀ (i c : Nat) σ H, t[i]? = some c → Pv i σ H → g (.str ⟨#[c]⟩) σ H fun σ2 H2 => tb { D with nx := Pv (i + 1), ct := Pv (i + 1), bk := D.nx } σ2 H2) (hd : ∀ σ H, Pv t.length σ H → D.nx σ H) :
    ∃ W : Nat → Nat → St → Hp → Prop, (∃ m, W 0 m σ H) ∧ ∀ i m σ H, W i m σ H →
      ((Its (SX.S t)).stop i H ∧ D.nx σ H) ∨ ((Its (SX.S t)).go i H ∧ ∃ N : St → Hp → Prop, (∀ σ' H', N σ' H' → ∃ m', m' < m ∧ W (i + 1) m' σ' H') ∧ ∀ v H', (Its (SX.S t)).yld i H v H' → g v σ H' fun σ2 H2 => tb { D with nx := N, ct := N, bk := D.nx } σ2 H2) := by
  have hsz : (SX.S t).cps.size = t.length := by simp
  refine ⟨fun i m σ H => m = t.length - i ∧ i ≤ t.length ∧ Pv i σ H, ⟨t.length, by simp, Nat.zero_le _, h0⟩, ?_⟩
  rintro i m σ H ⟨rfl, hi, hP⟩
  by_cases h : i < t.length
  · refine .inr ⟨(show i < (SX.S t).cps.size by rw [hsz]; exact h), Pv (i + 1), fun σ' H' hN => ⟨t.length - (i + 1), by omega, rfl, by omega, hN⟩, ?_⟩
    rintro v H' ⟨rfl, c, hc, rfl⟩
    exact hs i c σ H' (by simpa using hc) hP
  · have e : i = t.length := by omega
    subst e
    exact .inl ⟨(show (SX.S t).cps.size ≤ t.length by rw [hsz]; exact Nat.le_refl _), hd σ H hP⟩
theorem lc_txt {t : List Nat} {g : TG} {tt : TT} {te : TE} {vs : List Nat} {σ : St} {H1 : Hp} {D : Addr} {Qd : Hp → Prop} (Pv : Nat → Hp → Prop) (h0 : Pv 0 (upd H1 D (.lst [])))
    (hs : ∀ i c H, t[i]? = some c → Pv i H → g (.str ⟨#[c]⟩) (wipe σ vs) H fun σ2 H2 => wipe σ2 vs = wipe σ vs ∧ tt σ2 H2 fun b H3 =>
      if b = true then te σ2 H3 fun y H4 => ∃ acc, H4 D = some (.lst acc) ∧ acc.length < sizeLine ∧ Pv (i + 1) (upd H4 D (.lst (acc ++ [y]))) else Pv (i + 1) H3) (hd : ∀ H, Pv t.length H → Qd H) :
    ∃ W : Nat → Nat → Hp → Prop, (∃ m, W 0 m (upd H1 D (.lst []))) ∧ ∀ i m H, W i m H →
      ((Its (SX.S t)).stop i H ∧ Qd H) ∨ ((Its (SX.S t)).go i H ∧ ∃ Nx : Hp → Prop, (∀ H', Nx H' → ∃ m', m' < m ∧ W (i + 1) m' H') ∧ ∀ x H', (Its (SX.S t)).yld i H x H' → g x (wipe σ vs) H' fun σ2 H2 => wipe σ2 vs = wipe σ vs ∧ tt σ2 H2 fun b H3 =>
        if b = true then te σ2 H3 fun y H4 => ∃ acc, H4 D = some (.lst acc) ∧ acc.length < sizeLine ∧ Nx (upd H4 D (.lst (acc ++ [y]))) else Nx H3) := by
  have hsz : (SX.S t).cps.size = t.length := by simp
  refine ⟨fun i m H => m = t.length - i ∧ i ≤ t.length ∧ Pv i H, ⟨t.length, by simp, Nat.zero_le _, h0⟩, ?_⟩
  rintro i m H ⟨rfl, hi, hP⟩
  by_cases h : i < t.length
  · refine .inr ⟨(show i < (SX.S t).cps.size by rw [hsz]; exact h), Pv (i + 1), fun H' hN => ⟨t.length - (i + 1), by omega, rfl, by omega, hN⟩, ?_⟩
    rintro v H' ⟨rfl, c, hc, rfl⟩
    exact hs i c H' (by simpa using hc) hP
  · have e : i = t.length := by omega
    subst e
    exact .inl ⟨(show (SX.S t).cps.size ≤ t.length by rw [hsz]; exact Nat.le_refl _), hd H hP⟩
end L2
namespace GR
open PySem TL GN SX NumText
/-- the text of a share -/
def txt (a b : Int) : List Nat := if b = 1 then numT a else numT a ++ 47 :: numT b
structure Canon (t : List Nat) (a b : Int) : Prop where
  e : t = txt a b
  pos : 1 ≤ b
  cop : Nat.gcd a.natAbs b.natAbs = 1
def isD (w : List Nat) : Bool := decide (w ≠ []) && w.all fun c => decide (c ∈ digs)
def lead (w : List Nat) : Bool := isD w && !(decide (1 < w.length) && decide (w[0]? = some 48))
theorem isD_iff {w : List Nat} : isD w = true ↔ w ≠ [] ∧ AllDigits w := by
  unfold isD
  rw [Bool.and_eq_true, decide_eq_true_iff, List.all_eq_true]
  exact and_congr Iff.rfl ⟨fun h c hc => digs_range (of_decide_eq_true (h c hc)), fun h c hc => decide_eq_true (digs_of (h c hc))⟩
theorem isD_num (m : Nat) : isD (numL m) = true := isD_iff.mpr ⟨numL_ne m, numL_digits m⟩
theorem lead_num (m : Nat) : lead (numL m) = true := by
  unfold lead
  rw [isD_num]
  by_cases h : m = 0
  · subst h; rw [numL_zero]; decide
  · obtain ⟨c, r, e, h1, h2⟩ := numL_head m (by omega)
    rw [e]
    have : ¬ (c :: r)[0]? = some 48 := by simp; omega
    rw [decide_eq_false this]; simp
theorem lead_back {w : List Nat} (h : lead w = true) : isD w = true ∧ numL (digitsVal w) = w := by
  unfold lead at h
  rw [Bool.and_eq_true] at h
  obtain ⟨hd, hz⟩ := h
  obtain ⟨hne, hall⟩ := isD_iff.mp hd
  refine ⟨hd, ?_⟩
  cases w with
  | nil => exact absurd rfl hne
  | cons c r =>
    have hr := hall.head
    have q : r.length = 0 ∨ ∃ c' r', c :: r = c' :: r' ∧ 49 ≤ c' := by
      by_cases hl : r.length = 0
      · exact .inl hl
      · right
        refine ⟨c, r, rfl, ?_⟩
        have hn : ¬ (c :: r)[0]? = some 48 := fun e => by
          rw [decide_eq_true e, decide_eq_true (show 1 < (c :: r).length by simp only [List.length_cons]; omega)] at hz
          cases hz
        have hc : c ≠ 48 := fun e => hn (by simp [e])
        omega
    unfold numL
    rw [toDigits_digitsVal r.length (c :: r) rfl hall q, List.map_map]
    have : ∀ l : List Nat, AllDigits l → l.map (Char.toNat ∘ Char.ofNat) = l := by
      intro l hl
      induction l with
      | nil => rfl
      | cons d l ih =>
        have hd := hl.head
        rw [List.map_cons, ih hl.tail]
        congr 1
        have : ∀ k : Fin 10, (Char.toNat ∘ Char.ofNat) (48 + k.val) = 48 + k.val := by decide
        have e := this ⟨d - 48, by omega⟩
        have z : 48 + (d - 48) = d := by omega
        rw [z] at e
        exact e
    exact this _ hall
theorem numT_pos {a : Int} (h : 0 ≤ a) : numT a = numL a.natAbs := by
  obtain ⟨m, rfl⟩ : ∃ m : Nat, a = (m : Int) := ⟨a.natAbs, by omega⟩
  rw [numT_nat]; rfl
theorem numT_ng {a : Int} (h : a < 0) : numT a = 45 :: numL a.natAbs := by
  obtain ⟨m, rfl⟩ : ∃ m : Nat, a = -(m : Int) := ⟨a.natAbs, by omega⟩
  rw [numT_neg m (by omega), Int.natAbs_neg]; rfl
theorem numT_free (a : Int) : 47 ∉ numT a := by
  rcases Int.lt_or_le a 0 with h | h
  · rw [numT_ng h]
    intro hm
    rcases List.mem_cons.mp hm with e | hm
    · exact absurd e (by decide)
    · exact numL_free (by decide) hm
  · rw [numT_pos h]; exact numL_free (by decide)
/-- the text without a sign at its head -/
def body (t : List Nat) : List Nat := if t[0]? = some 45 then t.drop 1 else t
theorem body_num (a : Int) (r : List Nat) : body (numT a ++ r) = numL a.natAbs ++ r ∧ ((numT a ++ r)[0]? = some 45 ↔ a < 0) := by
  rcases Int.lt_or_le a 0 with h | h
  · rw [numT_ng h]
    exact ⟨rfl, by simp [h]⟩
  · rw [numT_pos h]
    have hh : ¬ (numL a.natAbs ++ r)[0]? = some 45 := by
      by_cases h0 : a.natAbs = 0
      · rw [h0, numL_zero]; simp
      · obtain ⟨c, s, e, h1, h2⟩ := numL_head a.natAbs (by omega)
        rw [e]; simp; omega
    refine ⟨?_, ?_⟩
    · unfold body; rw [if_neg hh]
    · constructor
      · intro e; exact absurd e hh
      · intro e; omega
theorem body_num0 (a : Int) : body (numT a) = numL a.natAbs := by have := (body_num a []).1; simpa using this
theorem minus : Str.ofString "-" = S [45] := by decide +kernel
theorem slash : Str.ofString "/" = S [47] := by decide +kernel
theorem rmp (t : List Nat) : Txt.removeprefix (S t) (Str.ofString "-") = S (body t) := by
  have e := StrLaws.removeprefix_eq (S t) (S [45])
  rw [minus, e]
  have key : (decide (0 + (S [45]).length ≤ (S t).length) && Builtin.Str.subAt (S t) (S [45]) 0) = decide (t[0]? = some 45) := by
    have h := TL.at_iff (x := S t) (y := S [45]) (by simp [TL.tl]) 0
    unfold StrLaws.At at h
    cases t with
    | nil => rfl
    | cons c r =>
      have h2 : (0 + (S [45]).length ≤ (S (c :: r)).length ∧ Builtin.Str.subAt (S (c :: r)) (S [45]) 0 = true) ↔ c = 45 := by
        rw [h]
        show ((c :: r).take 1 == [45]) = true ↔ _
        simp
      by_cases hc : c = 45
      · obtain ⟨p, q⟩ := h2.mpr hc
        rw [q, decide_eq_true p, hc]; rfl
      · rw [decide_eq_false (show ¬ (c :: r)[0]? = some 45 by simp [hc])]
        rw [Bool.and_eq_false_iff]
        by_cases p : 0 + (S [45]).length ≤ (S (c :: r)).length
        · right
          cases q : Builtin.Str.subAt (S (c :: r)) (S [45]) 0
          · rfl
          · exact absurd (h2.mp ⟨p, q⟩) hc
        · left; exact decide_eq_false p
  rw [key]
  unfold body
  by_cases h : t[0]? = some 45
  · rw [if_pos (decide_eq_true h), if_pos h]
    have l1 : (S [45]).length = 1 := rfl
    rw [l1, S_len]
    show S ((t.drop 1).take (t.length - 1)) = _
    rw [List.take_of_length_le (by rw [List.length_drop]; omega)]
  · rw [if_neg (by simpa using h), if_neg h]
theorem int_dig {w : List Nat} (h : isD w = true) (hl : w.length ≤ 600) : intText? (S w) = some ((digitsVal w : Nat) : Int) := by
  obtain ⟨h1, h2⟩ := isD_iff.mp h
  exact intText_digits (x := S w) h2 h1 (by rw [S_len]; omega)
/-- the integer of a sign and digits -/
def sval (t : List Nat) : Int := if t[0]? = some 45 then -((digitsVal (t.drop 1) : Nat) : Int) else ((digitsVal t : Nat) : Int)
theorem int_sdig {t : List Nat} (h : isD (body t) = true) (hl : t.length ≤ 600) : intText? (S t) = some (sval t) := by
  unfold body at h
  unfold sval
  by_cases c : t[0]? = some 45
  · rw [if_pos c] at h ⊢
    obtain ⟨h1, h2⟩ := isD_iff.mp h
    cases t with
    | nil => cases c
    | cons d r =>
      have : d = 45 := by simpa using c
      subst this
      exact intText_neg (x := S (45 :: r)) rfl h2 h1 (by rw [S_len]; omega)
  · rw [if_neg c] at h ⊢
    exact int_dig h hl
theorem body_le (t : List Nat) : (body t).length ≤ t.length := by
  unfold body; split
  · rw [List.length_drop]; omega
  · exact Nat.le_refl _
theorem sval_abs (t : List Nat) : (sval t).natAbs = digitsVal (body t) := by
  unfold sval body
  split
  · rw [Int.natAbs_neg]; rfl
  · rfl
theorem sval_num (a : Int) : sval (numT a) = a := by
  unfold sval
  rcases Int.lt_or_le a 0 with h | h
  · rw [numT_ng h, if_pos (show (45 :: numL a.natAbs)[0]? = some 45 from rfl)]
    show -((digitsVal (numL a.natAbs) : Nat) : Int) = a
    rw [numL_val]; omega
  · have := (body_num a []).2
    rw [List.append_nil] at this
    rw [if_neg (fun e => by have := this.mp e; omega), numT_pos h, numL_val]; omega
theorem dig_lt {w : List Nat} (h : isD w = true) : digitsVal w < 10 ^ w.length := digits_lt (isD_iff.mp h).2
theorem bits70 {w : List Nat} (h : isD w = true) (hl : w.length ≤ 70) : digitsVal w < 2 ^ 240 :=
  Nat.lt_of_lt_of_le (dig_lt h) (Nat.le_trans (Nat.pow_le_pow_right (by decide) hl) (by decide +kernel))
theorem num_len {a : Int} {n k : Nat} (h : a.natAbs < 2 ^ n) (hk : 0 < k) (e : 2 ^ n ≤ 10 ^ k) : (numT a).length ≤ k + 1 := by
  have hl := numL_len (n := a.natAbs) (k := k) hk (Nat.lt_of_lt_of_le h e)
  rcases Int.lt_or_le a 0 with c | c
  · rw [numT_ng c, List.length_cons]; omega
  · rw [numT_pos c]; omega
theorem txt_len {a b : Int} {n k : Nat} (ha : a.natAbs < 2 ^ n) (hb : b.natAbs < 2 ^ n) (hk : 0 < k) (e : 2 ^ n ≤ 10 ^ k) : (txt a b).length ≤ 2 * k + 3 := by
  have h1 := num_len ha hk e
  have h2 := num_len hb hk e
  unfold txt
  split
  · omega
  · rw [List.length_append, List.length_cons]; omega
/-! ### partition and split -/
theorem part_num {a b : Int} (h : b ≠ 1) : Txt.partition (S (txt a b)) (Str.ofString "/") = (S (numT a), S [47], S (numT b)) := by
  rw [slash]
  unfold txt
  rw [if_neg h]
  exact partition_some (by simp) (by have := par_head (c := 47) (sep := []) (numT b) (numT_free a); simpa using this)
theorem part_one (a : Int) : Txt.partition (S (txt a 1)) (Str.ofString "/") = (S (numT a), S [], S []) := by
  rw [slash]
  unfold txt
  rw [if_pos rfl]
  exact partition_none (by simp) (par_head_none (numT_free a))
theorem part_any (t : List Nat) : ∃ p s q, Txt.partition (S t) (Str.ofString "/") = (S p, S s, S q) ∧ p.length ≤ t.length ∧ q.length ≤ t.length := by
  have h := PyProof.Rows.fact_partition (S t) (Str.ofString "/")
  refine ⟨tl (Txt.partition (S t) (Str.ofString "/")).1, tl (Txt.partition (S t) (Str.ofString "/")).2.1, tl (Txt.partition (S t) (Str.ofString "/")).2.2, ?_, ?_, ?_⟩
  · show _ = ((⟨(tl _).toArray⟩ : Str), (⟨(tl _).toArray⟩ : Str), (⟨(tl _).toArray⟩ : Str))
    rw [mk_tl, mk_tl, mk_tl]
  · rw [← len_tl]; have := h.1; rw [S_len] at this; exact this
  · rw [← len_tl]; have := h.2.2; rw [S_len] at this; exact this
theorem split_any (t : List Nat) : ∃ ps : List (List Nat), Txt.split (S t) (Str.ofString "/") = ps.map S ∧ ps ≠ [] ∧ joinL [47] ps = t := by
  have e := split_S (a := t) (b := [47]) (by simp) (by decide)
  rw [← slash] at e
  have j := StrLaws.join_split (S t) (Str.ofString "/")
  refine ⟨spl [47] 0 [] t, e, ?_, ?_⟩
  · intro z
    have := PyProof.Rows.split_pos (S t) (Str.ofString "/")
    rw [e, z] at this
    exact absurd this (by decide)
  · have k := congrArg tl j
    rw [e, tl_join, map_S_tl] at k
    have s1 : tl (Str.ofString "/") = [47] := by rw [slash]
    rw [s1] at k
    exact k
theorem split_num {m n : Nat} : Txt.split (S (numL m ++ 47 :: numL n)) (Str.ofString "/") = [numL m, numL n].map S ∧ Txt.split (S (numL m)) (Str.ofString "/") = [numL m].map S := by
  have f : ∀ k, 47 ∉ numL k := fun k => numL_free (by decide)
  rw [slash]
  constructor
  · rw [split_S (by simp) (by decide)]
    have := spl_join (c := 47) (sep := []) (parts := [numL m, numL n]) (by simp) (by intro p hp; rcases List.mem_cons.mp hp with e | hp; (rw [e]; exact f m); (rw [List.mem_singleton.mp hp]; exact f n))
    exact congrArg (List.map S) this
  · rw [split_S (by simp) (by decide)]
    have := spl_join (c := 47) (sep := []) (parts := [numL m]) (by simp) (by intro p hp; rw [List.mem_singleton.mp hp]; exact f m)
    exact congrArg (List.map S) this
/-! ### Euclid's steps, of numbers of fewer than 240 bits -/
def Eu (a b i : Nat) : Prop := (i = 0 ∧ b < 2 ^ 240) ∨ (1 ≤ i ∧ b < a ∧ a * b * 2 ^ (i - 1) ≤ 2 ^ 480)
theorem Eu.turn {a b i : Nat} (h : Eu a b i) (hb : b ≠ 0) : Eu b (a % b) (i + 1) ∧ i ≤ 481 := by
  have hm : a % b < b := Nat.mod_lt _ (Nat.pos_of_ne_zero hb)
  rcases h with ⟨rfl, h⟩ | ⟨h1, h2, h3⟩
  · refine ⟨.inr ⟨Nat.le_refl _, hm, ?_⟩, Nat.zero_le _⟩
    show b * (a % b) * 2 ^ 0 ≤ 2 ^ 480
    have : b * (a % b) ≤ 2 ^ 240 * 2 ^ 240 := Nat.mul_le_mul (Nat.le_of_lt h) (Nat.le_of_lt (Nat.lt_trans hm h))
    rw [Nat.pow_zero, Nat.mul_one]
    rw [← Nat.pow_add] at this
    exact this
  · refine ⟨.inr ⟨by omega, hm, ?_⟩, ?_⟩
    · obtain ⟨j, rfl⟩ : ∃ j, i = j + 1 := ⟨i - 1, by omega⟩
      show b * (a % b) * 2 ^ (j + 1) ≤ 2 ^ 480
      have h2' : 2 * (a % b) ≤ a := by
        have e := Nat.div_add_mod a b
        have q : 1 ≤ a / b := Nat.div_pos (Nat.le_of_lt h2) (Nat.pos_of_ne_zero hb)
        have : b * 1 ≤ b * (a / b) := Nat.mul_le_mul_left _ q
        omega
      have e : b * (a % b) * 2 ^ (j + 1) = (b * (2 * (a % b))) * 2 ^ j := by
        rw [Nat.pow_succ, Nat.mul_comm (2 ^ j) 2, ← Nat.mul_assoc, Nat.mul_assoc b, Nat.mul_comm (a % b) 2]
      rw [e]
      refine Nat.le_trans (Nat.mul_le_mul_right _ (Nat.mul_le_mul_left b h2')) ?_
      rw [Nat.mul_comm b a]
      exact h3
    · have : 1 * 1 * 2 ^ (i - 1) ≤ a * b * 2 ^ (i - 1) := Nat.mul_le_mul_right _ (Nat.mul_le_mul (by omega) (by omega))
      simp only [Nat.one_mul] at this
      have q : i - 1 ≤ 480 := (Nat.pow_le_pow_iff_right (by decide)).mp (Nat.le_trans this h3)
      omega
end GR
namespace LW
open PySem PySem.Spec PyProof.Rows L2
def top (i : Nat) : Stmt := PySem.Challenge.pw_gangbooks_k03_share_text_round.main.body.getD i (.Pass ⟨0, 0, 0, 0⟩)
abbrev s_GangError_init : Stmt := inClass (top 3) 0
abbrev s_is_digits : Stmt := top 9
abbrev s_Share_init : Stmt := inClass (top 13) 0
abbrev s_Share_text : Stmt := inClass (top 13) 3
abbrev s_Share_read : Stmt := inClass (top 13) 1
abbrev s_pool : Stmt := top 15
abbrev s_draw : Stmt := top 16
abbrev s_number : Stmt := top 17
abbrev s_signed : Stmt := top 18
abbrev s_char : Stmt := top 19
abbrev s_whole : Stmt := top 20
abbrev s_factor : Stmt := top 21
abbrev s_pair : Stmt := top 22
abbrev s_lowest : Stmt := top 23
abbrev s_text : Stmt := top 24
abbrev s_digits : Stmt := top 25
abbrev s_read : Stmt := top 26
abbrev s_odd : Stmt := top 27
abbrev s_spoilt : Stmt := top 28
abbrev s_is : Stmt := top 29
abbrev s_asked : Stmt := top 30
abbrev s_law : Stmt := top 31
theorem sc_GangError_init : FnScope ["self", "subject"] ["self", "subject"] (defScope s_GangError_init) := ⟨rfl, rfl, rfl, by decide +kernel, rfl, by decide +kernel, by decide +kernel⟩
theorem sc_is_digits : FnScope ["text", "char"] ["text"] (defScope s_is_digits) := ⟨rfl, rfl, rfl, by decide +kernel, rfl, by decide +kernel, by decide +kernel⟩
theorem sc_Share_init : FnScope ["self", "top", "bottom", "factor"] ["self", "top", "bottom"] (defScope s_Share_init) := ⟨rfl, rfl, rfl, by decide +kernel, rfl, by decide +kernel, by decide +kernel⟩
theorem sc_Share_text : FnScope ["self"] ["self"] (defScope s_Share_text) := ⟨rfl, rfl, rfl, by decide +kernel, rfl, by decide +kernel, by decide +kernel⟩
theorem sc_Share_read : FnScope ["cls", "text", "top", "slash", "bottom", "below", "share"] ["cls", "text"] (defScope s_Share_read) := ⟨rfl, rfl, rfl, by decide +kernel, rfl, by decide +kernel, by decide +kernel⟩
theorem sc_pool : FnScope ["_law_script", "_law_pool_here", "_law_cell"] ["_law_script"] (defScope s_pool) := ⟨rfl, rfl, rfl, by decide +kernel, rfl, by decide +kernel, by decide +kernel⟩
theorem sc_draw : FnScope ["_law_pool_here", "_law_many", "_law_first", "_law_second", "_law_found"] ["_law_pool_here", "_law_many"] (defScope s_draw) := ⟨rfl, rfl, rfl, by decide +kernel, rfl, by decide +kernel, by decide +kernel⟩
theorem sc_number : FnScope ["_law_pool_here", "_law_groups", "_law_kind", "_law_count", "_law_number_here", "_law_k", "_law_part"] ["_law_pool_here", "_law_groups"] (defScope s_number) := ⟨rfl, rfl, rfl, by decide +kernel, rfl, by decide +kernel, by decide +kernel⟩
theorem sc_signed : FnScope ["_law_pool_here", "_law_groups", "_law_number_here"] ["_law_pool_here", "_law_groups"] (defScope s_signed) := ⟨rfl, rfl, rfl, by decide +kernel, rfl, by decide +kernel, by decide +kernel⟩
theorem sc_char : FnScope ["_law_pool_here", "_law_chars"] ["_law_pool_here"] (defScope s_char) := ⟨rfl, rfl, rfl, by decide +kernel, rfl, by decide +kernel, by decide +kernel⟩
theorem sc_whole : FnScope ["_law_value"] ["_law_value"] (defScope s_whole) := ⟨rfl, rfl, rfl, by decide +kernel, rfl, by decide +kernel, by decide +kernel⟩
theorem sc_factor : FnScope ["_law_one", "_law_other", "_law_k", "_law_rest"] ["_law_one", "_law_other"] (defScope s_factor) := ⟨rfl, rfl, rfl, by decide +kernel, rfl, by decide +kernel, by decide +kernel⟩
theorem sc_pair : FnScope ["_law_pool_here", "_law_groups", "_law_top", "_law_bottom"] ["_law_pool_here", "_law_groups"] (defScope s_pair) := ⟨rfl, rfl, rfl, by decide +kernel, rfl, by decide +kernel, by decide +kernel⟩
theorem sc_lowest : FnScope ["_law_top", "_law_bottom", "_law_factor_here"] ["_law_top", "_law_bottom"] (defScope s_lowest) := ⟨rfl, rfl, rfl, by decide +kernel, rfl, by decide +kernel, by decide +kernel⟩
theorem sc_text : FnScope ["_law_pair_here"] ["_law_pair_here"] (defScope s_text) := ⟨rfl, rfl, rfl, by decide +kernel, rfl, by decide +kernel, by decide +kernel⟩
theorem sc_digits : FnScope ["_law_word", "_law_char_here"] ["_law_word"] (defScope s_digits) := ⟨rfl, rfl, rfl, by decide +kernel, rfl, by decide +kernel, by decide +kernel⟩
theorem sc_read : FnScope ["_law_text_here", "_law_body", "_law_parts", "_law_top", "_law_bottom"] ["_law_text_here"] (defScope s_read) := ⟨rfl, rfl, rfl, by decide +kernel, rfl, by decide +kernel, by decide +kernel⟩
theorem sc_odd : FnScope ["_law_cell", "_law_odd_here"] ["_law_cell"] (defScope s_odd) := ⟨rfl, rfl, rfl, by decide +kernel, rfl, by decide +kernel, by decide +kernel⟩
theorem sc_spoilt : FnScope ["_law_pool_here", "_law_drawn", "_law_pair_here", "_law_text_here", "_law_how", "_law_at", "_law_times"] ["_law_pool_here"] (defScope s_spoilt) := ⟨rfl, rfl, rfl, by decide +kernel, rfl, by decide +kernel, by decide +kernel⟩
theorem sc_is : FnScope ["_law_share", "_law_pair_here", "_law_text_here"] ["_law_share", "_law_pair_here", "_law_text_here"] (defScope s_is) := ⟨rfl, rfl, rfl, by decide +kernel, rfl, by decide +kernel, by decide +kernel⟩
theorem sc_asked : FnScope ["_law_text_here", "_law_pair_here", "_law_share", "e"] ["_law_text_here"] (defScope s_asked) := ⟨rfl, rfl, rfl, by decide +kernel, rfl, by decide +kernel, by decide +kernel⟩
theorem sc_law : FnScope ["_law_script", "_law_pool_here", "_law_drawn", "_law_pair_here", "_law_text_here", "_law_share", "_law_k"] ["_law_script"] (defScope s_law) := ⟨rfl, rfl, rfl, by decide +kernel, rfl, by decide +kernel, by decide +kernel⟩
/-- where the top has put what the law uses -/
structure Adr where
  c_Share : Addr
  c_GangError : Addr
  c_BadShare : Addr
  c_BadNote : Addr
  c_BadLine : Addr
  f_GangError_init : Addr
  d_GangError_init : FuncData
  f_is_digits : Addr
  d_is_digits : FuncData
  f_Share_init : Addr
  d_Share_init : FuncData
  f_Share_text : Addr
  d_Share_text : FuncData
  f_Share_read : Addr
  d_Share_read : FuncData
  f_pool : Addr
  d_pool : FuncData
  f_draw : Addr
  d_draw : FuncData
  f_number : Addr
  d_number : FuncData
  f_signed : Addr
  d_signed : FuncData
  f_char : Addr
  d_char : FuncData
  f_whole : Addr
  d_whole : FuncData
  f_factor : Addr
  d_factor : FuncData
  f_pair : Addr
  d_pair : FuncData
  f_lowest : Addr
  d_lowest : FuncData
  f_text : Addr
  d_text : FuncData
  f_digits : Addr
  d_digits : FuncData
  f_read : Addr
  d_read : FuncData
  f_odd : Addr
  d_odd : FuncData
  f_spoilt : Addr
  d_spoilt : FuncData
  f_is : Addr
  d_is : FuncData
  f_asked : Addr
  d_asked : FuncData
  f_law : Addr
  d_law : FuncData
structure Txt (K : PySem.W.Frag) (mg : Str → Option Value) (A : Adr) : Prop where
  n_ValueError : mg "ValueError" = none
  n_abs : mg "abs" = none
  n_all : mg "all" = none
  n_bool : mg "bool" = none
  n_int : mg "int" = none
  n_isinstance : mg "isinstance" = none
  n_len : mg "len" = none
  n_range : mg "range" = none
  n_str : mg "str" = none
  g_Share : mg "Share" = some (.ref A.c_Share)
  g_GangError : mg "GangError" = some (.ref A.c_GangError)
  g_BadShare : mg "BadShare" = some (.ref A.c_BadShare)
  g_BadNote : mg "BadNote" = some (.ref A.c_BadNote)
  g_BadLine : mg "BadLine" = some (.ref A.c_BadLine)
  F_GangError_init : Fun K "__init__" "GangError.__init__" s_GangError_init A.f_GangError_init A.d_GangError_init
  b_GangError_init : Binds K A.d_GangError_init ["self", "subject"] []
  me_GangError_init : Meth K A.c_GangError "__init__" A.f_GangError_init
  F_is_digits : Fun K "is_digits" "is_digits" s_is_digits A.f_is_digits A.d_is_digits
  b_is_digits : Binds K A.d_is_digits ["text"] []
  g_is_digits : mg "is_digits" = some (.ref A.f_is_digits)
  F_Share_init : FunD K "__init__" "Share.__init__" (defArgs s_Share_init) (defBody s_Share_init) (defScope s_Share_init) [.int 1] [] A.f_Share_init A.d_Share_init
  b_Share_init : Binds K A.d_Share_init ["self", "top", "bottom"] []
  e_Share_init : ∃ ds, Vals [.int 1] ds ∧ Binds K A.d_Share_init ["self", "top", "bottom"] ds
  me_Share_init : Meth K A.c_Share "__init__" A.f_Share_init
  F_Share_text : Fun K "text" "Share.text" s_Share_text A.f_Share_text A.d_Share_text
  b_Share_text : Binds K A.d_Share_text ["self"] []
  me_Share_text : Meth K A.c_Share "text" A.f_Share_text
  F_Share_read : Fun K "read" "Share.read" s_Share_read A.f_Share_read A.d_Share_read
  b_Share_read : Binds K A.d_Share_read ["cls", "text"] []
  rd_Share : ClX.CRead K A.c_Share (.type "type")
  cm_Share_read : ∃ p, ClX.CMet K A.c_Share (.type "type") "read" p A.f_Share_read
  F_pool : Fun K "_law_pool" "_law_pool" s_pool A.f_pool A.d_pool
  b_pool : Binds K A.d_pool ["_law_script"] []
  g_pool : mg "_law_pool" = some (.ref A.f_pool)
  F_draw : Fun K "_law_draw" "_law_draw" s_draw A.f_draw A.d_draw
  b_draw : Binds K A.d_draw ["_law_pool_here", "_law_many"] []
  g_draw : mg "_law_draw" = some (.ref A.f_draw)
  F_number : Fun K "_law_number" "_law_number" s_number A.f_number A.d_number
  b_number : Binds K A.d_number ["_law_pool_here", "_law_groups"] []
  g_number : mg "_law_number" = some (.ref A.f_number)
  F_signed : Fun K "_law_signed" "_law_signed" s_signed A.f_signed A.d_signed
  b_signed : Binds K A.d_signed ["_law_pool_here", "_law_groups"] []
  g_signed : mg "_law_signed" = some (.ref A.f_signed)
  F_char : Fun K "_law_char" "_law_char" s_char A.f_char A.d_char
  b_char : Binds K A.d_char ["_law_pool_here"] []
  g_char : mg "_law_char" = some (.ref A.f_char)
  F_whole : Fun K "_law_whole" "_law_whole" s_whole A.f_whole A.d_whole
  b_whole : Binds K A.d_whole ["_law_value"] []
  g_whole : mg "_law_whole" = some (.ref A.f_whole)
  F_factor : Fun K "_law_factor" "_law_factor" s_factor A.f_factor A.d_factor
  b_factor : Binds K A.d_factor ["_law_one", "_law_other"] []
  g_factor : mg "_law_factor" = some (.ref A.f_factor)
  F_pair : Fun K "_law_pair" "_law_pair" s_pair A.f_pair A.d_pair
  b_pair : Binds K A.d_pair ["_law_pool_here", "_law_groups"] []
  g_pair : mg "_law_pair" = some (.ref A.f_pair)
  F_lowest : Fun K "_law_lowest" "_law_lowest" s_lowest A.f_lowest A.d_lowest
  b_lowest : Binds K A.d_lowest ["_law_top", "_law_bottom"] []
  g_lowest : mg "_law_lowest" = some (.ref A.f_lowest)
  F_text : Fun K "_law_text" "_law_text" s_text A.f_text A.d_text
  b_text : Binds K A.d_text ["_law_pair_here"] []
  g_text : mg "_law_text" = some (.ref A.f_text)
  F_digits : Fun K "_law_digits" "_law_digits" s_digits A.f_digits A.d_digits
  b_digits : Binds K A.d_digits ["_law_word"] []
  g_digits : mg "_law_digits" = some (.ref A.f_digits)
  F_read : Fun K "_law_read" "_law_read" s_read A.f_read A.d_read
  b_read : Binds K A.d_read ["_law_text_here"] []
  g_read : mg "_law_read" = some (.ref A.f_read)
  F_odd : Fun K "_law_odd" "_law_odd" s_odd A.f_odd A.d_odd
  b_odd : Binds K A.d_odd ["_law_cell"] []
  g_odd : mg "_law_odd" = some (.ref A.f_odd)
  F_spoilt : Fun K "_law_spoilt" "_law_spoilt" s_spoilt A.f_spoilt A.d_spoilt
  b_spoilt : Binds K A.d_spoilt ["_law_pool_here"] []
  g_spoilt : mg "_law_spoilt" = some (.ref A.f_spoilt)
  F_is : Fun K "_law_is" "_law_is" s_is A.f_is A.d_is
  b_is : Binds K A.d_is ["_law_share", "_law_pair_here", "_law_text_here"] []
  g_is : mg "_law_is" = some (.ref A.f_is)
  F_asked : Fun K "_law_asked" "_law_asked" s_asked A.f_asked A.d_asked
  b_asked : Binds K A.d_asked ["_law_text_here"] []
  g_asked : mg "_law_asked" = some (.ref A.f_asked)
  F_law : Fun K "law" "law" s_law A.f_law A.d_law
  b_law : Binds K A.d_law ["_law_script"] []
  g_law : mg "law" = some (.ref A.f_law)
  cl_Share : Cls K A.c_Share
  mk_Share : Mk K A.c_Share A.f_Share_init
  sf_Share : PySem.W.selfFirst K A.c_Share = true
  k1_Share : PySem.W.findIn K (.ref A.c_Share) "__class__" = some (some (.builtin "object.__class__"))
  k4_Share : PySem.W.mroIn K A.c_Share (.type "object") = some true
  no_Share_top : NoAttr K A.c_Share "top"
  no_Share_bottom : NoAttr K A.c_Share "bottom"
  kg : PySem.W.specialIn K (.builtin "object.__class__") "__get__" = some (some (.builtin "getset_descriptor.__get__"))
  kt : PySem.W.takesIn K (.builtin "object.__class__") = some true
  x_GangError : GExc K A.c_GangError A.f_GangError_init
  xf_GangError : XfC K A.c_GangError
  xc_GangError : ExcC K A.c_GangError
  xm_GangError : PySem.W.exmOne K (.ref A.c_GangError) (.ref A.c_GangError) = some true
  x_BadShare : GExc K A.c_BadShare A.f_GangError_init
  xf_BadShare : XfC K A.c_BadShare
  xc_BadShare : ExcC K A.c_BadShare
  xm_BadShare : PySem.W.exmOne K (.ref A.c_BadShare) (.ref A.c_GangError) = some true
  x_BadNote : GExc K A.c_BadNote A.f_GangError_init
  xf_BadNote : XfC K A.c_BadNote
  xc_BadNote : ExcC K A.c_BadNote
  xm_BadNote : PySem.W.exmOne K (.ref A.c_BadNote) (.ref A.c_GangError) = some true
  x_BadLine : GExc K A.c_BadLine A.f_GangError_init
  xf_BadLine : XfC K A.c_BadLine
  xc_BadLine : ExcC K A.c_BadLine
  xm_BadLine : PySem.W.exmOne K (.ref A.c_BadLine) (.ref A.c_GangError) = some true
  si_Share : PySem.W.subIn K (.ref A.c_Share) (.type "int") = some false
  st_int_Share : PySem.W.subIn K (.type "int") (.ref A.c_Share) = some false
  kt_int_Share : PySem.W.kitOne K (.type "int") (.ref A.c_Share) = some false
  gcd : mg "gcd" = some (.builtin "math.gcd")
  k_DIGITS : ∃ t, mg "DIGITS" = some (.str (Str.ofString "0123456789") t)
  kt_BadShare_BadShare : PySem.W.kitOne K (.ref A.c_BadShare) (.ref A.c_BadShare) = some true
  kt_BadShare_ValueError : PySem.W.kitOne K (.ref A.c_BadShare) (.type "ValueError") = some true
  kt_BadShare_BadNote : PySem.W.kitOne K (.ref A.c_BadShare) (.ref A.c_BadNote) = some false
  kt_BadShare_BadLine : PySem.W.kitOne K (.ref A.c_BadShare) (.ref A.c_BadLine) = some false

def sflds (t b : Int) : List (Str × V) := putF "bottom" (.int b) (putF "top" (.int t) [])
theorem sflds_top (t b : Int) : (sflds t b).lookup ("top" : Str) = some (.int t) := by
  unfold sflds; rw [lookup_putF, if_neg (by decide +kernel), lookup_putF, if_pos rfl]
theorem sflds_bottom (t b : Int) : (sflds t b).lookup ("bottom" : Str) = some (.int b) := by
  unfold sflds; rw [lookup_putF, if_pos rfl]
def ShareAt (A : Adr) (H : Hp) (x : Addr) (t b : Int) : Prop := ∃ dx, H x = some (.ins A.c_Share dx (sflds t b))
theorem ShareAt.mono {A : Adr} {H H' : Hp} {x : Addr} {t b : Int} (h : ShareAt A H x t b) (k : Same H H') : ShareAt A H' x t b := let ⟨dx, q⟩ := h; ⟨dx, k _ _ q⟩
/-- fewer than n bits -/
def Bits (n : Nat) (x : Int) : Prop := x.natAbs < 2 ^ n
theorem Bits.log {n : Nat} {x : Int} (h : Bits n x) (h0 : 0 < n) : x.natAbs.log2 < n := PySem.Flt.log2_lt_of h0 h
theorem Bits.le {n : Nat} {x y : Int} (h : Bits n y) (e : x.natAbs ≤ y.natAbs) : Bits n x := Nat.lt_of_le_of_lt e h
theorem Bits.up {n m : Nat} {x : Int} (h : Bits n x) (e : n ≤ m) : Bits m x := Nat.lt_of_lt_of_le h (Nat.pow_le_pow_right (by decide) e)
theorem Bits.mul {n m : Nat} {x y : Int} (h : Bits n x) (h' : Bits m y) : Bits (n + m) (x * y) := by
  unfold Bits
  rw [Int.natAbs_mul, Nat.pow_add]
  exact Nat.mul_lt_mul'' h h'
theorem Bits.neg {n : Nat} {x : Int} (h : Bits n x) : Bits n (-x) := by unfold Bits; rw [Int.natAbs_neg]; exact h
theorem Bits.abs {n : Nat} {x : Int} (h : Bits n x) : Bits n (if x < 0 then -x else x) := by split; exact h.neg; exact h
theorem Bits.one {n : Nat} (h : 0 < n) : Bits n 1 := by
  show (1 : Nat) < 2 ^ n
  exact Nat.one_lt_two_pow (by omega)
theorem Bits.ok {n m : Nat} {x y : Int} (h : Bits n x) (h' : Bits m y) (h0 : 0 < n) (h1 : 0 < m) (e : n + m ≤ 1000000) : IntMulOk x y := by
  have a := h.log h0
  have b := h'.log h1
  exact CMulW.ok (by unfold CMulW; omega)
def RefusedS (A : Adr) (E : XK) (H : Hp) (s e : Int) : Prop := ∀ t d H', Same H H' → H' t = some (.tup [.int s, .int e]) → H' d = some (.xd [(("subject" : Str), .ref t)]) → E (.ref A.c_BadShare) (some d) H'
def NewShare (A : Adr) (Q : VK) (H : Hp) (T B : Int) : Prop := ∀ x H' t b, Same H H' → ShareAt A H' x t b → Rep t b T B → Q (.ref x) H'
def spSI (A : Adr) : Sp := fun vs H Q E => ∃ (p dx : Addr) (t0 b0 : Int), vs = [.ref p, .int t0, .int b0] ∧ H p = some (.ins A.c_Share dx []) ∧ (b0 ≠ 0 → ∃ n, 0 < n ∧ n ≤ 9000 ∧ Bits n b0) ∧ (∀ t b, b0 ≠ 0 → Rep t b t0 b0 → Q .non (upd H p (.ins A.c_Share dx (sflds t b)))) ∧ (b0 = 0 → RefusedS A E H t0 b0)
theorem share_same {A : Adr} {H : Hp} {x dx : Addr} {t b : Int} (hx : H x = none) (hd : H dx = none) (hne : dx ≠ x) : Same H (upd (upd (upd H dx (.own x)) x (.ins A.c_Share dx [])) x (.ins A.c_Share dx (sflds t b))) := by
  rw [upd_upd]
  exact (same_new hd).trans (same_new (by rw [upd_ne hne.symm]; exact hx))
theorem share_made {A : Adr} {H : Hp} {Q : VK} {E : XK} {t0 b0 : Int} {n : Nat} (hb : b0 ≠ 0) (h0 : 0 < n) (h1 : n ≤ 9000) (hB : Bits n b0) (k : NewShare A Q H t0 b0) : ∀ x dx, H x = none → H dx = none → dx ≠ x →
    spSI A (.ref x :: ([.int t0, .int b0] ++ [])) (upd (upd H dx (.own x)) x (.ins A.c_Share dx [])) (fun v H2 => v = .non ∧ Q (.ref x) H2) E := by
  intro x dx hx hd hne
  exact ⟨x, dx, t0, b0, rfl, upd_same, fun _ => ⟨n, h0, h1, hB⟩, fun t b _ r => ⟨rfl, k x _ t b (share_same hx hd hne) ⟨dx, upd_same⟩ r⟩, fun c => absurd c hb⟩
theorem rep_trans {t b T B t2 b2 : Int} (h : t2 * b = t * b2) (e : t * B = T * b) (hb : b ≠ 0) : t2 * B = T * b2 := by
  refine Int.eq_of_mul_eq_mul_right hb ?_
  calc t2 * B * b = (t2 * b) * B := by rw [Int.mul_assoc, Int.mul_comm B b, ← Int.mul_assoc]
    _ = (t * b2) * B := by rw [h]
    _ = (t * B) * b2 := by rw [Int.mul_assoc, Int.mul_comm b2 B, ← Int.mul_assoc]
    _ = (T * b) * b2 := by rw [e]
    _ = T * b2 * b := by rw [Int.mul_assoc, Int.mul_comm b b2, ← Int.mul_assoc]
theorem pos_of_mul {x y : Int} (h : 0 < x * y) (hy : 0 < y) : 0 < x := by
  rcases Int.lt_or_le 0 x with c | c
  · exact c
  · have := Int.mul_le_mul_of_nonneg_right c (Int.le_of_lt hy)
    rw [Int.zero_mul] at this
    omega
theorem neg_of_mul {x y : Int} (h : x * y < 0) (hy : 0 < y) : x < 0 := by
  rcases Int.lt_or_le x 0 with c | c
  · exact c
  · have := Int.mul_nonneg c (Int.le_of_lt hy)
    omega
def sg (t : Int) : Int := if t < 0 then -1 else if 0 < t then 1 else 0
theorem sgn_pos {t b T B : Int} (hb : 1 ≤ b) (hB : B ≠ 0) (e : t * B = T * b) : (0 < t ↔ 0 < T * B) ∧ (t < 0 ↔ T * B < 0) := by
  have q : t * (B * B) = (T * B) * b := by rw [← Int.mul_assoc, e, Int.mul_assoc, Int.mul_comm b B, ← Int.mul_assoc]
  have p2 : 0 < B * B := by
    rcases Int.lt_or_gt_of_ne hB with h | h
    · exact Int.mul_pos_of_neg_of_neg h h
    · exact Int.mul_pos h h
  generalize hP : T * B = P at q ⊢
  generalize hS : B * B = S at q p2
  have hb' : 0 < b := by omega
  refine ⟨⟨fun h => ?_, fun h => ?_⟩, ⟨fun h => ?_, fun h => ?_⟩⟩
  · have := Int.mul_pos h p2
    rw [q] at this
    exact pos_of_mul this hb'
  · have := Int.mul_pos h hb'
    rw [← q] at this
    exact pos_of_mul this p2
  · have := Int.mul_neg_of_neg_of_pos h p2
    rw [q] at this
    exact neg_of_mul this hb'
  · have := Int.mul_neg_of_neg_of_pos h hb'
    rw [← q] at this
    exact neg_of_mul this p2
def spBool (A : Adr) : Sp := fun vs H Q _ => ∃ (a : Addr) (t b : Int), vs = [.ref a] ∧ ShareAt A H a t b ∧ Q (.bl (!decide (V.int t = V.int 0))) H
def spSign (A : Adr) : Sp := fun vs H Q _ => ∃ (a : Addr) (t b : Int), vs = [.ref a] ∧ ShareAt A H a t b ∧ Q (.int (sg t)) H
def spNeg (A : Adr) : Sp := fun vs H Q _ => ∃ (a : Addr) (t b : Int) (n : Nat), vs = [.ref a] ∧ ShareAt A H a t b ∧ 1 ≤ b ∧ 0 < n ∧ n ≤ 9000 ∧ Bits n b ∧ NewShare A Q H (-t) b
def spAbs (A : Adr) : Sp := fun vs H Q _ => ∃ (a : Addr) (t b : Int) (n : Nat), vs = [.ref a] ∧ ShareAt A H a t b ∧ 1 ≤ b ∧ 0 < n ∧ n ≤ 9000 ∧ Bits n b ∧ NewShare A Q H (if t < 0 then -t else t) b
def spEq (K : PySem.W.Frag) (A : Adr) : Sp := fun vs H Q _ => ∃ (a : Addr) (y : V) (t b : Int), vs = [.ref a, y] ∧ ShareAt A H a t b ∧ ((∃ c t' b', y = .ref c ∧ ShareAt A H c t' b' ∧ Q (.bl (decide (t = t' ∧ b = b'))) H) ∨ (∃ ty, TyX K H y ty ∧ PySem.W.kitOne K ty (.ref A.c_Share) = some false ∧ Q (.bl false) H))
def spNumber : Sp := fun vs H Q _ => ∃ (p : Addr) (g : Nat), vs = [.ref p, .int g] ∧ PoolAt H p ∧ 1 ≤ g ∧ g ≤ 10 ∧ ∀ r H', 0 ≤ r → r < 1000 ^ g → PoolAt H' p → SameBut p H H' → Q (.int r) H'
def spSigned : Sp := fun vs H Q _ => ∃ (p : Addr) (g : Nat), vs = [.ref p, .int g] ∧ PoolAt H p ∧ 1 ≤ g ∧ g ≤ 10 ∧ ∀ r H', Bits (10 * g) r → PoolAt H' p → SameBut p H H' → Q (.int r) H'
theorem bits_of {r : Int} {g : Nat} (h0 : 0 ≤ r) (h : r < 1000 ^ g) : Bits (10 * g) r := by
  have e : ∀ k : Nat, (1000 : Int) ^ k ≤ ((2 ^ (10 * k) : Nat) : Int) := by
    intro k
    induction k with
    | zero => decide
    | succ k ih =>
      rw [Int.pow_succ, Nat.mul_succ, Nat.pow_add]
      have : (2 : Nat) ^ 10 = 1024 := by decide
      rw [this, Int.natCast_mul]
      have p : (0 : Int) ≤ ((2 ^ (10 * k) : Nat) : Int) := Int.natCast_nonneg _
      generalize ((2 ^ (10 * k) : Nat) : Int) = Z at *
      generalize (1000 : Int) ^ k = Y at *
      omega
  have := e g
  unfold Bits
  omega
def spWhole : Sp := fun vs H Q _ => ∃ i : Int, vs = [.int i] ∧ Q (.bl true) H

open GR GN SX TL NumText
theorem Bits.add {n : Nat} {x y : Int} (h : Bits n x) (h' : Bits n y) : Bits (n + 1) (x + y) := by
  unfold Bits at *
  rw [Nat.pow_succ]
  omega
structure IsTx (z : Str) (a b : Int) : Prop where
  e : z = S (txt a b)
structure IsS (z : Str) (t : List Nat) : Prop where
  e : z = S t
def spDig : Sp := fun vs H Q _ => ∃ (z : Str) (t : List Nat), vs = [.str z] ∧ IsS z t ∧ t.length ≤ 100 ∧ ∀ H', Same H H' → Q (.bl (isD t)) H'
def spTxt (A : Adr) : Sp := fun vs H Q _ => ∃ (x : Addr) (a b : Int), vs = [.ref x] ∧ ShareAt A H x a b ∧ Bits 300 a ∧ Bits 300 b ∧ Q (.str (S (txt a b))) H
def RefT (A : Adr) (E : XK) (H : Hp) (t : List Nat) : Prop := ∀ d H', Same H H' → H' d = some (.xd [(("subject" : Str), .str (S t))]) → E (.ref A.c_BadShare) (some d) H'
structure Small (t : List Nat) : Prop where
  le : t.length ≤ 70
def spRd (A : Adr) : Sp := fun vs H Q E => ∃ (z : Str) (t : List Nat), vs = [.ref A.c_Share, .str z] ∧ IsS z t ∧ Small t ∧ (∀ a b, Canon t a b → ∀ x H', Same H H' → ShareAt A H' x a b → Q (.ref x) H') ∧ ((∀ a b, ¬ Canon t a b) → RefT A E H t)
def spChar : Sp := fun vs H Q _ => ∃ p, vs = [.ref p] ∧ PoolAt H p ∧ ∀ c H', PoolAt H' p → SameBut p H H' → Q (.str (S [c])) H'
def spFactor : Sp := fun vs H Q _ => ∃ a b : Nat, vs = [.int a, .int b] ∧ b < 2 ^ 240 ∧ Q (.int (Nat.gcd a b : Nat)) H
structure BB (n : Nat) (a : Int) : Prop where
  e : Bits n a
def spPair : Sp := fun vs H Q _ => ∃ (p : Addr) (g : Nat), vs = [.ref p, .int g] ∧ PoolAt H p ∧ 1 ≤ g ∧ g ≤ 10 ∧ ∀ t a b H', BB (10 * g) a → BB (10 * g) b → b ≠ 0 → t ≠ p → PoolAt H' p → SameBut p H H' → H' t = some (.tup [.int a, .int b]) → Q (.ref t) H'
def spLow : Sp := fun vs H Q _ => ∃ a b : Int, vs = [.int a, .int b] ∧ b ≠ 0 ∧ Bits 100 a ∧ Bits 100 b ∧ ∀ p t u H', Rep t u a b → Same H H' → H' p = some (.tup [.int t, .int u]) → Q (.ref p) H'
def spLText : Sp := fun vs H Q _ => ∃ (p : Addr) (a b : Int), vs = [.ref p] ∧ H p = some (.tup [.int a, .int b]) ∧ Bits 300 a ∧ Bits 300 b ∧ ∀ z, IsTx z a b → Q (.str z) H
def spLDig : Sp := fun vs H Q _ => ∃ t : List Nat, vs = [.str (S t)] ∧ t.length ≤ 100 ∧ Q (.bl (lead t)) H
def spLRead : Sp := fun vs H Q _ => ∃ t : List Nat, vs = [.str (S t)] ∧ Small t ∧ (∀ a b, Canon t a b → ∀ p H', Same H H' → H' p = some (.tup [.int a, .int b]) → Q (.ref p) H') ∧ ((∀ a b, ¬ Canon t a b) → ∀ H', Same H H' → Q .non H')
def spLOdd : Sp := fun vs H Q _ => ∃ i : Int, vs = [.int i] ∧ 0 ≤ i ∧ i < 36 ∧ ∀ t H', t.length ≤ 10 → Same H H' → Q (.str (S t)) H'
def spSpoilt : Sp := fun vs H Q _ => ∃ p, vs = [.ref p] ∧ PoolAt H p ∧ ∀ (z : Str) t H', IsS z t → Small t → PoolAt H' p → SameBut p H H' → Q (.str z) H'
def spLIs (A : Adr) : Sp := fun vs H Q _ => ∃ (x p : Addr) (z : Str) (a b : Int), vs = [.ref x, .ref p, .str z] ∧ IsTx z a b ∧ ShareAt A H x a b ∧ H p = some (.tup [.int a, .int b]) ∧ Bits 300 a ∧ Bits 300 b ∧ Q (.bl true) H
def spAsked : Sp := fun vs H Q _ => ∃ (z : Str) (t : List Nat), vs = [.str z] ∧ IsS z t ∧ Small t ∧ ∀ H', Same H H' → Q (.bl true) H'
def spLaw (K : PySem.W.Frag) : Sp := fun vs H Q _ => ∃ (a : Addr) (ns : List Int), vs = [.ref a] ∧ SqL K H a (ns.map V.int) ∧ ns.length ≤ 63 ∧ (∀ z ∈ ns, Builtin.Int.intBits z ≤ 1048576) ∧ ∀ H', Q (.bl true) H'
abbrev lawLvl : Nat := 14
theorem str_nil {t : List Nat} : (V.str (S t) = V.str (Str.ofString "")) ↔ t = [] := by
  have e : Str.ofString "" = S [] := by decide +kernel
  rw [e]
  constructor
  · intro h; injection h with h; exact S_inj h
  · intro h; rw [h]
theorem str_eq {a b : List Nat} : (V.str (S a) = V.str (S b)) ↔ a = b := ⟨fun h => by injection h with h; exact S_inj h, fun h => by rw [h]⟩
theorem get_bl {t : List Nat} {f : Nat → Bool} {i c : Nat} {b : Bool} (h : t[i]? = some c) (e : f c = b) : ((t.map f).map V.bl)[i]? = some (.bl b) := by
  rw [List.getElem?_map, List.getElem?_map, h, ← e]; rfl
theorem small_ln {t : List Nat} {n : Nat} (h : t.length ≤ n) (e : n ≤ 16777216) : (S t).length ≤ sizeLine := by rw [S_len, sizeLine_eq]; omega
theorem S_app (t : List Nat) (x : Str) : S t ++ x = S (t ++ tl x) := by have := S_cat t (tl x); rwa [show S (tl x) = x from mk_tl x] at this
theorem isD_ne {t : List Nat} (h : t ≠ []) : isD t = (t.map fun c => decide (c ∈ digs)).all id := by
  unfold isD
  rw [decide_eq_true h, Bool.true_and, List.all_map]; rfl
theorem logB {a : Int} {n : Nat} (h : Bits n a) (h0 : 0 < n) (e : n ≤ 1920) : a.natAbs.log2 < 1920 := Nat.lt_of_lt_of_le (h.log h0) e
theorem numS (a : Int) : Str.ofString (toString a) = S (numT a) := (mk_tl _).symm
theorem numS' (a : Int) : (toString a : String) = toString a := rfl
theorem lenS {a : Int} (h : Bits 300 a) : (Str.ofString (toString a)).length ≤ 92 := by
  rw [numS, S_len]
  exact num_len (n := 300) (k := 91) h (by decide) (by decide +kernel)
theorem txt_one {a b : Int} (h : b = 1) : S (txt a b) = Str.ofString (toString a) := by
  unfold txt
  rw [if_pos h, numS]
theorem txt_two {a b : Int} (h : ¬ b = 1) : S (txt a b) = Str.ofString (toString a) ++ Str.ofString "/" ++ Str.ofString (toString b) := by
  unfold txt
  rw [if_neg h, numS, numS, slash, S_cat, S_cat]
  simp
theorem emp_app (x : Str) : Str.empty ++ x = x := TL.ext_tl (by rw [tl_append]; rfl)
theorem l_slash : (Str.ofString "/").length = 1 := by decide +kernel
theorem sg_at {x : Str} {n : Nat} {r : Int} (hn : x.length = n) (h0 : 0 ≤ r) (h1 : r < n) : ∃ c, atI x.cps.toList r = some c := by
  obtain ⟨m, rfl⟩ : ∃ m : Nat, r = (m : Int) := ⟨r.toNat, by omega⟩
  have hl : m < x.cps.toList.length := by rw [Array.length_toList]; have : x.cps.size = n := hn; omega
  exact ⟨_, atI_nat (List.getElem?_eq_getElem hl)⟩
theorem sg15 {r : Int} (h0 : 0 ≤ r) (h1 : r < 15) : ∃ c, atI (Str.ofString "0123456789/-+ _").cps.toList r = some c := sg_at (n := 15) (by decide +kernel) h0 h1
theorem Canon_uniq {t : List Nat} {a b c d : Int} (h : Canon t a b) (h' : Canon t c d) : a = c ∧ b = d := by
  have e : txt a b = txt c d := h.e.symm.trans h'.e
  have inj : ∀ {x y : Int}, numT x = numT y → x = y := fun {x y} z => by rw [← sval_num x, z, sval_num]
  by_cases hb : b = 1
  · by_cases hd : d = 1
    · subst hb hd
      exact ⟨inj e, rfl⟩
    · exfalso
      unfold txt at e
      rw [if_pos hb, if_neg hd] at e
      exact numT_free a (by rw [e]; simp)
  · by_cases hd : d = 1
    · exfalso
      unfold txt at e
      rw [if_neg hb, if_pos hd] at e
      exact numT_free c (by rw [← e]; simp)
    · have p := part_num (a := a) hb
      rw [e, part_num (a := c) hd] at p
      injection p with p1 p2
      injection p2 with _ p3
      exact ⟨(inj (S_inj p1)).symm, (inj (S_inj p3)).symm⟩
theorem Canon_bits {t : List Nat} {a b : Int} (h : Canon t a b) (hs : Small t) : Bits 300 a ∧ Bits 300 b := by
  have hl := hs.le
  have key : ∀ x : Int, (numT x).length ≤ 70 → Bits 300 x := fun x hx => by
    have h1 : (numL x.natAbs).length ≤ 70 := by
      rcases Int.lt_or_le x 0 with c | c
      · rw [numT_ng c, List.length_cons] at hx; omega
      · rw [numT_pos c] at hx; exact hx
    have := bits70 (isD_num x.natAbs) h1
    rw [numL_val] at this
    exact Nat.lt_of_lt_of_le this (Nat.pow_le_pow_right (by decide) (by decide))
  rw [h.e] at hl
  unfold txt at hl
  by_cases hb : b = 1
  · rw [if_pos hb] at hl
    subst hb
    exact ⟨key a hl, Bits.one (by decide)⟩
  · rw [if_neg hb, List.length_append, List.length_cons] at hl
    exact ⟨key a (by omega), key b (by omega)⟩
theorem sg_eq {c d : Nat} {x : Str} (e : x = ⟨#[d]⟩) : (V.str ⟨#[c]⟩ = V.str x) ↔ c = d := by subst e; simp
theorem s0 : Str.ofString "0" = ⟨#[48]⟩ := by decide +kernel
theorem odd_at {xs : List V} {n : Nat} {r : Int} (h : (xs.all fun v => match v with | .str s => decide (s.length ≤ 10) | _ => false) = true) (hn : xs.length = n) (h0 : 0 ≤ r) (h1 : r < n) : ∃ t : List Nat, atI xs r = some (.str (S t)) ∧ t.length ≤ 10 := by
  obtain ⟨m, rfl⟩ : ∃ m : Nat, r = (m : Int) := ⟨r.toNat, by omega⟩
  have hl : m < xs.length := by omega
  have e := atI_nat (List.getElem?_eq_getElem hl)
  have hm := List.all_eq_true.mp h xs[m] (List.getElem_mem hl)
  cases hx : xs[m] with
  | str s =>
    rw [hx] at hm e
    refine ⟨tl s, ?_, ?_⟩
    · rw [e]
    · rw [← len_tl]; exact of_decide_eq_true hm
  | _ => rw [hx] at hm; cases hm
theorem isD_false {t : List Nat} {i c : Nat} (h : t[i]? = some c) (hc : ¬ c ∈ digs) : isD t = false := by
  cases e : isD t
  · rfl
  · exact absurd (digs_of ((isD_iff.mp e).2 c (List.mem_of_getElem? h))) hc
theorem isD_true {t : List Nat} (hne : t ≠ []) (h : ∀ j c, j < t.length → t[j]? = some c → c ∈ digs) : isD t = true := isD_iff.mpr ⟨hne, fun c hc => by
  obtain ⟨j, hj⟩ := List.getElem?_of_mem hc
  exact digs_range (h j c (List.getElem?_eq_some_iff.mp hj).1 hj)⟩
theorem nb {b : Bool} (h : (!b) = false) : b = true := by cases b; cases h; rfl
theorem rep_same {t b t' b' T B : Int} (hB : B ≠ 0) (r : Rep t b T B) (r' : Rep t' b' T B) : t = t' ∧ b = b' := by
  refine rep_uniq r.pos r'.pos r.cop r'.cop ?_
  have e1 := r.cross
  have e2 := r'.cross
  refine Int.eq_of_mul_eq_mul_right hB ?_
  calc t * b' * B = (t * B) * b' := by rw [Int.mul_assoc, Int.mul_comm b' B, ← Int.mul_assoc]
    _ = (T * b) * b' := by rw [e1]
    _ = (T * b') * b := by rw [Int.mul_assoc, Int.mul_comm b b', ← Int.mul_assoc]
    _ = (t' * B) * b := by rw [e2]
    _ = t' * b * B := by rw [Int.mul_assoc, Int.mul_comm B b, ← Int.mul_assoc]
theorem bits_sv {w : List Nat} (h : isD (body w) = true) (hl : w.length ≤ 70) : Bits 300 (sval w) := by
  have e := bits70 h (Nat.le_trans (body_le w) hl)
  unfold Bits
  rw [sval_abs]
  exact Nat.lt_of_lt_of_le e (Nat.pow_le_pow_right (by decide) (by decide))
theorem bits_dg {w : List Nat} (h : isD w = true) (hl : w.length ≤ 70) : Bits 300 ((digitsVal w : Nat) : Int) :=
  Nat.lt_of_lt_of_le (bits70 h hl) (Nat.pow_le_pow_right (by decide) (by decide))
theorem rep_bt {n : Nat} {t u T B : Int} (r : Rep t u T B) (h : Bits n T) : Bits n t := h.le r.st
theorem rep_bb {n : Nat} {t u T B : Int} (r : Rep t u T B) (h : Bits n B) : Bits n u := h.le r.sb
theorem bl70 {t : List Nat} {n : Nat} (h : t.length ≤ n) : (body t).length ≤ n := Nat.le_trans (body_le t) h
local macro_rules | `(tactic| walk_at "gb bits") => `(tactic| (first | assumption | exact Bits.up (BB.e (by assumption)) (by first | omega | decide) | exact Bits.up (by assumption) (by first | omega | decide) | exact bits_sv (nb (by assumption)) (by omega) | exact bits_dg (nb (by assumption)) (by omega) | exact bits_sv (by assumption) (by omega) | exact bits_dg (by assumption) (by omega) | exact Bits.one (by decide) | exact Bits.up (Bits.mul (n := 40) (m := 4) (by walk_at "gb bits") (bits4 (by omega) (by omega))) (by decide) | exact rep_bt (by assumption) (by walk_at "gb bits") | exact rep_bb (by assumption) (by walk_at "gb bits") | fail))
theorem share_made2 {A : Adr} {H : Hp} {R : Addr → VK} {E : XK} {t0 b0 : Int} {n : Nat} (hb : b0 ≠ 0) (h0 : 0 < n) (h1 : n ≤ 9000) (hB : Bits n b0) (k : ∀ x H' t b, Same H H' → ShareAt A H' x t b → Rep t b t0 b0 → R x .non H') : ∀ x dx, H x = none → H dx = none → dx ≠ x →
    spSI A (.ref x :: ([.int t0, .int b0] ++ [])) (upd (upd H dx (.own x)) x (.ins A.c_Share dx [])) (R x) E := by
  intro x dx hx hd hne
  exact ⟨x, dx, t0, b0, rfl, upd_same, fun _ => ⟨n, h0, h1, hB⟩, fun t b _ r => k x _ t b (share_same hx hd hne) ⟨dx, upd_same⟩ r, fun c => absurd c hb⟩
theorem txt_le {a b : Int} (h : Bits 300 a) (h' : Bits 300 b) : (S (txt a b)).length ≤ 200 := by
  rw [S_len]
  have := txt_len (n := 300) (k := 91) h h' (by decide) (by decide +kernel)
  omega
theorem txt_sz {a b : Int} (h : Bits 300 a) (h' : Bits 300 b) : (S (txt a b)).length ≤ sizeLine := by have := txt_le h h'; rw [sizeLine_eq]; omega
theorem cut_le (z : Str) (a b : Option Int) : (cutS z a b).length ≤ z.length := by
  rw [len_tl, len_tl z]
  show ((((z.cps.toList.drop _).take _).toArray).toList).length ≤ (tl z).length
  rw [List.length_take, List.length_drop]
  show _ ≤ z.cps.toList.length
  omega
theorem sz1 {z : Str} {a b : Option Int} {c : Nat} (h : z.length ≤ 200) : (cutS z a b).length + (S [c]).length ≤ sizeLine := by
  have := cut_le z a b; have l1 : (S [c]).length = 1 := S_len [c]; rw [l1, sizeLine_eq]; omega
theorem sz2 {z : Str} {a b a' b' : Option Int} {c : Nat} (h : z.length ≤ 200) : (cutS z a b ++ S [c]).length + (cutS z a' b').length ≤ sizeLine := by
  have := cut_le z a b; have := cut_le z a' b'; have l1 : (S [c]).length = 1 := S_len [c]; rw [Str.length_append, l1, sizeLine_eq]; omega
theorem sz3 {z : Str} {a b a' b' : Option Int} (h : z.length ≤ 200) : (cutS z a b).length + (cutS z a' b').length ≤ sizeLine := by
  have := cut_le z a b; have := cut_le z a' b'; rw [sizeLine_eq]; omega
theorem sz5 {i : Int} (h : Bits 300 i) : (Str.ofString (toString i)).length + (Str.ofString "/").length ≤ sizeLine := by
  have := lenS h; have := l_slash; rw [sizeLine_eq]; omega
theorem sz6 {i j : Int} (h : Bits 300 i) (h' : Bits 300 j) : (Str.ofString (toString i) ++ Str.ofString "/").length + (Str.ofString (toString j)).length ≤ sizeLine := by
  have := lenS h; have := lenS h'; have := l_slash; rw [Str.length_append, sizeLine_eq]; omega
theorem bits4 {k : Int} (h : 0 ≤ k) (h' : k < 16) : Bits 4 k := by unfold Bits; omega
theorem tx_le {z : Str} {a b : Int} (e : IsTx z a b) (h : Bits 300 a) (h' : Bits 300 b) : z.length ≤ 200 := by rw [e.e]; exact txt_le h h'
theorem tx_sz {z : Str} {a b : Int} (e : IsTx z a b) (h : Bits 300 a) (h' : Bits 300 b) : z.length ≤ sizeLine := by have := tx_le e h h'; rw [sizeLine_eq]; omega
theorem small_txt {a b : Int} (h : Bits 100 a) (h' : Bits 100 b) : Small (txt a b) := ⟨by have := txt_len (n := 100) (k := 31) h h' (by decide) (by decide +kernel); omega⟩
theorem tx_30 {z : Str} {a b : Int} (e : IsTx z a b) (h : Bits 40 a) (h' : Bits 40 b) : z.length ≤ 30 := by
  rw [e.e, S_len]; have := txt_len (n := 40) (k := 13) h h' (by decide) (by decide +kernel); omega
theorem len45 {a : Int} (h : Bits 44 a) : (Str.ofString (toString a)).length ≤ 15 := by
  rw [numS, S_len]
  exact num_len (n := 44) (k := 14) h (by decide) (by decide +kernel)
theorem len1 (c : Nat) : (S [c]).length = 1 := S_len [c]
theorem numT_ge {b : Int} (h : 1 ≤ b) : numT b = numL b.natAbs := numT_pos (by omega)
theorem canon_part {t pp ss qq : List Nat} {a b : Int} (hc : Canon t a b) (hp : Txt.partition (S t) (Str.ofString "/") = (S pp, S ss, S qq)) : pp = numT a ∧ ((b = 1 ∧ V.str (S ss) = V.str (Str.ofString "")) ∨ (b ≠ 1 ∧ ¬ V.str (S ss) = V.str (Str.ofString "") ∧ qq = numL b.natAbs)) := by
  have ht := hc.e
  by_cases hb : b = 1
  · subst hb
    rw [ht, part_one] at hp
    injection hp with h1 h2
    injection h2 with h2 h3
    exact ⟨(S_inj h1).symm, .inl ⟨rfl, str_nil.mpr (S_inj h2).symm⟩⟩
  · rw [ht, part_num hb] at hp
    injection hp with h1 h2
    injection h2 with h2 h3
    refine ⟨(S_inj h1).symm, .inr ⟨hb, fun z => ?_, ?_⟩⟩
    · have e := str_nil.mp z
      rw [← S_inj h2] at e
      cases e
    · rw [← numT_ge hc.pos]; exact (S_inj h3).symm
theorem nb' {b : Bool} (h : (!b) = true) : b = false := by cases b; rfl; cases h
theorem canon_back {t : List Nat} {a b t' b' : Int} (hc : Canon t a b) (r : Rep t' b' a b) : V.str (S (txt t' b')) = V.str (S t) := by
  obtain ⟨e1, e2⟩ := rep_uniq r.pos hc.pos r.cop hc.cop r.cross
  rw [e1, e2, hc.e]
theorem share_but {A : Adr} {H H' : Hp} {x p : Addr} {a b : Int} (h : ShareAt A H x a b) (n : x ≠ p) (s : SameBut p H H') : ShareAt A H' x a b := let ⟨dx, e⟩ := h; ⟨dx, s _ _ n e⟩
theorem share_np {A : Adr} {H : Hp} {x p : Addr} {a b : Int} (h : ShareAt A H x a b) (P : PoolAt H p) : x ≠ p := by
  obtain ⟨dx, e⟩ := h
  obtain ⟨x1, x2, x3, x4, xs, hp, _, _⟩ := P
  intro z; rw [z, hp] at e; cases e
theorem tup_np {H : Hp} {x p : Addr} {vs : List V} (e : H x = some (.tup vs)) (P : PoolAt H p) : x ≠ p := by
  obtain ⟨x1, x2, x3, x4, xs, hp, _, _⟩ := P
  intro z; rw [z, hp] at e; cases e
theorem cat3 {z : Str} {a b a' b' : Option Int} {c : Nat} (h : z.length ≤ 30) : (cutS z a b ++ S [c] ++ cutS z a' b').length ≤ 61 := by
  have := cut_le z a b; have := cut_le z a' b'; have l1 : (S [c]).length = 1 := S_len [c]; rw [Str.length_append, Str.length_append, l1]; omega
theorem cat2 {z : Str} {a b a' b' : Option Int} (h : z.length ≤ 30) : (cutS z a b ++ cutS z a' b').length ≤ 61 := by
  have := cut_le z a b; have := cut_le z a' b'; rw [Str.length_append]; omega
theorem cat5 {i j k : Int} (h : Bits 40 i) (h' : Bits 40 j) (h0 : 0 ≤ k) (h1 : k < 16) : (Str.ofString (toString (i * k)) ++ Str.ofString "/" ++ Str.ofString (toString (j * k))).length ≤ 61 := by
  have := len45 (h.mul (bits4 h0 h1)); have := len45 (h'.mul (bits4 h0 h1)); have := l_slash; rw [Str.length_append, Str.length_append]; omega
theorem cut_take {t : List Nat} : cutS (S t) none (some 1) = S (t.take 1) := by
  have e := HT.sIx_nat (S t).length (S t).length 1
  unfold cutS
  rw [show (some (1 : Int)) = some ((1 : Nat) : Int) from rfl, e, HT.sIx_none, S_len]
  show S ((t.drop 0).take _) = _
  rw [List.drop_zero, Nat.sub_zero]
  congr 1
  cases t with
  | nil => rfl
  | cons c r => rw [Nat.min_eq_left (by simp)]
theorem cut_drop {t : List Nat} : cutS (S t) (some 1) none = S (t.drop 1) := by
  have e := HT.sIx_nat (S t).length 0 1
  unfold cutS
  rw [show (some (1 : Int)) = some ((1 : Nat) : Int) from rfl, e, HT.sIx_none, S_len]
  cases t with
  | nil => rfl
  | cons c r =>
    rw [Nat.min_eq_left (by simp)]
    show S (((c :: r).drop 1).take _) = _
    rw [List.take_of_length_le (by rw [List.length_drop]; omega)]
theorem sign_yes {t : List Nat} (h : t[0]? = some 45) : V.str (cutS (S t) none (some 1)) = V.str (Str.ofString "-") := by
  rw [cut_take, minus]
  cases t with
  | nil => cases h
  | cons c r => have e : c = 45 := by simpa using h
                rw [e]; rfl
theorem sign_no {t : List Nat} (h : ¬ t[0]? = some 45) : ¬ V.str (cutS (S t) none (some 1)) = V.str (Str.ofString "-") := by
  rw [cut_take, minus]
  intro z
  have e := str_eq.mp z
  cases t with
  | nil => cases e
  | cons c r => exact h (by have : c = 45 := by simpa using e
                            rw [this]; rfl)
theorem canon_ps {t : List Nat} {ps : List (List Nat)} {a b : Int} (hc : Canon t a b) (hp : Txt.split (S (body t)) (Str.ofString "/") = ps.map S) : ((b = 1 ∧ ps = [numL a.natAbs]) ∨ (b ≠ 1 ∧ ps = [numL a.natAbs, numL b.natAbs])) ∧ (t[0]? = some 45 ↔ a < 0) := by
  have inj : ∀ {l m : List (List Nat)}, l.map S = m.map S → l = m := fun {l m} h => by
    have := congrArg (List.map tl) h
    rwa [map_S_tl, map_S_tl] at this
  rw [hc.e] at hp ⊢
  unfold txt at hp ⊢
  by_cases hb : b = 1
  · rw [if_pos hb] at hp ⊢
    rw [body_num0, (split_num (m := a.natAbs) (n := 0)).2] at hp
    exact ⟨.inl ⟨hb, (inj hp).symm⟩, by have := (body_num a []).2; rwa [List.append_nil] at this⟩
  · rw [if_neg hb] at hp ⊢
    rw [(body_num a _).1, numT_ge hc.pos, split_num.1] at hp
    exact ⟨.inr ⟨hb, (inj hp).symm⟩, (body_num a _).2⟩
theorem t_neg {t : List Nat} (h : t[0]? = some 45) : t = 45 :: t.drop 1 := by
  cases t with
  | nil => cases h
  | cons c r => have e : c = 45 := by simpa using h
                rw [e]; rfl
theorem mk_pos1 {t p : List Nat} (hj : joinL [47] [p] = t) (hl : lead p = true) : Canon t ((digitsVal p : Nat) : Int) 1 := by
  have e : p = t := hj
  refine ⟨?_, by decide, by simp⟩
  unfold txt
  rw [if_pos rfl, numT_nat, (lead_back hl).2, e]
theorem mk_neg1 {t p : List Nat} (h : t[0]? = some 45) (hj : joinL [47] [p] = t.drop 1) (hl : lead p = true) (h0 : ¬ ((digitsVal p : Nat) : Int) = 0) : Canon t (-((digitsVal p : Nat) : Int)) 1 := by
  have e : p = t.drop 1 := hj
  refine ⟨?_, by decide, by simp⟩
  unfold txt
  rw [if_pos rfl, numT_neg _ (by omega), (lead_back hl).2, e]
  exact t_neg h
theorem mk_pos2 {t p q : List Nat} (hj : joinL [47] [p, q] = t) (hl : lead p = true) (hq : lead q = true) (h2 : ¬ ((digitsVal q : Nat) : Int) < 2) (hg : ((Nat.gcd (digitsVal p) (digitsVal q) : Nat) : Int) = 1) : Canon t ((digitsVal p : Nat) : Int) ((digitsVal q : Nat) : Int) := by
  have e : p ++ 47 :: q = t := hj
  refine ⟨?_, by omega, by exact_mod_cast hg⟩
  unfold txt
  rw [if_neg (by omega), numT_nat, numT_nat, (lead_back hl).2, (lead_back hq).2, e]
theorem mk_neg2 {t p q : List Nat} (h : t[0]? = some 45) (hj : joinL [47] [p, q] = t.drop 1) (hl : lead p = true) (hq : lead q = true) (h0 : ¬ ((digitsVal p : Nat) : Int) = 0) (h2 : ¬ ((digitsVal q : Nat) : Int) < 2) (hg : ((Nat.gcd (digitsVal p) (digitsVal q) : Nat) : Int) = 1) : Canon t (-((digitsVal p : Nat) : Int)) ((digitsVal q : Nat) : Int) := by
  have e : p ++ 47 :: q = t.drop 1 := hj
  refine ⟨?_, by omega, by rw [Int.natAbs_neg]; exact_mod_cast hg⟩
  unfold txt
  rw [if_neg (by omega), numT_neg _ (by omega), numT_nat, (lead_back hl).2, (lead_back hq).2, List.cons_append, e]
  exact t_neg h
theorem isLead {w : List Nat} (h : (!lead w) = false) : isD w = true := (lead_back (nb h)).1
theorem join1 {p : List Nat} {t : List Nat} {n : Nat} (hj : joinL [47] [p] = t) (h : t.length ≤ n) : p.length ≤ n := by have e : p = t := hj; rw [e]; exact h
theorem join2 {p q : List Nat} {t : List Nat} {n : Nat} (hj : joinL [47] [p, q] = t) (h : t.length ≤ n) : p.length ≤ n ∧ q.length ≤ n := by
  have e : p ++ 47 :: q = t := hj
  rw [← e, List.length_append, List.length_cons] at h
  omega
theorem no1 {t p : List Nat} {ps : List (List Nat)} {a b : Int} (hc : Canon t a b) (hp : Txt.split (S (body t)) (Str.ofString "/") = ps.map S) (e : ps = [p]) : b = 1 ∧ p = numL a.natAbs := by
  rcases (canon_ps hc hp).1 with ⟨h, h2⟩ | ⟨h, h2⟩
  · rw [e] at h2; injection h2 with h2; exact ⟨h, h2⟩
  · rw [e] at h2; cases h2
theorem no2 {t p q : List Nat} {ps : List (List Nat)} {a b : Int} (hc : Canon t a b) (hp : Txt.split (S (body t)) (Str.ofString "/") = ps.map S) (e : ps = [p, q]) : b ≠ 1 ∧ p = numL a.natAbs ∧ q = numL b.natAbs := by
  rcases (canon_ps hc hp).1 with ⟨h, h2⟩ | ⟨h, h2⟩
  · rw [e] at h2; cases h2
  · rw [e] at h2; injection h2 with h2 h3; injection h3 with h3; exact ⟨h, h2, h3⟩
theorem small_z {z : Str} {n : Nat} (h : z.length ≤ n) (e : n ≤ 70) : Small (tl z) := ⟨by rw [← len_tl]; omega⟩
theorem isS_tl (z : Str) : IsS z (tl z) := ⟨(mk_tl z).symm⟩
theorem pool_mono {H H' : Hp} {p : Addr} (s : Same H H') (P : PoolAt H p) : PoolAt H' p := P.mono s
local macro_rules | `(tactic| walk_at "gb pool") => `(tactic| (first | assumption | (refine pool_mono (by assumption) ?_; walk_at "gb pool") | fail))
local macro_rules | `(tactic| walk_at "gb same") => `(tactic| ((with_reducible show Same _ _); first | assumption | exact Same.refl _ | ((with_reducible show Same _ (upd _ _ _)); first | (refine same_nw ?_ (by assumption); walk_at "gb same") | (refine same_put ?_ (by assumption); walk_at "gb same")) | (refine Same.trans ?_ (by assumption); walk_at "gb same") | fail))
local macro_rules | `(tactic| walk_at "gb but") => `(tactic| ((with_reducible show SameBut _ _ _); first | assumption | exact SameBut.refl | (refine Same.but ?_; (first | assumption | exact Same.refl _ )) | ((with_reducible show SameBut _ _ (upd _ _ _)); first | (refine but_own ?_; walk_at "gb but") | (refine put_but ?_ (by assumption); walk_at "gb but") | (refine but_nw ?_ (by assumption); walk_at "gb but")) | (refine SameBut.trans ?_ (by assumption); walk_at "gb but") | (refine SameBut.trans ?_ (Same.but (by assumption)); walk_at "gb but") | fail))
local macro_rules | `(tactic| walk_at "gb ne") => `(tactic| ((with_reducible show _ ≠ _); first | assumption | exact Ne.symm (by assumption) | exact none_ne (by assumption) (by walk_at "gb hp") | exact Ne.symm (none_ne (by assumption) (by walk_at "gb hp")) | ((refine ne_of (by assumption) ?h2 ?d2); (case h2 => walk_at "gb hp"); (case d2 => (intro z; cases z))) | fail))
local macro_rules | `(tactic| walk_at "gb hp") => `(tactic| ((with_reducible show _ = some _); first | assumption | ((with_reducible show upd _ _ _ _ = some _); first | exact upd_same | (refine upd_fr ?_ (by assumption); walk_at "gb hp") | (refine upd_df ?_ (by walk_at "gb ne"); walk_at "gb hp")) | (refine (by assumption : Same _ _) _ _ ?_; walk_at "gb hp") | (refine (by assumption : SameBut _ _ _) _ _ (by walk_at "gb ne") ?_; walk_at "gb hp") | ((with_reducible show _ = some (HO.ins _ _ _)); first | exact Exists.choose_spec (by assumption : ShareAt _ _ _ _ _) | exact Exists.choose_spec (ShareAt.mono (by assumption) (by walk_at "gb same")) | fail) | fail))
local macro_rules | `(tactic| walk_at "gb leaf") => `(tactic| (first | ((with_reducible show IntMulOk _ _); first | exact Bits.ok (n := 40) (m := 4) (by walk_at "gb bits") (bits4 (by omega) (by omega)) (by decide) (by decide) (by decide) |  exact mulR ⟨by omega, by omega⟩ | exact mulL ⟨by omega, by omega⟩) | ((first | (with_reducible show @LE.le _ _ _ _) | (with_reducible show @LT.lt _ _ _ _)); (first | (first | omega | decide +kernel | (simp only [List.length_append, List.length_map, List.length_cons, List.length_nil, List.length_take, List.length_zipWith, List.length_replicate]; omega) | (rw [sizeLine_eq]; (first | omega | (simp only [List.length_append, List.length_map, List.length_cons, List.length_nil, List.length_take, List.length_zipWith, List.length_replicate]; omega))) | (simp only [List.length_append, List.length_map, List.length_cons, List.length_nil, List.length_take, List.length_zipWith, List.length_replicate] at *; omega) | fail) | assumption | ((with_reducible show @LT.lt Nat _ _ _); exact bits70 (isLead (by assumption)) (by omega)) | ((with_reducible show @LT.lt Int _ _ _); have hzz := tx_le (by assumption) (by walk_at "gb bits") (by walk_at "gb bits"); omega) | ((with_reducible show Nat.log2 _ < _); exact logB (by assumption) (by decide) (by decide)) | ((with_reducible show Nat.log2 _ < _); exact logB (n := 300) (by walk_at "gb bits") (by decide) (by decide)) | ((with_reducible show @LE.le Nat _ _ _); first | (rw [S_len, sizeLine_eq]; omega) | (rw [S_len]; omega) | exact tx_sz (by assumption) (by walk_at "gb bits") (by walk_at "gb bits") | exact sz1 (tx_le (by assumption) (by walk_at "gb bits") (by walk_at "gb bits")) | exact sz2 (tx_le (by assumption) (by walk_at "gb bits") (by walk_at "gb bits")) | exact sz3 (tx_le (by assumption) (by walk_at "gb bits") (by walk_at "gb bits")) | exact sz5 (by walk_at "gb bits") | exact sz6 (by walk_at "gb bits") (by walk_at "gb bits") | exact bl70 (by omega) | (rw [sizeLine_eq]; simp only [Str.length_append]; omega) | exact small_ln (by assumption) (by decide) | fail) | fail)) | ((fail_if_success (with_reducible show IntMulOk _ _)); (fail_if_success (first | (with_reducible show @LE.le _ _ _ _) | (with_reducible show @LT.lt _ _ _ _))); first | exact rfl | assumption | ((with_reducible show _ = _); walk_at "gb hp") | (first | exact (by assumption : Txt _ _ _).x_BadShare | exact (by assumption : Txt _ _ _).xc_BadShare | exact (by assumption : Txt _ _ _).xm_BadShare | exact (by assumption : Txt _ _ _).kt_BadShare_BadShare | exact (by assumption : Txt _ _ _).kt_BadShare_ValueError | exact (by assumption : Txt _ _ _).kt_BadShare_BadNote | exact (by assumption : Txt _ _ _).kt_BadShare_BadLine | exact (by assumption : Txt _ _ _).cl_Share | exact (by assumption : Txt _ _ _).no_Share_top | exact (by assumption : Txt _ _ _).no_Share_bottom | fail) | (first | exact .own _ | exact .ty _ | exact .base (.int _) | exact .base (.str _) | exact .base (.tup (by walk_at "gb hp")) | exact .base (.lst (by walk_at "gb hp")) | exact kit_same | exact kit_ty (by decide +kernel) | exact .base .non | exact .base (.ins (by assumption) (by assumption : Txt _ _ _).cl_Share (by assumption : Txt _ _ _).k1_Share (by assumption : Txt _ _ _).kg (by assumption : Txt _ _ _).kt (by assumption : Txt _ _ _).k4_Share) | fail) | (first | ((with_reducible show SqL _ _ _ _); exact SqL.of (by walk_at "gb hp")) | ((with_reducible show SqT _ _ _ _); exact SqT.of (by walk_at "gb hp")) | ((with_reducible show SqL _ _ _ _ ∨ _); exact Or.inl (SqL.of (by walk_at "gb hp"))) | ((with_reducible show _ ∨ SqT _ _ _ _); exact Or.inr (SqT.of (by walk_at "gb hp"))) | ((with_reducible show SqT _ _ _ _ ∨ _); exact Or.inl (SqT.of (by walk_at "gb hp"))) | ((with_reducible show _ ∨ SqL _ _ _ _); exact Or.inr (SqL.of (by walk_at "gb hp"))) | ((with_reducible show ∃ _, SqT _ _ _ _); exact ⟨_, SqT.of (by walk_at "gb hp")⟩) | ((with_reducible show ∃ _, SqL _ _ _ _); exact ⟨_, SqL.of (by walk_at "gb hp")⟩) | fail) | (first | exact Or.inl ⟨rfl, _, SqL.of (by walk_at "gb hp")⟩ | exact .lst (SqL.of (by walk_at "gb hp")) (dpInts _) | exact .tup (SqT.of (by walk_at "gb hp")) (dpInts _) | exact .lst (SqL.of (by walk_at "gb hp")) (dpStrs _) | exact .tup (SqT.of (by walk_at "gb hp")) (dpStrs _) | exact .lst (SqL.of (by walk_at "gb hp")) .nil | exact .int _ | exact .str _ | exact .non | exact shL _ | exact shT _ | exact shSL (by assumption) | exact shST (by assumption) | exact fun _ h => h | exact flat_str _ | exact flat_int _ | fail) | (first | assumption | ((with_reducible show PoolAt _ _); first | walk_at "gb pool" | exact PoolAt.mono (by assumption) (by walk_at "gb same")) | ((with_reducible show ShareAt _ _ _ _ _); first | assumption | exact ShareAt.mono (by assumption) (by walk_at "gb same")) | fail) | walk_at "gb same" | walk_at "gb but" | (first | omega | decide +kernel | (simp only [List.length_append, List.length_map, List.length_cons, List.length_nil, List.length_take, List.length_zipWith, List.length_replicate]; omega) | (rw [sizeLine_eq]; (first | omega | (simp only [List.length_append, List.length_map, List.length_cons, List.length_nil, List.length_take, List.length_zipWith, List.length_replicate]; omega))) | (simp only [List.length_append, List.length_map, List.length_cons, List.length_nil, List.length_take, List.length_zipWith, List.length_replicate] at *; omega) | fail) | exact ⟨by omega, by omega⟩ | ((with_reducible show intText? _ = _); exact int_dig (isLead (by assumption)) (by omega)) | exact ⟨IsTx.e (by assumption)⟩ | exact small_txt (by walk_at "gb bits") (by walk_at "gb bits") | exact ⟨rmp _⟩ | exact ⟨rfl⟩ | ((with_reducible show Bits _ _); walk_at "gb bits") | ((with_reducible show intText? _ = _); first | exact int_sdig (nb (by assumption)) (by omega) | exact int_dig (nb (by assumption)) (by omega) | fail) | exact (sg15 (by omega) (by omega)).choose_spec | exact (sg_at (n := 95) (by decide +kernel) (by omega) (by omega)).choose_spec | exact (odd_at (n := 36) (by decide +kernel) rfl (by omega) (by omega)).choose_spec.1 | fail | fail) | fail))
local macro_rules | `(tactic| walk_at "gb num") => `(tactic| (first | omega | decide +kernel | (simp only [List.length_append, List.length_map, List.length_cons, List.length_nil, List.length_take, List.length_zipWith, List.length_replicate]; omega) | (rw [sizeLine_eq]; (first | omega | (simp only [List.length_append, List.length_map, List.length_cons, List.length_nil, List.length_take, List.length_zipWith, List.length_replicate]; omega))) | (simp only [List.length_append, List.length_map, List.length_cons, List.length_nil, List.length_take, List.length_zipWith, List.length_replicate] at *; omega) | fail))
local macro_rules | `(tactic| walk_at "gb step") => `(tactic| (first | ((with_reducible show RaiseG _ _ _ _ _ _); refine raiseG_in (by first | exact (by assumption : Txt _ _ _).x_BadShare | exact (by assumption : Txt _ _ _).xc_BadShare | exact (by assumption : Txt _ _ _).xm_BadShare | exact (by assumption : Txt _ _ _).kt_BadShare_BadShare | exact (by assumption : Txt _ _ _).kt_BadShare_ValueError | exact (by assumption : Txt _ _ _).kt_BadShare_BadNote | exact (by assumption : Txt _ _ _).kt_BadShare_BadLine | exact (by assumption : Txt _ _ _).cl_Share | exact (by assumption : Txt _ _ _).no_Share_top | exact (by assumption : Txt _ _ _).no_Share_bottom | fail) ?_) | ((show _ ∧ _); refine And.intro (by walk_at "gb leaf") ?_) | ((show (_ → _) ∧ (_ ≠ _ → _)); refine And.intro (fun _ => ?_) (fun h => absurd (by first | assumption | omega | (simp only [List.length_append, List.length_map, List.length_cons, List.length_nil, List.length_take, List.length_zipWith, List.length_replicate]; omega)) h)) | ((show Exists _); refine ⟨_, fun (_ : L2.St) (_ : Hp) h => h, ?_⟩) | ((show Exists _);  (fail_if_success show ∃ mm : Nat, mm < _ ∧ _); (fail_if_success refine Exists.intro (fun (_ : L2.St) (_ : Hp) => True) ?_); (fail_if_success refine Exists.intro (fun _ _ _ _ => True) ?_); (fail_if_success refine Exists.intro (fun _ _ _ => True) ?_); apply Exists.intro) | ((show ite _ _ _); (try (first | rw [eqv00] | rw [eqvL, decide_eq_true rfl] | rw [eqvT, decide_eq_true rfl] | rw [eqvL] | rw [eqvT] | rw [eqvSL, decide_eq_true rfl] | rw [eqvST, decide_eq_true rfl] | rw [eqvSL0] | rw [eqvSL] | rw [eqvST] | rw [inV_strs] | rw [inV_kv])); ((first | refine iteT ?_ | refine iteF ?_ | refine iteI (fun _ => ?_) (fun _ => ?_) | refine iteIN (fun _ => ?_) (fun _ => ?_) | refine iteD (fun _ => ?_) (fun _ => ?_) | refine iteDN (fun _ => ?_) (fun _ => ?_) | refine iteB (fun _ => ?_) (fun _ => ?_)) <;> try (exfalso; first | contradiction | omega | fail | (rename_i hcc; revert hcc; simp; done)))) | ((show _ ∨ _); (first | (refine Or.inl ?_; apply Exists.intro; refine And.intro (by walk_at "gb leaf") ?_) | (refine Or.inr ?_; apply Exists.intro; refine And.intro (by walk_at "gb leaf") ?_) | (refine Or.inl (And.intro (by walk_at "gb leaf") ?_)) | (refine Or.inr (And.intro (by walk_at "gb leaf") ?_)))) | ((conv => whnf); (with_reducible show ∀ (x dx : Addr), _ = none → _ = none → dx ≠ x → _); first | (refine share_made2 (n := 300) (by first | assumption | omega | decide | fail) (by decide) (by decide) (by walk_at "gb bits") ?_)) | (first | ((with_reducible show Same _ _); walk_at "gb same") | ((with_reducible show SameBut _ _ _); walk_at "gb but")) | fail | intro _))
local macro_rules | `(tactic| walk_at "gb go") => `(tactic| (repeat' walk_at "gb step"))

section
variable {P : Program} {w : World} {K : PySem.W.Frag} {mg : Str → Option Value} {base : Heap} {A : Adr}
theorem ok_GangError_init (T : Txt K mg A) : FnOk P w K mg base CX0 1 A.f_GangError_init A.d_GangError_init ["self", "subject"] (spGI K) := by
  refine T.F_GangError_init.ok sc_GangError_init (fun vs H Q E h => ?_) (fun cdv Ar outer s H vs Q E hr h => ?_)
  · obtain ⟨a, C, v, rfl, _⟩ := h
    rfl
  · obtain ⟨a, C, v, rfl, hT, hn, ha, k⟩ := h
    refine ⟨_, (pss_one (ps_ost (pv 0) (pv 1))), ?_⟩
    exact ⟨_, rfl, _, rfl, a, C, rfl, hT, hn, .inl ⟨ha, k⟩⟩
theorem ok_is_digits (T : Txt K mg A) : FnOk P w K mg base CX0 1 A.f_is_digits A.d_is_digits ["text"] (spDig) := by
  refine T.F_is_digits.ok sc_is_digits (fun vs H Q E h => ?_) (fun cdv Ar outer s H vs Q E hr h => ?_)
  · obtain ⟨z, t, rfl, _⟩ := h
    rfl
  · obtain ⟨z, t, rfl, hz, hl, k⟩ := h
    refine ⟨_, (pss_one (ps_ret (pe_and (pe_cmpR op_ne (pv 0) pe_str (nomark _)) (pe_one (pe_callB (cr_all rfl) (by rfl) T.n_all (by decide +kernel) (pa_cons (pe_lc (own := [("char", 1)]) (g := gName 1) (tt := tYes) rfl sc_is_digits.nd (pi_str (pv 0)) (blkOk_by (N := ["text", "char"]) (sc := defScope s_is_digits) (by decide +kernel)) (fun _ _ _ _ _ => (pg_name (i := 1) sc_is_digits.nd rfl (Or.inl rfl))) (fun _ _ _ _ _ => pts_nil) (fun _ _ _ _ _ => (pe_cmpR op_in_sign (pv 1) (pe_glob (v := .str (Str.ofString "0123456789")) rfl T.k_DIGITS.choose_spec ⟨_, rfl⟩) rfl))) pa_nil)))))), ?_⟩
    obtain ⟨rfl⟩ := hz
    walk_at "gb go"
    · rename_i h
      have z := k H (Same.refl _)
      rw [str_nil.mp h] at z
      exact z
    · rename_i h D hD
      have hne : t ≠ [] := fun z => h (str_nil.mpr z)
      refine lc_txt (t := t) (fun i Hq => Same H Hq ∧ Hq D = some (.lst (((t.map fun c => decide (c ∈ digs)).map V.bl).take i))) ⟨same_new hD, upd_same⟩ ?_ ?_
      · rintro i c H' hi ⟨s', hD'⟩
        walk_at "gb go"
        exact lc_end (get_bl hi rfl)
      · rintro HD ⟨sD, hDD⟩
        rw [take_all (by simp)] at hDD
        have z := k HD sD
        rw [isD_ne hne] at z
        exact ⟨D, _, rfl, SqL.of hDD, z⟩
theorem ok_Share_init (T : Txt K mg A) : FnOk P w K mg base (L2.CX P w) 3 A.f_Share_init A.d_Share_init ["self", "top", "bottom"] (spSI A) := by
  refine T.F_Share_init.ok (CX := (L2.CX P w)) sc_Share_init (fun vs H Q E h => ?_) (fun cdv Ar outer s H vs Q E hr h => ?_)
  · obtain ⟨p, dx, t0, b0, rfl, _⟩ := h
    rfl
  · obtain ⟨p, dx, t0, b0, rfl, hp, hbits, kG, kB⟩ := h
    refine ⟨_, (pss_cons (ps_if (pt_cmpR op_eq (pv 2) pe_int (nomark _)) (pss_one (ps_raiseG rfl T.x_BadShare (ok_GangError_init T) (hr.mono (by decide)) T.b_GangError_init rfl T.g_BadShare (takes_of rfl rfl rfl rfl) (pe_tup (pa_cons (pv 1) (pa_cons (pv 2) pa_nil))))) pss_nil)
        (pss_cons (ps_set (i := 3) sc_Share_init.nd rfl (Or.inl rfl) (pe_callBfun cr_gcd (by rfl) T.gcd (pa_cons (pv 1) (pa_cons (pv 2) pa_nil))))
        (pss_cons (ps_if (pt_cmpR op_lt (pv 2) pe_int (nomark _)) (pss_one (ps_set (i := 3) sc_Share_init.nd rfl (Or.inl rfl) (pe_un un_neg (pv 3)))) pss_nil)
        (pss_cons (ps_fld (pv 0) (pe_op op_fdivX (pv 1) (pv 3)) rfl)
        (pss_one (ps_fld (pv 0) (pe_op op_fdivX (pv 2) (pv 3)) rfl)))))), ?_⟩
    refine ⟨_, rfl, rfl, _, rfl, ?_⟩
    refine iteD (fun c => ?_) (fun c => ?_)
    · injection c with c
      refine ⟨_, rfl, _, rfl, (by show 2 ≤ sizeLine; decide), fun t ht => raiseG_in T.x_BadShare fun d hd => ?_⟩
      refine kB c t d _ ((same_new ht).trans (same_new hd)) ?_ upd_same
      rw [upd_ne (ne_of_none upd_same hd)]
      exact upd_same
    · have hb0 : b0 ≠ 0 := fun e => c (by rw [e])
      obtain ⟨n, hn0, hn1, hB⟩ := hbits hb0
      refine ⟨_, rfl, _, rfl, _, _, rfl, ?_⟩
      refine ⟨_, rfl, _, _, rfl, rfl, _, rfl, ?_⟩
      refine iteD (fun c => ?_) (fun c => ?_)
      · refine ⟨_, rfl, _, rfl, ?_⟩
        have rp := rep_of (T := t0) hb0 rfl (show -((Nat.gcd t0.natAbs b0.natAbs : Nat) : Int) = if b0 < 0 then -((Nat.gcd t0.natAbs b0.natAbs : Nat) : Int) else ((Nat.gcd t0.natAbs b0.natAbs : Nat) : Int) by rw [if_pos c])
        refine ⟨_, rfl, _, rfl, _, _, rfl, rfl, ⟨rp.1, Nat.lt_of_lt_of_le ((Bits.le hB rp.2.1).log hn0) hn1⟩, _, rfl, p, A.c_Share, dx, _, rfl, hp, T.cl_Share, T.no_Share_top, (by show 0 < 1000; decide), _, rfl, _, rfl, _, _, rfl, rfl, ⟨rp.1, Nat.lt_of_lt_of_le ((Bits.le hB rp.2.1).log hn0) hn1⟩, _, rfl, p, A.c_Share, dx, _, rfl, upd_same, T.cl_Share, T.no_Share_bottom, (by show 1 < 1000; decide), ?_⟩
        rw [upd_upd]
        exact kG _ _ hb0 rp.2.2
      · have rp := rep_of (T := t0) hb0 rfl (show ((Nat.gcd t0.natAbs b0.natAbs : Nat) : Int) = if b0 < 0 then -((Nat.gcd t0.natAbs b0.natAbs : Nat) : Int) else ((Nat.gcd t0.natAbs b0.natAbs : Nat) : Int) by rw [if_neg c])
        refine ⟨_, rfl, _, rfl, _, _, rfl, rfl, ⟨rp.1, Nat.lt_of_lt_of_le ((Bits.le hB rp.2.1).log hn0) hn1⟩, _, rfl, p, A.c_Share, dx, _, rfl, hp, T.cl_Share, T.no_Share_top, (by show 0 < 1000; decide), _, rfl, _, rfl, _, _, rfl, rfl, ⟨rp.1, Nat.lt_of_lt_of_le ((Bits.le hB rp.2.1).log hn0) hn1⟩, _, rfl, p, A.c_Share, dx, _, rfl, upd_same, T.cl_Share, T.no_Share_bottom, (by show 1 < 1000; decide), ?_⟩
        rw [upd_upd]
        exact kG _ _ hb0 rp.2.2
theorem ok_Share_text (T : Txt K mg A) : FnOk P w K mg base CX0 1 A.f_Share_text A.d_Share_text ["self"] (spTxt A) := by
  refine T.F_Share_text.ok sc_Share_text (fun vs H Q E h => ?_) (fun cdv Ar outer s H vs Q E hr h => ?_)
  · obtain ⟨x, a, b, rfl, _⟩ := h
    rfl
  · obtain ⟨x, a, b, rfl, hX, ha, hb, k⟩ := h
    refine ⟨_, (pss_cons (ps_if (pt_cmpR op_eq (pe_fldK K (pv 0) rfl) pe_int (nomark _)) (pss_one (ps_ret (pe_callTy call_str2 (by rfl) T.n_str (by decide +kernel) (pa_cons (pe_fldK K (pv 0) rfl) pa_nil)))) pss_nil)
        (pss_one (ps_ret (pe_joined (.cons (pe_fmt (pe_fldK K (pv 0) rfl)) (.cons pe_str (.cons (pe_fmt (pe_fldK K (pv 0) rfl)) .nil))))))), ?_⟩
    obtain ⟨dx, ho⟩ := id hX
    have la := lenS ha
    have lb := lenS hb
    have l1 := l_slash
    have l0 : Str.empty.length = 0 := rfl
    walk_at "gb go"
    · rename_i h
      rw [txt_one h] at k
      exact k
    · rename_i h
      rw [txt_two h] at k
      rw [emp_app]
      exact k
theorem ok_Share_read (T : Txt K mg A) : FnOk P w K mg base (L2.CX P w) 5 A.f_Share_read A.d_Share_read ["cls", "text"] (spRd A) := by
  refine T.F_Share_read.okX sc_Share_read (fun vs H Q E h => ?_) (fun cdv Ar outer s H vs Q E hr h => ?_)
  · obtain ⟨z, t, rfl, _⟩ := h
    rfl
  · obtain ⟨z, t, rfl, hz, hs, kG, kB⟩ := h
    refine ⟨_, (pss_cons (ps_asg (pe_bm PySem.F.plainAttrs_str PySem.F.slot_str_partition PySem.F.type_str_partition mt_partition (pv 1) (pa_cons pe_str pa_nil)) (pg_tup rfl (pgs_cons (pg_name (i := 2) sc_Share_read.nd rfl (Or.inl rfl)) (pgs_cons (pg_name (i := 3) sc_Share_read.nd rfl (Or.inl rfl)) (pgs_cons (pg_name (i := 4) sc_Share_read.nd rfl (Or.inl rfl)) pgs_nil)))))
        (pss_cons (ps_if (PW.pt (pw_or (pt_not (pt_val (pe_call (ok_is_digits T) (hr.mono (by decide)) rfl T.g_is_digits T.F_is_digits.kp T.b_is_digits .nil pass0 (pa_cons (pe_bm PySem.F.plainAttrs_str PySem.F.slot_str_removeprefix PySem.F.type_str_removeprefix mt_removeprefix (pv 2) (pa_cons pe_str pa_nil)) pa_nil)) (by intro _; rfl))) (pw_or1 (PW.pt (pw_and (pt_cmpR op_ne (pv 3) pe_str (nomark _)) (pw_and1 (pt_not (pt_val (pe_call (ok_is_digits T) (hr.mono (by decide)) rfl T.g_is_digits T.F_is_digits.kp T.b_is_digits .nil pass0 (pa_cons (pv 4) pa_nil)) (by intro _; rfl))))))))) (pss_one (ps_raiseG rfl T.x_BadShare (ok_GangError_init T) (hr.mono (by decide)) T.b_GangError_init rfl T.g_BadShare (takes_of rfl rfl rfl rfl) (pv 1))) pss_nil)
        (pss_cons (ps_set (i := 5) sc_Share_read.nd rfl (Or.inl rfl) (pe_ifExp (pt_cmpR op_ne (pv 3) pe_str (nomark _)) (pe_callTy call_int_str (by rfl) T.n_int (by decide +kernel) (pa_cons (pv 4) pa_nil)) pe_int))
        (pss_cons (ps_if (pt_cmpR op_eq (pv 5) pe_int (nomark _)) (pss_one (ps_raiseG rfl T.x_BadShare (ok_GangError_init T) (hr.mono (by decide)) T.b_GangError_init rfl T.g_BadShare (takes_of rfl rfl rfl rfl) (pv 1))) pss_nil)
        (pss_cons (ps_set (i := 6) sc_Share_read.nd rfl (Or.inl rfl) (pe_mkL (i := 0) rfl (Or.inl rfl) T.mk_Share (ok_Share_init T) (hr.mono (by decide)) T.b_Share_init .nil (passes_call (takes_of rfl rfl rfl rfl) (fun _ _ _ _ h => h)) (pa_cons (pe_callTy call_int_str (by rfl) T.n_int (by decide +kernel) (pa_cons (pv 2) pa_nil)) (pa_cons (pv 5) pa_nil))))
        (pss_cons (ps_if (pt_cmpR op_ne (pe_meth0 (pv 6) T.cl_Share T.me_Share_text (ok_Share_text T) (hr.mono (by decide)) T.b_Share_text .nil pass0 ) (pv 1) (nomark _)) (pss_one (ps_raiseG rfl T.x_BadShare (ok_GangError_init T) (hr.mono (by decide)) T.b_GangError_init rfl T.g_BadShare (takes_of rfl rfl rfl rfl) (pv 1))) pss_nil)
        (pss_one (ps_ret (pv 6))))))))), ?_⟩
    obtain ⟨rfl⟩ := hz
    have hsl := hs.le
    obtain ⟨pp, ss, qq, hpart, hpl, hql⟩ := part_any t
    walk_at "gb go"
    rw [hpart]
    dsimp only
    walk_at "gb go"
    · rename_i p hp H1 s1 h1 d hd
      refine kB (fun a b hc => ?_) d _ ((same_new hp).trans (s1.trans (same_new hd))) upd_same
      obtain ⟨e, _⟩ := canon_part hc hpart
      rw [e, body_num0, isD_num] at h1
      cases h1
    · rename_i p hp H1 s1 h1 h2 h3 x H2 t' b' s2 hx r h
      exact kG t' b' ⟨(str_eq.mp h).symm, r.pos, r.cop⟩ x _ ((same_new hp).trans (s1.trans s2)) hx
    · rename_i p hp H1 s1 h1 h2 h3 x H2 t' b' s2 hx r h d hd
      refine kB (fun a b hc => ?_) d _ ((same_new hp).trans (s1.trans (s2.trans (same_new hd)))) upd_same
      obtain ⟨e, ⟨e1, _⟩ | ⟨_, e2, _⟩⟩ := canon_part hc hpart
      · subst e1
        rw [e, sval_num] at r
        exact h (canon_back hc r)
      · exact e2 h2
    · rename_i p hp H1 s1 h1 h2 H2 s2 h3 d hd
      refine kB (fun a b hc => ?_) d _ ((same_new hp).trans (s1.trans (s2.trans (same_new hd)))) upd_same
      obtain ⟨e, ⟨_, e1⟩ | ⟨_, _, e2⟩⟩ := canon_part hc hpart
      · exact h2 e1
      · rw [e2, isD_num] at h3
        cases h3
    · rename_i p hp H1 s1 h1 h2 H2 s2 h3 h4 h5 d hd
      refine kB (fun a b hc => ?_) d _ ((same_new hp).trans (s1.trans (s2.trans (same_new hd)))) upd_same
      obtain ⟨e, ⟨_, e1⟩ | ⟨_, _, e2⟩⟩ := canon_part hc hpart
      · exact h2 e1
      · rw [e2, numL_val] at h5
        have := hc.pos
        omega
    · rename_i p hp H1 s1 h1 h2 H2 s2 h3 h4 h5 x H3 t' b' s3 hx r h
      exact kG t' b' ⟨(str_eq.mp h).symm, r.pos, r.cop⟩ x _ ((same_new hp).trans (s1.trans (s2.trans s3))) hx
    · rename_i p hp H1 s1 h1 h2 H2 s2 h3 h4 h5 x H3 t' b' s3 hx r h d hd
      refine kB (fun a b hc => ?_) d _ ((same_new hp).trans (s1.trans (s2.trans (s3.trans (same_new hd))))) upd_same
      obtain ⟨e, ⟨_, e1⟩ | ⟨_, _, e2⟩⟩ := canon_part hc hpart
      · exact h2 e1
      · have hb : ((b.natAbs : Nat) : Int) = b := by have := hc.pos; omega
        rw [e, sval_num, e2, numL_val, hb] at r
        exact h (canon_back hc r)
theorem ok_pool (T : Txt K mg A) : FnOk P w K mg base CX0 1 A.f_pool A.d_pool ["_law_script"] (spPool K) := by
  refine T.F_pool.ok sc_pool (fun vs H Q E h => ?_) (fun cdv Ar outer s H vs Q E hr h => ?_)
  · obtain ⟨a, ns, rfl, _⟩ := h
    rfl
  · obtain ⟨a, ns, rfl, hS, hl, hb, k⟩ := h
    refine ⟨_, (pss_cons (ps_set (i := 1) sc_pool.nd rfl (Or.inl rfl) (pe_lst (pa_cons pe_int (pa_cons pe_int (pa_cons pe_int (pa_cons pe_int pa_nil))))))
        (pss_cons (ps_for PassesOwn.never rfl (pi_listK K (pv 0)) (pg_name (i := 2) sc_pool.nd rfl (Or.inl rfl))
        (pss_one (ps_if (pt_cmpR op_ge (pv 2) (pe_op op_pow pe_int pe_int) (nomark _)) (pss_one (ps_expr (pe_bm PySem.F.plainAttrs_list PySem.F.slot_list_append PySem.F.type_list_append mt_append (pv 1) (pa_cons (pv 2) pa_nil)))) (pss_cons (ps_asg (pe_op op_mod (pe_callTy call_int1 (by rfl) T.n_int (by decide +kernel) (pa_cons (pe_op op_add (pe_op op_mulX (pe_ix (ix_listK K) (pv 1) pe_int (fun _ _ => rfl)) pe_int) (pv 2)) pa_nil)) pe_int) (pg_sub (pv 1) pe_int set_list))
        (pss_cons (ps_asg (pe_op op_mod (pe_callTy call_int1 (by rfl) T.n_int (by decide +kernel) (pa_cons (pe_op op_add (pe_op op_mulX (pe_ix (ix_listK K) (pv 1) pe_int (fun _ _ => rfl)) pe_int) (pe_op op_mulX (pv 2) (pv 2))) pa_nil)) pe_int) (pg_sub (pv 1) pe_int set_list))
        (pss_one (ps_asg (pe_op op_mod (pe_callTy call_int1 (by rfl) T.n_int (by decide +kernel) (pa_cons (pe_op op_add (pe_op op_mulX (pe_ix (ix_listK K) (pv 1) pe_int (fun _ _ => rfl)) pe_int) (pe_op op_mulX (pv 2) pe_int)) pa_nil)) pe_int) (pg_sub (pv 1) pe_int set_list))))))))
        (pss_one (ps_ret (pv 1))))), ?_⟩
    refine ⟨(by show 4 ≤ sizeLine; decide), fun p hp => ?_⟩
    have sp : Same H (upd H p (.lst (poolL 1 2 3 0 []))) := same_new hp
    refine ⟨_, rfl, a, rfl, ⟨_, sp.seq hS⟩, for_list (K := K) (a := a) (xs := ns.map V.int) (fun i σ H' => ∃ v x0 x1 x2 bs, σ = [some (.ref a), some (.ref p), v] ∧ SameBut p H H' ∧ H' p = some (.lst (poolL x0 x1 x2 0 bs)) ∧ bs.length ≤ i ∧ ∀ z ∈ bs, 1 ≤ z)
      ⟨none, 1, 2, 3, [], rfl, sp.but, upd_same, Nat.le_refl _, fun z h => absurd h List.not_mem_nil⟩ (fun i σ H' _ ⟨_, _, _, _, _, _, sb, _⟩ => (same_of_but hp sb).seq hS) ?_ ?_⟩
    · rintro i y σ H' hi ⟨v, x0, x1, x2, bs, rfl, sb, hp', hbl, hz⟩
      obtain ⟨z, hzi, rfl⟩ := getMap hi
      have hil : i < ns.length := (List.getElem?_eq_some_iff.mp hzi).1
      have hbits := hb z (List.mem_of_getElem? hzi)
      refine ⟨_, rfl, _, _, rfl, rfl, ⟨by decide, by decide, by decide⟩, _, _, rfl, rfl, _, rfl, ?_⟩
      refine iteD (fun c => ?_) (fun c => ?_)
      · refine ⟨_, rfl, .inl ⟨rfl, _, SqL.of hp'⟩, _, rfl, p, _, _, rfl, rfl, hp', small1000 (by rw [pool_len]; omega), ?_⟩
        refine ⟨some (.int z), x0, x1, x2, bs ++ [z], rfl, sb.trans sameBut_upd, ?_, by rw [List.length_append]; show bs.length + 1 ≤ i + 1; omega, fun q hq => ?_⟩
        · rw [upd_same]; simp [poolL]
        · rcases List.mem_append.mp hq with h | h
          · exact hz q h
          · rw [List.mem_singleton.mp h]
            have e18 : (10 : Int) ^ (18 : Int).toNat = 1000000000000000000 := by decide
            have c' : (1000000000000000000 : Int) ≤ z := e18 ▸ c
            omega
      · refine ⟨_, rfl, p, _, 0, _, rfl, rfl, SqL.of hp', pool_at0, _, _, rfl, rfl, mulR ⟨by decide, by decide⟩, _, rfl, _, _, rfl, rfl, .inl ⟨_, rfl, _, _, rfl, rfl, (by show (0 : Int) < 101; decide), _, rfl, p, _, _, 0, rfl, rfl, hp', pool_ix 0 (by decide), ?_⟩⟩
        refine ⟨_, rfl, p, _, 1, _, rfl, rfl, SqL.of (show _ = some (.lst (poolL _ x1 x2 0 bs)) from upd_same), pool_at1, _, _, rfl, rfl, mulR ⟨by decide, by decide⟩, _, rfl, _, rfl, _, _, rfl, rfl, bitsMul hbits hbits, _, _, rfl, rfl, .inl ⟨_, rfl, _, _, rfl, rfl, (by show (0 : Int) < 103; decide), _, rfl, p, _, _, 1, rfl, rfl, (show _ = some (.lst (poolL _ x1 x2 0 bs)) from upd_same), pool_ix 1 (by decide), ?_⟩⟩
        refine ⟨_, rfl, p, _, 2, _, rfl, rfl, SqL.of (show _ = some (.lst (poolL _ _ x2 0 bs)) from upd_same), pool_at2, _, _, rfl, rfl, mulR ⟨by decide, by decide⟩, _, rfl, _, _, rfl, rfl, mulR ⟨by decide, by decide⟩, _, _, rfl, rfl, .inl ⟨_, rfl, _, _, rfl, rfl, (by show (0 : Int) < 1009; decide), _, rfl, p, _, _, 2, rfl, rfl, (show _ = some (.lst (poolL _ _ x2 0 bs)) from upd_same), pool_ix 2 (by decide), ?_⟩⟩
        exact ⟨some (.int z), _, _, _, bs, rfl, sb.trans (sameBut_upd.trans (sameBut_upd.trans sameBut_upd)), upd_same, by omega, hz⟩
    · rintro σ H' ⟨v, x0, x1, x2, bs, rfl, sb, hp', hbl, hz⟩
      rw [List.length_map] at hbl
      exact ⟨_, rfl, k p H' hp (.of hp' (by omega) hz) sb⟩
theorem ok_draw (T : Txt K mg A) : FnOk P w K mg base CX0 1 A.f_draw A.d_draw ["_law_pool_here", "_law_many"] (spDraw) := by
  refine T.F_draw.ok sc_draw (fun vs H Q E h => ?_) (fun cdv Ar outer s H vs Q E hr h => ?_)
  · obtain ⟨p, m, rfl, _⟩ := h
    rfl
  · obtain ⟨p, m, rfl, hP, h0, h1, k⟩ := h
    refine ⟨_, (pss_cons (ps_asg (pe_op op_add (pe_ix (ix_listK K) (pv 0) pe_int (fun _ _ => rfl)) pe_int) (pg_sub (pv 0) pe_int set_list))
        (pss_cons (ps_if (pt_cmpR op_gt (pe_callB (call_len_seqK K) (by rfl) T.n_len (by decide +kernel) (pa_cons (pv 0) pa_nil)) pe_int (nomark _)) (pss_cons (ps_set (i := 4) sc_draw.nd rfl (Or.inl rfl) (pe_op op_mod (pe_callTy call_int1 (by rfl) T.n_int (by decide +kernel) (pa_cons (pe_ix (ix_listK K) (pv 0) pe_int (fun _ _ => rfl)) pa_nil)) (pv 1)))
        (pss_cons (ps_asg (pe_op op_fdiv (pe_ix (ix_listK K) (pv 0) pe_int (fun _ _ => rfl)) (pv 1)) (pg_sub (pv 0) pe_int set_list))
        (pss_cons (ps_if (pt_cmpR op_eq (pe_ix (ix_listK K) (pv 0) pe_int (fun _ _ => rfl)) pe_int (nomark _)) (pss_one (ps_expr (pe_bm PySem.F.plainAttrs_list PySem.F.slot_list_pop PySem.F.type_list_pop mt_popAt (pv 0) (pa_cons pe_int pa_nil)))) pss_nil)
        (pss_one (ps_ret (pv 4)))))) pss_nil)
        (pss_cons (ps_set (i := 2) sc_draw.nd rfl (Or.inl rfl) (pe_op op_mod (pe_callTy call_int1 (by rfl) T.n_int (by decide +kernel) (pa_cons (pe_op op_add (pe_ix (ix_listK K) (pv 0) pe_int (fun _ _ => rfl)) (pe_op op_mulX pe_int (pe_ix (ix_listK K) (pv 0) pe_int (fun _ _ => rfl)))) pa_nil)) pe_int))
        (pss_cons (ps_set (i := 3) sc_draw.nd rfl (Or.inl rfl) (pe_op op_mod (pe_callTy call_int1 (by rfl) T.n_int (by decide +kernel) (pa_cons (pe_op op_add (pe_ix (ix_listK K) (pv 0) pe_int (fun _ _ => rfl)) (pe_op op_mulX (pv 2) (pv 2))) pa_nil)) pe_int))
        (pss_one (ps_ret (pe_op op_mod (pe_op op_mod (pe_callTy call_int1 (by rfl) T.n_int (by decide +kernel) (pa_cons (pe_op op_add (pe_op op_add (pe_ix (ix_listK K) (pv 0) pe_int (fun _ _ => rfl)) (pe_op op_mulX pe_int (pe_ix (ix_listK K) (pv 0) pe_int (fun _ _ => rfl)))) (pe_op op_mulX (pv 3) (pv 3))) pa_nil)) pe_int) (pv 1)))))))), ?_⟩
    obtain ⟨x0, x1, x2, n, bs, hp, hl, hz⟩ := hP
    refine ⟨_, rfl, p, _, 3, _, rfl, rfl, SqL.of hp, pool_at3, _, _, rfl, rfl, _, rfl, p, _, _, 3, rfl, rfl, hp, pool_ix 3 (by decide), ?_⟩
    have s1 : SameBut p H (upd H p (.lst (poolL x0 x1 x2 (n + 1) bs))) := sameBut_upd
    have hp1 : (upd H p (.lst (poolL x0 x1 x2 (n + 1) bs))) p = some (.lst (poolL x0 x1 x2 (n + 1) bs)) := upd_same
    refine ⟨_, rfl, p, _, rfl, .inl (SqL.of hp1), _, _, rfl, rfl, _, rfl, ?_⟩
    refine iteD (fun c => ?_) (fun c => ?_)
    · rw [pool_len] at c
      cases bs with
      | nil => exact absurd c (by decide)
      | cons b bs =>
        have hb1 := hz b List.mem_cons_self
        have hm0 : 0 ≤ b % m := Int.emod_nonneg b (by omega)
        have hm1 : b % m < m := Int.emod_lt_of_pos b (by omega)
        have hq : 0 ≤ b / m := Int.ediv_nonneg (by omega) (by omega)
        have hz' : ∀ z ∈ bs, 1 ≤ z := fun z h => hz z (List.mem_cons_of_mem _ h)
        have hl' : bs.length + 1 ≤ 63 := hl
        refine ⟨_, rfl, p, _, 4, _, rfl, rfl, SqL.of hp1, pool_at4, .inl ⟨_, rfl, _, rfl, _, _, rfl, rfl, (by show (0 : Int) < m; omega), ?_⟩⟩
        refine ⟨_, rfl, p, _, 4, _, rfl, rfl, SqL.of hp1, pool_at4, _, rfl, _, _, rfl, rfl, ⟨by omega, h1⟩, _, rfl, p, _, _, 4, rfl, rfl, hp1, pool_ix4, ?_⟩
        have hp2 : (upd (upd H p (.lst (poolL x0 x1 x2 (n + 1) (b :: bs)))) p (.lst (poolL x0 x1 x2 (n + 1) (b / m :: bs)))) p = some (.lst (poolL x0 x1 x2 (n + 1) (b / m :: bs))) := upd_same
        refine ⟨_, rfl, p, _, 4, _, rfl, rfl, SqL.of hp2, pool_at4, rfl, _, rfl, ?_⟩
        refine iteD (fun c2 => ?_) (fun c2 => ?_)
        · refine ⟨_, rfl, .inl ⟨rfl, _, SqL.of hp2⟩, p, _, 4, 4, _, rfl, rfl, hp2, by decide, by decide, pool_seq4, rfl, ?_⟩
          exact ⟨_, rfl, k _ _ hm0 hm1 (.of (bs := bs) upd_same (by omega) hz') (s1.trans (sameBut_upd.trans sameBut_upd))⟩
        · refine ⟨_, rfl, k _ _ hm0 hm1 (.of hp2 hl fun z h => ?_) (s1.trans sameBut_upd)⟩
          rcases List.mem_cons.mp h with e | h
          · rw [e]
            have : b / m ≠ 0 := fun e => c2 (by rw [e])
            omega
          · exact hz' z h
    · refine ⟨_, rfl, p, _, 0, _, rfl, rfl, SqL.of hp1, pool_at0, _, rfl, p, _, 3, _, rfl, rfl, SqL.of hp1, pool_at3, _, _, rfl, rfl, mulL ⟨by decide, by decide⟩, _, _, rfl, rfl, .inl ⟨_, rfl, _, _, rfl, rfl, (by show (0 : Int) < 101; decide), ?_⟩⟩
      have f0 : 0 ≤ (x0 + 7 * (n + 1)) % 101 := Int.emod_nonneg _ (by decide)
      have f1 : (x0 + 7 * (n + 1)) % 101 < 101 := Int.emod_lt_of_pos _ (by decide)
      generalize (x0 + 7 * (n + 1)) % 101 = fi at f0 f1
      refine ⟨_, rfl, p, _, 1, _, rfl, rfl, SqL.of hp1, pool_at1, _, rfl, _, rfl, _, _, rfl, rfl, mulL ⟨by omega, by omega⟩, _, _, rfl, rfl, .inl ⟨_, rfl, _, _, rfl, rfl, (by show (0 : Int) < 103; decide), ?_⟩⟩
      have g0 : 0 ≤ (x1 + fi * fi) % 103 := Int.emod_nonneg _ (by decide)
      have g1 : (x1 + fi * fi) % 103 < 103 := Int.emod_lt_of_pos _ (by decide)
      generalize (x1 + fi * fi) % 103 = se at g0 g1
      refine ⟨_, rfl, p, _, 2, _, rfl, rfl, SqL.of hp1, pool_at2, _, rfl, p, _, 3, _, rfl, rfl, SqL.of hp1, pool_at3, _, _, rfl, rfl, mulL ⟨by decide, by decide⟩, _, _, rfl, rfl, _, rfl, _, rfl, _, _, rfl, rfl, mulL ⟨by omega, by omega⟩, _, _, rfl, rfl, .inl ⟨_, rfl, _, _, rfl, rfl, (by show (0 : Int) < 1009; decide), _, rfl, _, _, rfl, rfl, (by show (0 : Int) < m; omega), ?_⟩⟩
      exact k _ _ (Int.emod_nonneg _ (by omega)) (Int.emod_lt_of_pos _ (by omega)) (.of hp1 hl hz) s1
theorem ok_number (T : Txt K mg A) : FnOk P w K mg base CX0 2 A.f_number A.d_number ["_law_pool_here", "_law_groups"] (spNumber) := by
  refine T.F_number.ok sc_number (fun vs H Q E h => ?_) (fun cdv Ar outer s H vs Q E hr h => ?_)
  · obtain ⟨p, g, rfl, _⟩ := h
    rfl
  · obtain ⟨p, g, rfl, hP, g1, g2, k⟩ := h
    refine ⟨_, (pss_cons (ps_set (i := 2) sc_number.nd rfl (Or.inl rfl) (pe_call (ok_draw T) (hr.mono (by decide)) rfl T.g_draw T.F_draw.kp T.b_draw .nil pass0 (pa_cons (pv 0) (pa_cons pe_int pa_nil))))
        (pss_cons (ps_if (pt_cmpR op_eq (pv 2) pe_int (nomark _)) (pss_one (ps_ret (pe_call (ok_draw T) (hr.mono (by decide)) rfl T.g_draw T.F_draw.kp T.b_draw .nil pass0 (pa_cons (pv 0) (pa_cons pe_int pa_nil))))) pss_nil)
        (pss_cons (ps_set (i := 3) sc_number.nd rfl (Or.inl rfl) (pv 1))
        (pss_cons (ps_if (pt_cmpR op_gt (pv 2) pe_int (nomark _)) (pss_one (ps_set (i := 3) sc_number.nd rfl (Or.inl rfl) (pe_op op_add pe_int (pe_call (ok_draw T) (hr.mono (by decide)) rfl T.g_draw T.F_draw.kp T.b_draw .nil pass0 (pa_cons (pv 0) (pa_cons (pv 1) pa_nil)))))) pss_nil)
        (pss_cons (ps_set (i := 4) sc_number.nd rfl (Or.inl rfl) pe_int)
        (pss_cons (ps_for PassesOwn.never rfl (pi_range1 rfl T.n_range (pa_cons (pv 3) pa_nil)) (pg_name (i := 5) sc_number.nd rfl (Or.inl rfl))
        (pss_cons (ps_set (i := 6) sc_number.nd rfl (Or.inl rfl) pe_int)
        (pss_cons (ps_if (pt_cmpR op_gt (pv 2) pe_int (nomark _)) (pss_one (ps_set (i := 6) sc_number.nd rfl (Or.inl rfl) (pe_call (ok_draw T) (hr.mono (by decide)) rfl T.g_draw T.F_draw.kp T.b_draw .nil pass0 (pa_cons (pv 0) (pa_cons pe_int pa_nil))))) pss_nil)
        (pss_one (ps_set (i := 4) sc_number.nd rfl (Or.inl rfl) (pe_op op_add (pe_op op_mulX (pv 4) pe_int) (pv 6)))))))
        (pss_one (ps_ret (pv 4))))))))), ?_⟩
    refine ⟨_, rfl, p, 4, rfl, hP, by decide, by decide, fun kd H1 k0 k1 P1 s1 => ?_⟩
    refine ⟨_, rfl, rfl, _, rfl, ?_⟩
    refine iteD (fun c => ?_) (fun c => ?_)
    · refine ⟨_, rfl, p, 10, rfl, P1, by decide, by decide, fun r H2 r0 r1 P2 s2 => k r H2 r0 ?_ P2 (s1.trans s2)⟩
      have := pow_le g1
      rw [Int.pow_succ, Int.pow_zero] at this
      omega
    · refine ⟨_, rfl, ?_⟩
      refine ⟨_, rfl, _, _, rfl, rfl, _, rfl, ?_⟩
      refine iteD (fun c2 => ?_) (fun c2 => ?_)
      · refine ⟨_, rfl, _, rfl, p, g, rfl, P1, by omega, by omega, fun r H2 r0 r1 P2 s2 => ⟨_, _, rfl, rfl, ?_⟩⟩
        refine ⟨_, rfl, 1 + r, rfl, by omega, by omega, for_range (lo := 0) (n := (1 + r).toNat) (fun i σ H' => ∃ (n : Int) (v5 v6 : Option V), σ = [some (.ref p), some (.int g), some (.int kd), some (.int (1 + r)), some (.int n), v5, v6] ∧ 0 ≤ n ∧ n < 1000 ^ i ∧ PoolAt H' p ∧ SameBut p H H') ⟨0, none, none, rfl, by decide, by decide, P2, s1.trans s2⟩ ?_ ?_⟩
        · rintro i σ H' hi ⟨n, v5, v6, rfl, n0, n1, P', s'⟩
          refine ⟨_, rfl, _, _, rfl, rfl, _, rfl, ?_⟩
          refine iteD (fun _ => ?_) (fun z => absurd c2 z)
          refine ⟨_, rfl, p, 1000, rfl, P', by decide, by decide, fun q H3 q0 q1 P3 s3 => ?_⟩
          refine ⟨_, rfl, _, _, rfl, rfl, mulR ⟨by decide, by decide⟩, _, rfl, _, _, rfl, rfl, ?_⟩
          refine ⟨_, _, _, rfl, by omega, ?_, P3, s'.trans s3⟩
          rw [Int.pow_succ]; omega
        · rintro σ H' ⟨n, v5, v6, rfl, n0, n1, P', s'⟩
          refine ⟨_, rfl, k n H' n0 ?_ P' s'⟩
          have := pow_le (m := (1 + r).toNat) (n := g) (by omega)
          omega
      · refine ⟨_, rfl, g, rfl, by omega, by omega, for_range (lo := 0) (n := (g : Int).toNat) (fun i σ H' => ∃ (n : Int) (v5 v6 : Option V), σ = [some (.ref p), some (.int g), some (.int kd), some (.int g), some (.int n), v5, v6] ∧ 0 ≤ n ∧ n < 1000 ^ i ∧ H' = H1) ⟨0, none, none, rfl, by decide, by decide, rfl⟩ ?_ ?_⟩
        · rintro i σ H' hi ⟨n, v5, v6, rfl, n0, n1, rfl⟩
          refine ⟨_, rfl, _, _, rfl, rfl, _, rfl, ?_⟩
          refine iteD (fun z => absurd z c2) (fun _ => ?_)
          refine ⟨_, rfl, _, _, rfl, rfl, mulR ⟨by decide, by decide⟩, _, rfl, _, _, rfl, rfl, ?_⟩
          refine ⟨_, _, _, rfl, by omega, ?_, rfl⟩
          rw [Int.pow_succ]; omega
        · rintro σ H' ⟨n, v5, v6, rfl, n0, n1, rfl⟩
          exact ⟨_, rfl, k n _ n0 (by simpa using n1) P1 s1⟩
theorem ok_signed (T : Txt K mg A) : FnOk P w K mg base CX0 3 A.f_signed A.d_signed ["_law_pool_here", "_law_groups"] (spSigned) := by
  refine T.F_signed.ok sc_signed (fun vs H Q E h => ?_) (fun cdv Ar outer s H vs Q E hr h => ?_)
  · obtain ⟨p, g, rfl, _⟩ := h
    rfl
  · obtain ⟨p, g, rfl, hP, g1, g2, k⟩ := h
    refine ⟨_, (pss_cons (ps_set (i := 2) sc_signed.nd rfl (Or.inl rfl) (pe_call (ok_number T) (hr.mono (by decide)) rfl T.g_number T.F_number.kp T.b_number .nil pass0 (pa_cons (pv 0) (pa_cons (pv 1) pa_nil))))
        (pss_one (ps_ret (pe_op op_mulX (pv 2) (pe_op op_sub pe_int (pe_op op_mulX pe_int (pe_call (ok_draw T) (hr.mono (by decide)) rfl T.g_draw T.F_draw.kp T.b_draw .nil pass0 (pa_cons (pv 0) (pa_cons pe_int pa_nil))))))))), ?_⟩
    refine ⟨_, rfl, _, rfl, p, g, rfl, hP, g1, g2, fun r H1 r0 r1 P1 s1 => ?_⟩
    refine ⟨_, rfl, _, rfl, p, 2, rfl, P1, by decide, by decide, fun q H2 q0 q1 P2 s2 => ⟨_, _, rfl, rfl, mulL ⟨by decide, by decide⟩, _, _, rfl, rfl, _, _, rfl, rfl, mulR ⟨by omega, by omega⟩, ?_⟩⟩
    have hb := bits_of r0 r1
    refine k _ H2 ?_ P2 (s1.trans s2)
    rcases (show q = 0 ∨ q = 1 by omega) with rfl | rfl
    · exact hb.le (by simp)
    · exact hb.le (by simp)
theorem ok_char (T : Txt K mg A) : FnOk P w K mg base CX0 2 A.f_char A.d_char ["_law_pool_here"] (spChar) := by
  refine T.F_char.ok sc_char (fun vs H Q E h => ?_) (fun cdv Ar outer s H vs Q E hr h => ?_)
  · obtain ⟨p, rfl, _⟩ := h
    rfl
  · obtain ⟨p, rfl, hP, k⟩ := h
    refine ⟨_, (pss_cons (ps_if (pt_cmpR op_eq (pe_call (ok_draw T) (hr.mono (by decide)) rfl T.g_draw T.F_draw.kp T.b_draw .nil pass0 (pa_cons (pv 0) (pa_cons pe_int pa_nil))) pe_int (nomark _)) (pss_one (ps_ret (pe_ix ix_str pe_str (pe_call (ok_draw T) (hr.mono (by decide)) rfl T.g_draw T.F_draw.kp T.b_draw .nil pass0 (pa_cons (pv 0) (pa_cons pe_int pa_nil))) (fun _ _ => rfl)))) pss_nil)
        (pss_cons (ps_set (i := 1) sc_char.nd rfl (Or.inl rfl) pe_str)
        (pss_cons (ps_set (i := 1) sc_char.nd rfl (Or.inl rfl) (pe_op op_add_str (pv 1) pe_str))
        (pss_one (ps_ret (pe_ix ix_str (pv 1) (pe_call (ok_draw T) (hr.mono (by decide)) rfl T.g_draw T.F_draw.kp T.b_draw .nil pass0 (pa_cons (pv 0) (pa_cons pe_int pa_nil))) (fun _ _ => rfl))))))), ?_⟩
    walk_at "gb go"
    · exact k _ _ (by assumption) (by walk_at "gb but")
    · exact k _ _ (by assumption) (by walk_at "gb but")
theorem ok_whole (T : Txt K mg A) : FnOk P w K mg base CX0 1 A.f_whole A.d_whole ["_law_value"] (spWhole) := by
  refine T.F_whole.ok sc_whole (fun vs H Q E h => ?_) (fun cdv Ar outer s H vs Q E hr h => ?_)
  · obtain ⟨i, rfl, _⟩ := h
    rfl
  · obtain ⟨i, rfl, k⟩ := h
    refine ⟨_, (pss_one (ps_ret (pe_and (pe_callB (call_isiK' K) (by rfl) T.n_isinstance (by decide +kernel) (pa_cons (pv 0) (pa_cons (pe_bltn (v := .ty "int") (by rfl) T.n_int (by decide +kernel) rfl) pa_nil))) (pe_one (pe_not (pe_callB (call_isiK' K) (by rfl) T.n_isinstance (by decide +kernel) (pa_cons (pv 0) (pa_cons (pe_bltn (v := .ty "bool") (by rfl) T.n_bool (by decide +kernel) rfl) pa_nil)))))))), ?_⟩
    exact ⟨_, rfl, _, _, _, _, true, rfl, .ty _, .base (.int _), kit_ty (by decide +kernel), true, rfl, iteT ⟨_, rfl, _, _, _, _, false, rfl, .ty _, .base (.int _), kit_ty (by decide +kernel), false, rfl, k⟩⟩
theorem ok_factor (T : Txt K mg A) : FnOk P w K mg base CX0 1 A.f_factor A.d_factor ["_law_one", "_law_other"] (spFactor) := by
  refine T.F_factor.ok sc_factor (fun vs H Q E h => ?_) (fun cdv Ar outer s H vs Q E hr h => ?_)
  · obtain ⟨a, b, rfl, _⟩ := h
    rfl
  · obtain ⟨a, b, rfl, hb, k⟩ := h
    refine ⟨_, (pss_cons (ps_for PassesOwn.never rfl (pi_range1 rfl T.n_range (pa_cons pe_int pa_nil)) (pg_name (i := 2) sc_factor.nd rfl (Or.inl rfl))
        (pss_cons (ps_if (pt_cmpR op_eq (pv 1) pe_int (nomark _)) (pss_one (ps_ret (pv 0))) pss_nil)
        (pss_cons (ps_set (i := 3) sc_factor.nd rfl (Or.inl rfl) (pe_op op_mod (pe_callTy call_int1 (by rfl) T.n_int (by decide +kernel) (pa_cons (pv 0) pa_nil)) (pv 1)))
        (pss_cons (ps_set (i := 0) sc_factor.nd rfl (Or.inl rfl) (pv 1))
        (pss_one (ps_set (i := 1) sc_factor.nd rfl (Or.inl rfl) (pv 3)))))))
        (pss_one (ps_ret (pv 0)))), ?_⟩
    walk_at "gb go"
    exact (for_range (lo := 0) (n := 500) (fun i σ H' => ∃ (x y : Nat) (v2 v3 : Option V), σ = [some (.int x), some (.int y), v2, v3] ∧ H' = H ∧ Nat.gcd x y = Nat.gcd a b ∧ Eu x y i ∧ i ≤ 482) ⟨a, b, none, none, rfl, rfl, rfl, .inl ⟨rfl, hb⟩, by omega⟩ (by
      rintro i σ H' hi ⟨x, y, v2, v3, rfl, rfl, hg, he, hi2⟩
      refine ⟨_, rfl, rfl, _, rfl, ?_⟩
      refine iteD (fun c => ?_) (fun c => ?_)
      · injection c with c
        have hb0 : y = 0 := by omega
        subst hb0
        rw [Nat.gcd_zero_right] at hg
        rw [← hg] at k
        exact ⟨_, rfl, k⟩
      · have hb0 : y ≠ 0 := fun e => c (by rw [e]; rfl)
        obtain ⟨he', hi3⟩ := he.turn hb0
        refine ⟨_, rfl, .inl ⟨_, rfl, _, rfl, _, _, rfl, rfl, (by show (0 : Int) < y; omega), ?_⟩⟩
        refine ⟨_, rfl, _, rfl, y, x % y, _, _, rfl, rfl, ?_, he', by omega⟩
        rw [Nat.gcd_comm, ← Nat.gcd_rec, Nat.gcd_comm]
        exact hg) (by
      rintro σ H' ⟨x, y, v2, v3, rfl, rfl, hg, he, hi2⟩
      exact absurd hi2 (by decide)))
theorem ok_pair (T : Txt K mg A) : FnOk P w K mg base CX0 4 A.f_pair A.d_pair ["_law_pool_here", "_law_groups"] (spPair) := by
  refine T.F_pair.ok sc_pair (fun vs H Q E h => ?_) (fun cdv Ar outer s H vs Q E hr h => ?_)
  · obtain ⟨p, g, rfl, _⟩ := h
    rfl
  · obtain ⟨p, g, rfl, hP, g1, g2, k⟩ := h
    refine ⟨_, (pss_cons (ps_set (i := 2) sc_pair.nd rfl (Or.inl rfl) (pe_call (ok_signed T) (hr.mono (by decide)) rfl T.g_signed T.F_signed.kp T.b_signed .nil pass0 (pa_cons (pv 0) (pa_cons (pv 1) pa_nil))))
        (pss_cons (ps_set (i := 3) sc_pair.nd rfl (Or.inl rfl) (pe_call (ok_signed T) (hr.mono (by decide)) rfl T.g_signed T.F_signed.kp T.b_signed .nil pass0 (pa_cons (pv 0) (pa_cons (pv 1) pa_nil))))
        (pss_cons (ps_if (pt_cmpR op_eq (pv 3) pe_int (nomark _)) (pss_one (ps_set (i := 3) sc_pair.nd rfl (Or.inl rfl) pe_int)) pss_nil)
        (pss_one (ps_ret (pe_tup (pa_cons (pv 2) (pa_cons (pv 3) pa_nil)))))))), ?_⟩
    walk_at "gb go"
    · rename_i a Ha ha Pa sa b Hb hb Pb sb z q hq
      exact k q a 1 _ ⟨ha⟩ ⟨Bits.one (by omega)⟩ (by decide) (Pb.ne hq).symm (Pb.mono (same_new hq)) (sa.trans (sb.trans (same_new hq).but)) upd_same
    · rename_i a Ha ha Pa sa b Hb hb Pb sb z q hq
      exact k q a b _ ⟨ha⟩ ⟨hb⟩ z (Pb.ne hq).symm (Pb.mono (same_new hq)) (sa.trans (sb.trans (same_new hq).but)) upd_same
theorem ok_lowest (T : Txt K mg A) : FnOk P w K mg base CX0 2 A.f_lowest A.d_lowest ["_law_top", "_law_bottom"] (spLow) := by
  refine T.F_lowest.ok sc_lowest (fun vs H Q E h => ?_) (fun cdv Ar outer s H vs Q E hr h => ?_)
  · obtain ⟨a, b, rfl, _⟩ := h
    rfl
  · obtain ⟨a, b, rfl, hb0, ha, hb, k⟩ := h
    refine ⟨_, (pss_cons (ps_set (i := 2) sc_lowest.nd rfl (Or.inl rfl) (pe_call (ok_factor T) (hr.mono (by decide)) rfl T.g_factor T.F_factor.kp T.b_factor .nil pass0 (pa_cons (pe_callB call_abs (by rfl) T.n_abs (by decide +kernel) (pa_cons (pv 0) pa_nil)) (pa_cons (pe_callB call_abs (by rfl) T.n_abs (by decide +kernel) (pa_cons (pv 1) pa_nil)) pa_nil))))
        (pss_cons (ps_if (pt_cmpR op_lt (pv 1) pe_int (nomark _)) (pss_one (ps_set (i := 2) sc_lowest.nd rfl (Or.inl rfl) (pe_un un_neg (pv 2)))) pss_nil)
        (pss_one (ps_ret (pe_tup (pa_cons (pe_op op_fdivX (pv 0) (pv 2)) (pa_cons (pe_op op_fdivX (pv 1) (pv 2)) pa_nil))))))), ?_⟩
    have e1 : (if a < 0 then -a else a) = ((a.natAbs : Nat) : Int) := by split <;> omega
    have e2 : (if b < 0 then -b else b) = ((b.natAbs : Nat) : Int) := by split <;> omega
    refine ⟨_, rfl, _, rfl, _, rfl, _, rfl, a.natAbs, b.natAbs, by rw [e1, e2]; rfl, Nat.lt_of_lt_of_le hb (Nat.pow_le_pow_right (by decide) (by decide)), ?_⟩
    have r1 : b < 0 → _ := fun c => rep_of (T := a) hb0 rfl (show -((Nat.gcd a.natAbs b.natAbs : Nat) : Int) = if b < 0 then -((Nat.gcd a.natAbs b.natAbs : Nat) : Int) else ((Nat.gcd a.natAbs b.natAbs : Nat) : Int) by rw [if_pos c])
    have r2 : ¬ b < 0 → _ := fun c => rep_of (T := a) hb0 rfl (show ((Nat.gcd a.natAbs b.natAbs : Nat) : Int) = if b < 0 then -((Nat.gcd a.natAbs b.natAbs : Nat) : Int) else ((Nat.gcd a.natAbs b.natAbs : Nat) : Int) by rw [if_neg c])
    generalize ((Nat.gcd a.natAbs b.natAbs : Nat) : Int) = gg at r1 r2 ⊢
    walk_at "gb go"
    · rename_i c
      obtain ⟨n0, n1, rp⟩ := r1 c
      have dd : -gg ≠ 0 ∧ (-gg).natAbs.log2 < 9000 := ⟨n0, Nat.lt_of_lt_of_le ((Bits.le hb n1).log (by decide)) (by decide)⟩
      refine ⟨dd, ?_⟩
      walk_at "gb go"
      rename_i q hq
      exact k _ _ _ _ rp (same_new hq) upd_same
    · rename_i c
      obtain ⟨n0, n1, rp⟩ := r2 c
      have dd : gg ≠ 0 ∧ gg.natAbs.log2 < 9000 := ⟨n0, Nat.lt_of_lt_of_le ((Bits.le hb n1).log (by decide)) (by decide)⟩
      refine ⟨dd, ?_⟩
      walk_at "gb go"
      rename_i q hq
      exact k _ _ _ _ rp (same_new hq) upd_same
theorem ok_text (T : Txt K mg A) : FnOk P w K mg base CX0 1 A.f_text A.d_text ["_law_pair_here"] (spLText) := by
  refine T.F_text.ok sc_text (fun vs H Q E h => ?_) (fun cdv Ar outer s H vs Q E hr h => ?_)
  · obtain ⟨p, a, b, rfl, _⟩ := h
    rfl
  · obtain ⟨p, a, b, rfl, hp, ha, hb, k⟩ := h
    refine ⟨_, (pss_cons (ps_if (pt_cmpR op_eq (pe_ix (ix_tupK K) (pv 0) pe_int (fun _ _ => rfl)) pe_int (nomark _)) (pss_one (ps_ret (pe_callTy call_str2 (by rfl) T.n_str (by decide +kernel) (pa_cons (pe_ix (ix_tupK K) (pv 0) pe_int (fun _ _ => rfl)) pa_nil)))) pss_nil)
        (pss_one (ps_ret (pe_op op_add_str (pe_op op_add_str (pe_callTy call_str2 (by rfl) T.n_str (by decide +kernel) (pa_cons (pe_ix (ix_tupK K) (pv 0) pe_int (fun _ _ => rfl)) pa_nil)) pe_str) (pe_callTy call_str2 (by rfl) T.n_str (by decide +kernel) (pa_cons (pe_ix (ix_tupK K) (pv 0) pe_int (fun _ _ => rfl)) pa_nil)))))), ?_⟩
    have la := lenS ha
    have lb := lenS hb
    have l1 := l_slash
    have l0 : Str.empty.length = 0 := rfl
    walk_at "gb go"
    · rename_i h
      exact k _ ⟨(txt_one h).symm⟩
    · rename_i h
      exact k _ ⟨(txt_two h).symm⟩
theorem ok_digits (T : Txt K mg A) : FnOk P w K mg base CX0 1 A.f_digits A.d_digits ["_law_word"] (spLDig) := by
  refine T.F_digits.ok sc_digits (fun vs H Q E h => ?_) (fun cdv Ar outer s H vs Q E hr h => ?_)
  · obtain ⟨t, rfl, _⟩ := h
    rfl
  · obtain ⟨t, rfl, hl, k⟩ := h
    refine ⟨_, (pss_cons (ps_if (PW.pt (pw_or (pt_cmpR op_eq (pv 0) pe_str (nomark _)) (pw_or1 (PW.pt (pw_and (pt_cmpR op_gt (pe_callB call_len_str (by rfl) T.n_len (by decide +kernel) (pa_cons (pv 0) pa_nil)) pe_int (nomark _)) (pw_and1 (pt_cmpR op_eq (pe_ix ix_str (pv 0) pe_int (fun _ _ => rfl)) pe_str (nomark _)))))))) (pss_one (ps_ret pe_bl)) pss_nil)
        (pss_cons (ps_for PassesOwn.never rfl (pi_str (pv 0)) (pg_name (i := 1) sc_digits.nd rfl (Or.inl rfl))
        (pss_one (ps_if (pt_cmpR op_notIn_sign (pv 1) pe_str rfl) (pss_one (ps_ret pe_bl)) pss_nil)))
        (pss_one (ps_ret pe_bl)))), ?_⟩
    cases t with
    | nil =>
      walk_at "gb go"
      exact k
    | cons c r =>
      have hne : ¬ V.str (S (c :: r)) = V.str (Str.ofString "") := fun h => by cases str_nil.mp h
      have hc0 : atI (S (c :: r)).cps.toList 0 = some c := atI_nat (j := 0) rfl
      by_cases h1 : 1 < (c :: r).length
      · have h1' : (1 : Int) < ((S (c :: r)).length : Nat) := by rw [S_len]; omega
        by_cases h48 : c = 48
        · subst h48
          have hld : lead (48 :: r) = false := by
            unfold lead
            rw [decide_eq_true h1, decide_eq_true (show (48 :: r)[0]? = some 48 from rfl)]
            simp
          rw [hld] at k
          walk_at "gb go"
          · exact k
          all_goals (rename_i z; exact absurd ((sg_eq s0).mpr rfl) z)
        · have hld : lead (c :: r) = isD (c :: r) := by
            unfold lead
            rw [decide_eq_false (show ¬ (c :: r)[0]? = some 48 by simpa using h48)]
            simp
          walk_at "gb go"
          · rename_i z
            exact absurd ((sg_eq s0).mp z) h48
          refine for_txt (t := c :: r) (fun i σ H' => ∃ v : Option V, σ = [some (.str (S (c :: r))), v] ∧ H' = H ∧ ∀ j d, j < i → (c :: r)[j]? = some d → d ∈ digs) ⟨none, rfl, rfl, fun j d h => absurd h (Nat.not_lt_zero _)⟩ ?_ ?_
          · rintro i d σ H' hi ⟨v, rfl, rfl, hv⟩
            walk_at "gb go"
            · rename_i hin j e hj he
              by_cases hji : j < i
              · exact hv j e hji he
              · obtain rfl : j = i := by omega
                rw [hi] at he
                cases he
                exact hin
            · rename_i hout
              rw [hld, isD_false hi hout] at k
              exact k
          · rintro σ H' ⟨v, rfl, rfl, hv⟩
            rw [hld, isD_true (by simp) hv] at k
            walk_at "gb go"
            exact k
    
      · have h1' : ¬ (1 : Int) < ((S (c :: r)).length : Nat) := by rw [S_len]; omega
        have hld : lead (c :: r) = isD (c :: r) := by
          unfold lead
          rw [decide_eq_false h1]
          simp
        walk_at "gb go"
        refine for_txt (t := c :: r) (fun i σ H' => ∃ v : Option V, σ = [some (.str (S (c :: r))), v] ∧ H' = H ∧ ∀ j d, j < i → (c :: r)[j]? = some d → d ∈ digs) ⟨none, rfl, rfl, fun j d h => absurd h (Nat.not_lt_zero _)⟩ ?_ ?_
        · rintro i d σ H' hi ⟨v, rfl, rfl, hv⟩
          walk_at "gb go"
          · rename_i hin j e hj he
            by_cases hji : j < i
            · exact hv j e hji he
            · obtain rfl : j = i := by omega
              rw [hi] at he
              cases he
              exact hin
          · rename_i hout
            rw [hld, isD_false hi hout] at k
            exact k
        · rintro σ H' ⟨v, rfl, rfl, hv⟩
          rw [hld, isD_true (by simp) hv] at k
          walk_at "gb go"
          exact k
theorem ok_read (T : Txt K mg A) : FnOk P w K mg base CX0 2 A.f_read A.d_read ["_law_text_here"] (spLRead) := by
  refine T.F_read.ok sc_read (fun vs H Q E h => ?_) (fun cdv Ar outer s H vs Q E hr h => ?_)
  · obtain ⟨t, rfl, _⟩ := h
    rfl
  · obtain ⟨t, rfl, hs, kG, kB⟩ := h
    refine ⟨_, (pss_cons (ps_set (i := 1) sc_read.nd rfl (Or.inl rfl) (pv 0))
        (pss_cons (ps_if (pt_cmpR op_eq (pe_slice sl_str (pv 0) po_none (po_some pe_int)) pe_str (nomark _)) (pss_one (ps_set (i := 1) sc_read.nd rfl (Or.inl rfl) (pe_slice sl_str (pv 0) (po_some pe_int) po_none))) pss_nil)
        (pss_cons (ps_set (i := 2) sc_read.nd rfl (Or.inl rfl) (pe_bm PySem.F.plainAttrs_str PySem.F.slot_str_split PySem.F.type_str_split mt_split (pv 1) (pa_cons pe_str pa_nil)))
        (pss_cons (ps_if (PW.pt (pw_or (pt_cmpR op_gt (pe_callB (call_len_seqK K) (by rfl) T.n_len (by decide +kernel) (pa_cons (pv 2) pa_nil)) pe_int (nomark _)) (pw_or (pt_not (pt_val (pe_call (ok_digits T) (hr.mono (by decide)) rfl T.g_digits T.F_digits.kp T.b_digits .nil pass0 (pa_cons (pe_ix (ix_listK K) (pv 2) pe_int (fun _ _ => rfl)) pa_nil)) (by intro _; rfl))) (pw_or1 (pt_not (pt_val (pe_call (ok_digits T) (hr.mono (by decide)) rfl T.g_digits T.F_digits.kp T.b_digits .nil pass0 (pa_cons (pe_ix (ix_listK K) (pv 2) (pe_un un_neg pe_int) (fun _ _ => rfl)) pa_nil)) (by intro _; rfl))))))) (pss_one (ps_ret pe_non)) pss_nil)
        (pss_cons (ps_set (i := 3) sc_read.nd rfl (Or.inl rfl) (pe_callTy call_int_str (by rfl) T.n_int (by decide +kernel) (pa_cons (pe_ix (ix_listK K) (pv 2) pe_int (fun _ _ => rfl)) pa_nil)))
        (pss_cons (ps_set (i := 4) sc_read.nd rfl (Or.inl rfl) pe_int)
        (pss_cons (ps_if (pt_cmpR op_eq (pe_callB (call_len_seqK K) (by rfl) T.n_len (by decide +kernel) (pa_cons (pv 2) pa_nil)) pe_int (nomark _)) (pss_cons (ps_set (i := 4) sc_read.nd rfl (Or.inl rfl) (pe_callTy call_int_str (by rfl) T.n_int (by decide +kernel) (pa_cons (pe_ix (ix_listK K) (pv 2) pe_int (fun _ _ => rfl)) pa_nil)))
        (pss_one (ps_if (PW.pt (pw_or (pt_cmpR op_lt (pv 4) pe_int (nomark _)) (pw_or1 (pt_cmpR op_ne (pe_call (ok_factor T) (hr.mono (by decide)) rfl T.g_factor T.F_factor.kp T.b_factor .nil pass0 (pa_cons (pv 3) (pa_cons (pv 4) pa_nil))) pe_int (nomark _))))) (pss_one (ps_ret pe_non)) pss_nil))) pss_nil)
        (pss_cons (ps_if (pt_cmpR op_eq (pe_slice sl_str (pv 0) po_none (po_some pe_int)) pe_str (nomark _)) (pss_cons (ps_if (pt_cmpR op_eq (pv 3) pe_int (nomark _)) (pss_one (ps_ret pe_non)) pss_nil)
        (pss_one (ps_set (i := 3) sc_read.nd rfl (Or.inl rfl) (pe_un un_neg (pv 3))))) pss_nil)
        (pss_one (ps_ret (pe_tup (pa_cons (pv 3) (pa_cons (pv 4) pa_nil))))))))))))), ?_⟩
    have hsl := hs.le
    by_cases h45 : t[0]? = some 45
    · have hm := sign_yes h45
      have hbd : body t = t.drop 1 := by unfold body; rw [if_pos h45]
      have hbl : (t.drop 1).length ≤ 70 := by rw [List.length_drop]; omega
      walk_at "gb go"
      rw [cut_drop]
      obtain ⟨ps, hps, hne, hj⟩ := split_any (t.drop 1)
      rw [hps]
      rw [← hbd] at hps
      refine ⟨by rw [S_len, sizeLine_eq]; omega, ?_⟩
      cases ps with
      | nil => exact absurd rfl hne
      | cons p ps =>
      cases ps with
      | nil =>
        have hpl := join1 hj hbl
        dsimp only [List.map_cons, List.map_nil]
        walk_at "gb go"
        · rename_i _ w hw h1
          refine kB (fun a b hc => ?_) _ (same_new hw)
          obtain ⟨_, e⟩ := no1 hc hps rfl
          rw [e, lead_num] at h1
          cases h1
        · rename_i _ w hw h1 h2
          rw [h1] at h2
          cases h2
        · rename_i _ w hw h1 h2 hsg h3
          refine kB (fun a b hc => ?_) _ (same_new hw)
          obtain ⟨_, e⟩ := no1 hc hps rfl
          have hn := (canon_ps hc hps).2.mp h45
          rw [e, numL_val] at h3
          omega
        · rename_i _ w hw h1 h2 hsg h3 w2 hw2
          exact kG _ _ (mk_neg1 h45 hj (nb h1) h3) _ _ ((same_new hw).trans (same_new hw2)) upd_same
      | cons q ps =>
      cases ps with
      | nil =>
        obtain ⟨hpl, hql⟩ := join2 hj hbl
        dsimp only [List.map_cons, List.map_nil]
        walk_at "gb go"
        · rename_i _ w hw h1
          refine kB (fun a b hc => ?_) _ (same_new hw)
          obtain ⟨_, e, _⟩ := no2 hc hps rfl
          rw [e, lead_num] at h1
          cases h1
        · rename_i _ w hw h1 h2
          refine kB (fun a b hc => ?_) _ (same_new hw)
          obtain ⟨_, _, e⟩ := no2 hc hps rfl
          rw [e, lead_num] at h2
          cases h2
        · rename_i _ w hw h1 h2 h3
          refine kB (fun a b hc => ?_) _ (same_new hw)
          obtain ⟨hb1, _, e⟩ := no2 hc hps rfl
          rw [e, numL_val] at h3
          have := hc.pos
          omega
        · rename_i _ w hw h1 h2 h3 h4
          refine kB (fun a b hc => ?_) _ (same_new hw)
          obtain ⟨_, e1, e2⟩ := no2 hc hps rfl
          rw [e1, e2, numL_val, numL_val, hc.cop] at h4
          exact h4 rfl
        · rename_i _ w hw h1 h2 h3 h4 hsg h5
          refine kB (fun a b hc => ?_) _ (same_new hw)
          obtain ⟨_, e, _⟩ := no2 hc hps rfl
          have hn := (canon_ps hc hps).2.mp h45
          rw [e, numL_val] at h5
          omega
        · rename_i _ w hw h1 h2 h3 h4 hsg h5 w2 hw2
          exact kG _ _ (mk_neg2 h45 hj (nb h1) (nb h2) h5 h3 h4) _ _ ((same_new hw).trans (same_new hw2)) upd_same
      | cons r ps =>
        have h3 : (2 : Int) < ((List.map V.str (List.map S (p :: q :: r :: ps))).length : Nat) := by simp only [List.length_map, List.length_cons]; omega
        dsimp only [List.map_cons, List.map_nil]
        walk_at "gb go"
        · rename_i _ w hw h1
          refine kB (fun a b hc => ?_) _ (same_new hw)
          obtain ⟨⟨_, e⟩ | ⟨_, e⟩, _⟩ := canon_ps hc hps <;> cases e
    · have hm := sign_no h45
      have hbd : body t = t := by unfold body; rw [if_neg h45]
      have hbl : t.length ≤ 70 := hsl
      repeat' ((fail_if_success (show _ ∧ rNewStrs _ _ _)); walk_at "gb step")
      obtain ⟨ps, hps, hne, hj⟩ := split_any t
      rw [hps]
      rw [← hbd] at hps
      refine ⟨by rw [S_len, sizeLine_eq]; omega, ?_⟩
      cases ps with
      | nil => exact absurd rfl hne
      | cons p ps =>
      cases ps with
      | nil =>
        have hpl := join1 hj hbl
        dsimp only [List.map_cons, List.map_nil]
        walk_at "gb go"
        · rename_i _ w hw h1
          refine kB (fun a b hc => ?_) _ (same_new hw)
          obtain ⟨_, e⟩ := no1 hc hps rfl
          rw [e, lead_num] at h1
          cases h1
        · rename_i _ w hw h1 h2
          rw [h1] at h2
          cases h2
        · rename_i _ w hw h1 h2 hsg w2 hw2
          exact kG _ _ (mk_pos1 hj (nb h1)) _ _ ((same_new hw).trans (same_new hw2)) upd_same
      | cons q ps =>
      cases ps with
      | nil =>
        obtain ⟨hpl, hql⟩ := join2 hj hbl
        dsimp only [List.map_cons, List.map_nil]
        walk_at "gb go"
        · rename_i _ w hw h1
          refine kB (fun a b hc => ?_) _ (same_new hw)
          obtain ⟨_, e, _⟩ := no2 hc hps rfl
          rw [e, lead_num] at h1
          cases h1
        · rename_i _ w hw h1 h2
          refine kB (fun a b hc => ?_) _ (same_new hw)
          obtain ⟨_, _, e⟩ := no2 hc hps rfl
          rw [e, lead_num] at h2
          cases h2
        · rename_i _ w hw h1 h2 h3
          refine kB (fun a b hc => ?_) _ (same_new hw)
          obtain ⟨hb1, _, e⟩ := no2 hc hps rfl
          rw [e, numL_val] at h3
          have := hc.pos
          omega
        · rename_i _ w hw h1 h2 h3 h4
          refine kB (fun a b hc => ?_) _ (same_new hw)
          obtain ⟨_, e1, e2⟩ := no2 hc hps rfl
          rw [e1, e2, numL_val, numL_val, hc.cop] at h4
          exact h4 rfl
        · rename_i _ w hw h1 h2 h3 h4 hsg w2 hw2
          exact kG _ _ (mk_pos2 hj (nb h1) (nb h2) h3 h4) _ _ ((same_new hw).trans (same_new hw2)) upd_same
      | cons r ps =>
        have h3 : (2 : Int) < ((List.map V.str (List.map S (p :: q :: r :: ps))).length : Nat) := by simp only [List.length_map, List.length_cons]; omega
        dsimp only [List.map_cons, List.map_nil]
        walk_at "gb go"
        · rename_i _ w hw h1
          refine kB (fun a b hc => ?_) _ (same_new hw)
          obtain ⟨⟨_, e⟩ | ⟨_, e⟩, _⟩ := canon_ps hc hps <;> cases e
theorem ok_odd (T : Txt K mg A) : FnOk P w K mg base CX0 1 A.f_odd A.d_odd ["_law_cell"] (spLOdd) := by
  refine T.F_odd.ok sc_odd (fun vs H Q E h => ?_) (fun cdv Ar outer s H vs Q E hr h => ?_)
  · obtain ⟨i, rfl, _⟩ := h
    rfl
  · obtain ⟨i, rfl, h0, h1, k⟩ := h
    refine ⟨_, (pss_cons (ps_set (i := 1) sc_odd.nd rfl (Or.inl rfl) (pe_lst (pa_cons pe_str (pa_cons pe_str (pa_cons pe_str (pa_cons pe_str (pa_cons pe_str (pa_cons pe_str (pa_cons pe_str (pa_cons pe_str (pa_cons pe_str (pa_cons pe_str (pa_cons pe_str (pa_cons pe_str (pa_cons pe_str (pa_cons pe_str (pa_cons pe_str (pa_cons pe_str pa_nil))))))))))))))))))
        (pss_cons (ps_set (i := 1) sc_odd.nd rfl (Or.inl rfl) (pe_op op_cat (pv 1) (pe_lst (pa_cons pe_str (pa_cons pe_str (pa_cons pe_str (pa_cons pe_str (pa_cons pe_str (pa_cons pe_str (pa_cons pe_str (pa_cons pe_str (pa_cons pe_str (pa_cons pe_str (pa_cons pe_str (pa_cons pe_str (pa_cons pe_str (pa_cons pe_str pa_nil)))))))))))))))))
        (pss_cons (ps_set (i := 1) sc_odd.nd rfl (Or.inl rfl) (pe_op op_cat (pv 1) (pe_lst (pa_cons pe_str (pa_cons pe_str (pa_cons pe_str (pa_cons pe_str (pa_cons pe_str (pa_cons pe_str pa_nil)))))))))
        (pss_one (ps_ret (pe_ix (ix_listK K) (pv 1) (pv 0) (fun _ _ => rfl))))))), ?_⟩
    walk_at "gb go"
    refine k _ _ ?_ (by walk_at "gb same")
    exact (odd_at (n := 36) (by decide +kernel) rfl (by omega) (by omega)).choose_spec.2
theorem ok_spoilt (T : Txt K mg A) : FnOk P w K mg base CX0 5 A.f_spoilt A.d_spoilt ["_law_pool_here"] (spSpoilt) := by
  refine T.F_spoilt.ok sc_spoilt (fun vs H Q E h => ?_) (fun cdv Ar outer s H vs Q E hr h => ?_)
  · obtain ⟨p, rfl, _⟩ := h
    rfl
  · obtain ⟨p, rfl, hP, k⟩ := h
    refine ⟨_, (pss_cons (ps_set (i := 1) sc_spoilt.nd rfl (Or.inl rfl) (pe_call (ok_pair T) (hr.mono (by decide)) rfl T.g_pair T.F_pair.kp T.b_pair .nil pass0 (pa_cons (pv 0) (pa_cons pe_int pa_nil))))
        (pss_cons (ps_set (i := 2) sc_spoilt.nd rfl (Or.inl rfl) (pe_call (ok_lowest T) (hr.mono (by decide)) rfl T.g_lowest T.F_lowest.kp T.b_lowest .nil pass0 (pa_cons (pe_ix (ix_tupK K) (pv 1) pe_int (fun _ _ => rfl)) (pa_cons (pe_ix (ix_tupK K) (pv 1) pe_int (fun _ _ => rfl)) pa_nil))))
        (pss_cons (ps_set (i := 3) sc_spoilt.nd rfl (Or.inl rfl) (pe_call (ok_text T) (hr.mono (by decide)) rfl T.g_text T.F_text.kp T.b_text .nil pass0 (pa_cons (pv 2) pa_nil)))
        (pss_cons (ps_set (i := 4) sc_spoilt.nd rfl (Or.inl rfl) (pe_call (ok_draw T) (hr.mono (by decide)) rfl T.g_draw T.F_draw.kp T.b_draw .nil pass0 (pa_cons (pv 0) (pa_cons pe_int pa_nil))))
        (pss_cons (ps_set (i := 5) sc_spoilt.nd rfl (Or.inl rfl) (pe_call (ok_draw T) (hr.mono (by decide)) rfl T.g_draw T.F_draw.kp T.b_draw .nil pass0 (pa_cons (pv 0) (pa_cons (pe_op op_add (pe_callB call_len_str (by rfl) T.n_len (by decide +kernel) (pa_cons (pv 3) pa_nil)) pe_int) pa_nil))))
        (pss_cons (ps_if (pt_cmpR op_eq (pv 4) pe_int (nomark _)) (pss_one (ps_ret (pe_op op_add_str (pe_op op_add_str (pe_slice sl_str (pv 3) po_none (po_some (pv 5))) (pe_call (ok_char T) (hr.mono (by decide)) rfl T.g_char T.F_char.kp T.b_char .nil pass0 (pa_cons (pv 0) pa_nil))) (pe_slice sl_str (pv 3) (po_some (pe_op op_add (pv 5) pe_int)) po_none)))) pss_nil)
        (pss_cons (ps_if (pt_cmpR op_eq (pv 4) pe_int (nomark _)) (pss_one (ps_ret (pe_op op_add_str (pe_op op_add_str (pe_slice sl_str (pv 3) po_none (po_some (pv 5))) (pe_call (ok_char T) (hr.mono (by decide)) rfl T.g_char T.F_char.kp T.b_char .nil pass0 (pa_cons (pv 0) pa_nil))) (pe_slice sl_str (pv 3) (po_some (pv 5)) po_none)))) pss_nil)
        (pss_cons (ps_if (pt_cmpR op_eq (pv 4) pe_int (nomark _)) (pss_one (ps_ret (pe_op op_add_str (pe_slice sl_str (pv 3) po_none (po_some (pv 5))) (pe_slice sl_str (pv 3) (po_some (pe_op op_add (pv 5) pe_int)) po_none)))) pss_nil)
        (pss_cons (ps_if (pt_cmpR op_eq (pv 4) pe_int (nomark _)) (pss_one (ps_ret (pe_call (ok_odd T) (hr.mono (by decide)) rfl T.g_odd T.F_odd.kp T.b_odd .nil pass0 (pa_cons (pe_call (ok_draw T) (hr.mono (by decide)) rfl T.g_draw T.F_draw.kp T.b_draw .nil pass0 (pa_cons (pv 0) (pa_cons pe_int pa_nil))) pa_nil)))) pss_nil)
        (pss_cons (ps_if (pt_cmpR op_eq (pv 4) pe_int (nomark _)) (pss_cons (ps_set (i := 6) sc_spoilt.nd rfl (Or.inl rfl) (pe_op op_add pe_int (pe_call (ok_draw T) (hr.mono (by decide)) rfl T.g_draw T.F_draw.kp T.b_draw .nil pass0 (pa_cons (pv 0) (pa_cons pe_int pa_nil)))))
        (pss_one (ps_ret (pe_op op_add_str (pe_op op_add_str (pe_callTy call_str2 (by rfl) T.n_str (by decide +kernel) (pa_cons (pe_op op_mulX (pe_ix (ix_tupK K) (pv 2) pe_int (fun _ _ => rfl)) (pv 6)) pa_nil)) pe_str) (pe_callTy call_str2 (by rfl) T.n_str (by decide +kernel) (pa_cons (pe_op op_mulX (pe_ix (ix_tupK K) (pv 2) pe_int (fun _ _ => rfl)) (pv 6)) pa_nil)))))) pss_nil)
        (pss_one (ps_ret (pv 3))))))))))))), ?_⟩
    repeat' ((fail_if_success (show ∀ z : Str, IsTx z _ _ → _)); walk_at "gb step")
    rename_i tq ta tb H1 ba bb hb0 ntp P1 s1 etq pq t1 u1 H2 r1 s2 epq
    intro z hz
    have b1 : Bits 40 t1 := rep_bt r1 ba.e
    have b2 : Bits 40 u1 := rep_bb r1 bb.e
    have hz30 := tx_30 hz b1 b2
    have np := tup_np epq (P1.mono s2)
    walk_at "gb go"
    all_goals (try (refine k _ _ _ (isS_tl _) (small_z (n := 61) ?_ (by decide)) (by walk_at "gb pool") (by walk_at "gb but"); first | exact cat3 hz30 | exact cat2 hz30 | exact cat5 b1 b2 (by omega) (by omega) | omega | fail))
    all_goals (try (rename_i tt H9 htt s9; exact k _ _ _ ⟨rfl⟩ ⟨by omega⟩ (pool_mono s9 (by assumption)) (by walk_at "gb but")))
    rename_i r9 H9 r90 r91 P9 s9
    have hm1 := b1.mul (bits4 (k := 1 + r9) (by omega) (by omega))
    have hm2 := b2.mul (bits4 (k := 1 + r9) (by omega) (by omega))
    have lg1 : (t1 * (1 + r9)).natAbs.log2 < 1920 := logB hm1 (by decide) (by decide)
    have lg2 : (u1 * (1 + r9)).natAbs.log2 < 1920 := logB hm2 (by decide) (by decide)
    refine ⟨lg1, ?_⟩
    walk_at "gb go"
    refine k _ _ _ (isS_tl _) (small_z (n := 61) ?_ (by decide)) (by walk_at "gb pool") (by walk_at "gb but")
    exact cat5 b1 b2 (by omega) (by omega)
theorem ok_is (T : Txt K mg A) : FnOk P w K mg base CX0 2 A.f_is A.d_is ["_law_share", "_law_pair_here", "_law_text_here"] (spLIs A) := by
  refine T.F_is.ok sc_is (fun vs H Q E h => ?_) (fun cdv Ar outer s H vs Q E hr h => ?_)
  · obtain ⟨x, p, z, a, b, rfl, _⟩ := h
    rfl
  · obtain ⟨x, p, z, a, b, rfl, hz, hX, hp, ha, hb, k⟩ := h
    refine ⟨_, (pss_cons (ps_if (PW.pt (pw_or (pt_not (pt_val (pe_callB (call_isiK' K) (by rfl) T.n_isinstance (by decide +kernel) (pa_cons (pv 0) (pa_cons (pe_glob (v := .ref A.c_Share) rfl T.g_Share rfl) pa_nil))) (by intro _; rfl))) (pw_or (pt_not (pt_val (pe_call (ok_whole T) (hr.mono (by decide)) rfl T.g_whole T.F_whole.kp T.b_whole .nil pass0 (pa_cons (pe_fldK K (pv 0) rfl) pa_nil)) (by intro _; rfl))) (pw_or1 (pt_not (pt_val (pe_call (ok_whole T) (hr.mono (by decide)) rfl T.g_whole T.F_whole.kp T.b_whole .nil pass0 (pa_cons (pe_fldK K (pv 0) rfl) pa_nil)) (by intro _; rfl))))))) (pss_one (ps_ret pe_bl)) pss_nil)
        (pss_cons (ps_if (PW.pt (pw_or (pt_cmpR op_ne (pe_fldK K (pv 0) rfl) (pe_ix (ix_tupK K) (pv 1) pe_int (fun _ _ => rfl)) (nomark _)) (pw_or1 (pt_cmpR op_ne (pe_fldK K (pv 0) rfl) (pe_ix (ix_tupK K) (pv 1) pe_int (fun _ _ => rfl)) (nomark _))))) (pss_one (ps_ret pe_bl)) pss_nil)
        (pss_one (ps_ret (pe_and (pe_callB (call_isiK' K) (by rfl) T.n_isinstance (by decide +kernel) (pa_cons (pe_meth0 (pv 0) T.cl_Share T.me_Share_text (ok_Share_text T) (hr.mono (by decide)) T.b_Share_text .nil pass0 ) (pa_cons (pe_bltn (v := .ty "str") (by rfl) T.n_str (by decide +kernel) rfl) pa_nil))) (pe_one (pe_cmpR op_eq (pe_meth0 (pv 0) T.cl_Share T.me_Share_text (ok_Share_text T) (hr.mono (by decide)) T.b_Share_text .nil pass0 ) (pv 2) (nomark _)))))))), ?_⟩
    obtain ⟨rfl⟩ := hz
    obtain ⟨dx, ho⟩ := id hX
    walk_at "gb go"
    rw [decide_eq_true rfl]
    exact k
theorem ok_asked (T : Txt K mg A) : FnOk P w K mg base CX0 6 A.f_asked A.d_asked ["_law_text_here"] (spAsked) := by
  refine T.F_asked.ok sc_asked (fun vs H Q E h => ?_) (fun cdv Ar outer s H vs Q E hr h => ?_)
  · obtain ⟨z, t, rfl, _⟩ := h
    rfl
  · obtain ⟨z, t, rfl, hz, hs, k⟩ := h
    refine ⟨_, (pss_cons (ps_set (i := 1) sc_asked.nd rfl (Or.inl rfl) (pe_call (ok_read T) (hr.mono (by decide)) rfl T.g_read T.F_read.kp T.b_read .nil pass0 (pa_cons (pv 0) pa_nil)))
        (pss_cons (ps_try_as (i := 3) rfl rfl sc_asked.nd rfl rfl ⟨rfl, by decide, Or.inl T.g_GangError⟩ takes0 (fun W pn xe tk _ => (pss_one (ps_set (i := 2) sc_asked.nd rfl (Or.inl rfl) (pe_cmethT (pe_glob (v := .ref A.c_Share) rfl T.g_Share rfl) T.rd_Share T.cm_Share_read.choose_spec ((ok_Share_read T).toR T.b_Share_read) (hr.mono (by decide)) (fun σ => passAt tk σ) (pa_cons (pv 0) pa_nil))))) (fun a oe cls d pn hz hf => (pss_cons (ps_if (PW.pt (pw_or (pt_cmpR op_notN (pv 1) pe_non (nomark _)) (pw_or (pt_not (pt_val (pe_callB (call_isX hz hf) (by rfl) T.n_isinstance (by decide +kernel) (pa_cons (pv 3) (pa_cons (pe_glob (v := .ref A.c_BadShare) rfl T.g_BadShare rfl) pa_nil))) (by intro _; rfl))) (pw_or1 (pt_not (pt_val (pe_callB (call_isX hz hf) (by rfl) T.n_isinstance (by decide +kernel) (pa_cons (pv 3) (pa_cons (pe_bltn (v := .ty "ValueError") (by rfl) T.n_ValueError (by decide +kernel) rfl) pa_nil))) (by intro _; rfl))))))) (pss_one (ps_ret pe_bl)) pss_nil)
        (pss_one (ps_ret (pe_and (pe_cmpR op_eq (pe_xf T.xf_BadShare T.x_BadShare.noS hz hf (pv 3)) (pv 0) (nomark _)) (pe_and (pe_not (pe_callB (call_isX hz hf) (by rfl) T.n_isinstance (by decide +kernel) (pa_cons (pv 3) (pa_cons (pe_glob (v := .ref A.c_BadNote) rfl T.g_BadNote rfl) pa_nil)))) (pe_one (pe_not (pe_callB (call_isX hz hf) (by rfl) T.n_isinstance (by decide +kernel) (pa_cons (pv 3) (pa_cons (pe_glob (v := .ref A.c_BadLine) rfl T.g_BadLine rfl) pa_nil))))))))))))
        (pss_one (ps_ret (pe_and (pe_cmpR op_notN (pv 1) pe_non (nomark _)) (pe_one (pe_call (ok_is T) (hr.mono (by decide)) rfl T.g_is T.F_is.kp T.b_is .nil pass0 (pa_cons (pv 2) (pa_cons (pv 1) (pa_cons (pv 0) pa_nil)))))))))), ?_⟩
    obtain ⟨rfl⟩ := hz
    by_cases hc : ∃ a b, Canon t a b
    · obtain ⟨a, b, hc⟩ := hc
      refine ⟨_, rfl, t, rfl, hs, fun a2 b2 hc2 p H1 s1 hp => ?_, fun hn => absurd hc (hn a b)⟩
      obtain ⟨rfl, rfl⟩ := Canon_uniq hc hc2
      obtain ⟨ba, bb⟩ := Canon_bits hc hs
      have ht := hc.e
      subst ht
      walk_at "gb go"
      refine ⟨fun a3 b3 hc3 x H2 s2 hx => ?_, fun hn => absurd hc (hn a b)⟩
      obtain ⟨rfl, rfl⟩ := Canon_uniq hc hc3
      walk_at "gb go"
      exact k _ (s1.trans s2)
    · have hn : ∀ a b, ¬ Canon t a b := fun a b h => hc ⟨a, b, h⟩
      refine ⟨_, rfl, t, rfl, hs, fun a2 b2 hc2 => absurd hc2 (hn a2 b2), fun _ H1 s1 => ?_⟩
      walk_at "gb go"
      refine ⟨fun a3 b3 hc3 => absurd hc3 (hn a3 b3), fun _ d H' sm e2 => ?_⟩
      refine ⟨true, T.xm_BadShare, fun _ ex hex => ?_, fun q => nomatch q⟩
      walk_at "gb go"
      exact k _ (s1.trans sm)
theorem ok_law (T : Txt K mg A) : FnOk P w K mg base CX0 14 A.f_law A.d_law ["_law_script"] (spLaw K) := by
  refine T.F_law.ok sc_law (fun vs H Q E h => ?_) (fun cdv Ar outer s H vs Q E hr h => ?_)
  · obtain ⟨sc, ns, rfl, _⟩ := h
    rfl
  · obtain ⟨sc, ns, rfl, hS, hl, hb, k⟩ := h
    refine ⟨_, (pss_cons (ps_set (i := 1) sc_law.nd rfl (Or.inl rfl) (pe_call (ok_pool T) (hr.mono (by decide)) rfl T.g_pool T.F_pool.kp T.b_pool .nil pass0 (pa_cons (pv 0) pa_nil)))
        (pss_cons (ps_set (i := 2) sc_law.nd rfl (Or.inl rfl) (pe_call (ok_pair T) (hr.mono (by decide)) rfl T.g_pair T.F_pair.kp T.b_pair .nil pass0 (pa_cons (pv 1) (pa_cons pe_int pa_nil))))
        (pss_cons (ps_set (i := 3) sc_law.nd rfl (Or.inl rfl) (pe_call (ok_lowest T) (hr.mono (by decide)) rfl T.g_lowest T.F_lowest.kp T.b_lowest .nil pass0 (pa_cons (pe_ix (ix_tupK K) (pv 2) pe_int (fun _ _ => rfl)) (pa_cons (pe_ix (ix_tupK K) (pv 2) pe_int (fun _ _ => rfl)) pa_nil))))
        (pss_cons (ps_set (i := 4) sc_law.nd rfl (Or.inl rfl) (pe_call (ok_text T) (hr.mono (by decide)) rfl T.g_text T.F_text.kp T.b_text .nil pass0 (pa_cons (pv 3) pa_nil)))
        (pss_cons (ps_set (i := 5) sc_law.nd rfl (Or.inl rfl) (pe_make T.mk_Share (ok_Share_init T) (hr.mono (by decide)) rfl T.g_Share T.b_Share_init .nil passL (pa_cons (pe_ix (ix_tupK K) (pv 2) pe_int (fun _ _ => rfl)) (pa_cons (pe_ix (ix_tupK K) (pv 2) pe_int (fun _ _ => rfl)) pa_nil))))
        (pss_cons (ps_if (PW.pt (pw_or (pt_not (pt_val (pe_call (ok_is T) (hr.mono (by decide)) rfl T.g_is T.F_is.kp T.b_is .nil pass0 (pa_cons (pv 5) (pa_cons (pv 3) (pa_cons (pv 4) pa_nil)))) (by intro _; rfl))) (pw_or1 (pt_not (pt_val (pe_call (ok_is T) (hr.mono (by decide)) rfl T.g_is T.F_is.kp T.b_is .nil pass0 (pa_cons (ClX.pe_cmeth (pe_glob (v := .ref A.c_Share) rfl T.g_Share rfl) T.rd_Share T.cm_Share_read.choose_spec ((ok_Share_read T).toR T.b_Share_read) (hr.mono (by decide)) passL (pa_cons (pv 4) pa_nil)) (pa_cons (pv 3) (pa_cons (pv 4) pa_nil)))) (by intro _; rfl)))))) (pss_one (ps_ret pe_bl)) pss_nil)
        (pss_cons (ps_for PassesOwn.never rfl (pi_range1 rfl T.n_range (pa_cons pe_int pa_nil)) (pg_name (i := 6) sc_law.nd rfl (Or.inl rfl))
        (pss_one (ps_if (pt_not (pt_val (pe_call (ok_asked T) (hr.mono (by decide)) rfl T.g_asked T.F_asked.kp T.b_asked .nil pass0 (pa_cons (pe_call (ok_spoilt T) (hr.mono (by decide)) rfl T.g_spoilt T.F_spoilt.kp T.b_spoilt .nil pass0 (pa_cons (pv 1) pa_nil)) pa_nil)) (by intro _; rfl))) (pss_one (ps_ret pe_bl)) pss_nil)))
        (pss_cons (ps_if (pt_not (pt_val (pe_call (ok_asked T) (hr.mono (by decide)) rfl T.g_asked T.F_asked.kp T.b_asked .nil pass0 (pa_cons (pe_call (ok_odd T) (hr.mono (by decide)) rfl T.g_odd T.F_odd.kp T.b_odd .nil pass0 (pa_cons (pe_call (ok_draw T) (hr.mono (by decide)) rfl T.g_draw T.F_draw.kp T.b_draw .nil pass0 (pa_cons (pv 1) (pa_cons pe_int pa_nil))) pa_nil)) pa_nil)) (by intro _; rfl))) (pss_one (ps_ret pe_bl)) pss_nil)
        (pss_one (ps_ret (pe_and (pe_call (ok_is T) (hr.mono (by decide)) rfl T.g_is T.F_is.kp T.b_is .nil pass0 (pa_cons (pv 5) (pa_cons (pv 3) (pa_cons (pv 4) pa_nil)))) (pe_one (pe_call (ok_asked T) (hr.mono (by decide)) rfl T.g_asked T.F_asked.kp T.b_asked .nil pass0 (pa_cons (pv 4) pa_nil)))))))))))))), ?_⟩
    walk_at "gb go"
    rename_i p Hp hpn Pp sp tq ta tb H1 ba bb hb0 ntp P1 s1 etq pq t1 u1 H2 r1 s2 epq z hz x H3 t2 u2 s3 hx r2
    obtain ⟨rfl, rfl⟩ := rep_same hb0 r1 r2
    have hcan : Canon (txt t1 u1) t1 u1 := ⟨rfl, r1.pos, r1.cop⟩
    clear hS hl hb hpn
    walk_at "gb go"
    refine ⟨fun a2 b2 hc2 x2 H4 s4 hx2 => ?_, fun hn => absurd hcan (hn t1 u1)⟩
    obtain ⟨rfl, rfl⟩ := Canon_uniq hcan hc2
    walk_at "gb go"
    have P4 : PoolAt H4 p := P1.mono (s2.trans (s3.trans s4))
    have hx4 := hx.mono s4
    have ep4 := s4 _ _ (s3 _ _ epq)
    have b1 : Bits 100 t1 := rep_bt r1 ba.e
    have b2 : Bits 100 u1 := rep_bb r1 bb.e
    clear hx2 hc2 r2 s2 s3 s4 hx epq etq ba bb hb0 P1 s1 Pp sp ntp r1
    exact (for_range (lo := 0) (n := 3) (fun i σ H' => ∃ v : Option V, σ = [some (.ref sc), some (.ref p), some (.ref tq), some (.ref pq), some (.str z), some (.ref x), v] ∧ PoolAt H' p ∧ ShareAt A H' x t1 u1 ∧ H' pq = some (.tup [.int t1, .int u1])) ⟨none, rfl, P4, hx4, ep4⟩ (by
      rintro i σ H5 hi ⟨v, rfl, P5, hx5, ep5⟩
      have nx := share_np hx5 P5
      have np := tup_np ep5 P5
      clear P4 hx4 ep4
      walk_at "gb go"
      rename_i zz tt H6 h1 h2 P6 s6 H7 s7
      exact ⟨(share_but hx5 nx s6).mono s7, s7 _ _ (s6 _ _ np ep5)⟩) (by
      rintro σ H5 ⟨v, rfl, P5, hx5, ep5⟩
      have nx := share_np hx5 P5
      have np := tup_np ep5 P5
      clear P4 hx4 ep4
      walk_at "gb go"
      rename_i r H6 r0 r1 P6 s6 tt H7 htt s7
      refine ⟨⟨by omega⟩, fun H8 s8 => ?_⟩
      have hx8 := (share_but hx5 nx s6).mono (s7.trans s8)
      have ep8 := s8 _ _ (s7 _ _ (s6 _ _ np ep5))
      walk_at "gb go"
      exact k _))
end
theorem all_mk {P : Program} {w : World} {K : PySem.W.Frag} {h : Heap} {mg : Str → Option Value} {fa : Addr} (X : K.In h) (G : h.Ns mainGlobals mg) (hfa : mg "law" = some (.ref fa))
    {c_Share c_GangError c_BadShare c_BadNote c_BadLine f_GangError_init f_is_digits f_Share_init f_Share_text f_Share_read f_pool f_draw f_number f_signed f_char f_whole f_factor f_pair f_lowest f_text f_digits f_read f_odd f_spoilt f_is f_asked f_law : Addr}
    {od_GangError_init an_GangError_init : Option Addr} {sl_GangError_init : Array (Option Value)} {oc_GangError_init kV_GangError_init dc_GangError_init pm_GangError_init cd_GangError_init ct_GangError_init : Value}
    {od_is_digits an_is_digits : Option Addr} {sl_is_digits : Array (Option Value)} {oc_is_digits kV_is_digits dc_is_digits pm_is_digits cd_is_digits ct_is_digits : Value}
    {od_Share_init an_Share_init : Option Addr} {sl_Share_init : Array (Option Value)} {oc_Share_init kV_Share_init dc_Share_init pm_Share_init cd_Share_init ct_Share_init : Value}
    {T_Share_init : Addr} {oT_Share_init : Value} {dT_Share_init : Option Addr} {nT_Share_init : Nat} {sT_Share_init : Array (Option Value)} {tk0_Share_init : Tok}
    {od_Share_text an_Share_text : Option Addr} {sl_Share_text : Array (Option Value)} {oc_Share_text kV_Share_text dc_Share_text pm_Share_text cd_Share_text ct_Share_text : Value}
    {od_Share_read an_Share_read : Option Addr} {sl_Share_read : Array (Option Value)} {oc_Share_read kV_Share_read dc_Share_read pm_Share_read cd_Share_read ct_Share_read : Value}
    {p_Share_read : Addr} {rest_Share_read : List Value}
    {od_pool an_pool : Option Addr} {sl_pool : Array (Option Value)} {oc_pool kV_pool dc_pool pm_pool cd_pool ct_pool : Value}
    {od_draw an_draw : Option Addr} {sl_draw : Array (Option Value)} {oc_draw kV_draw dc_draw pm_draw cd_draw ct_draw : Value}
    {od_number an_number : Option Addr} {sl_number : Array (Option Value)} {oc_number kV_number dc_number pm_number cd_number ct_number : Value}
    {od_signed an_signed : Option Addr} {sl_signed : Array (Option Value)} {oc_signed kV_signed dc_signed pm_signed cd_signed ct_signed : Value}
    {od_char an_char : Option Addr} {sl_char : Array (Option Value)} {oc_char kV_char dc_char pm_char cd_char ct_char : Value}
    {od_whole an_whole : Option Addr} {sl_whole : Array (Option Value)} {oc_whole kV_whole dc_whole pm_whole cd_whole ct_whole : Value}
    {od_factor an_factor : Option Addr} {sl_factor : Array (Option Value)} {oc_factor kV_factor dc_factor pm_factor cd_factor ct_factor : Value}
    {od_pair an_pair : Option Addr} {sl_pair : Array (Option Value)} {oc_pair kV_pair dc_pair pm_pair cd_pair ct_pair : Value}
    {od_lowest an_lowest : Option Addr} {sl_lowest : Array (Option Value)} {oc_lowest kV_lowest dc_lowest pm_lowest cd_lowest ct_lowest : Value}
    {od_text an_text : Option Addr} {sl_text : Array (Option Value)} {oc_text kV_text dc_text pm_text cd_text ct_text : Value}
    {od_digits an_digits : Option Addr} {sl_digits : Array (Option Value)} {oc_digits kV_digits dc_digits pm_digits cd_digits ct_digits : Value}
    {od_read an_read : Option Addr} {sl_read : Array (Option Value)} {oc_read kV_read dc_read pm_read cd_read ct_read : Value}
    {od_odd an_odd : Option Addr} {sl_odd : Array (Option Value)} {oc_odd kV_odd dc_odd pm_odd cd_odd ct_odd : Value}
    {od_spoilt an_spoilt : Option Addr} {sl_spoilt : Array (Option Value)} {oc_spoilt kV_spoilt dc_spoilt pm_spoilt cd_spoilt ct_spoilt : Value}
    {od_is an_is : Option Addr} {sl_is : Array (Option Value)} {oc_is kV_is dc_is pm_is cd_is ct_is : Value}
    {od_asked an_asked : Option Addr} {sl_asked : Array (Option Value)} {oc_asked kV_asked dc_asked pm_asked cd_asked ct_asked : Value}
    {od_law an_law : Option Addr} {sl_law : Array (Option Value)} {oc_law kV_law dc_law pm_law cd_law ct_law : Value}
    {nm_GangError q_GangError : Str} {N_GangError : Addr} {bs_GangError bm_GangError : List Value} {sn_GangError : List Str} {sub_GangError : List Value} {ab_GangError : Bool} {col_GangError : Option Bool} {dd_GangError : Option Addr} {m0_GangError m1_GangError m2_GangError m3_GangError m5_GangError : Option Value}
    {nm_BadShare q_BadShare : Str} {N_BadShare : Addr} {bs_BadShare bm_BadShare : List Value} {sn_BadShare : List Str} {sub_BadShare : List Value} {ab_BadShare : Bool} {col_BadShare : Option Bool} {dd_BadShare : Option Addr} {m0_BadShare m1_BadShare m2_BadShare m3_BadShare m5_BadShare : Option Value}
    {nm_BadNote q_BadNote : Str} {N_BadNote : Addr} {bs_BadNote bm_BadNote : List Value} {sn_BadNote : List Str} {sub_BadNote : List Value} {ab_BadNote : Bool} {col_BadNote : Option Bool} {dd_BadNote : Option Addr} {m0_BadNote m1_BadNote m2_BadNote m3_BadNote m5_BadNote : Option Value}
    {nm_BadLine q_BadLine : Str} {N_BadLine : Addr} {bs_BadLine bm_BadLine : List Value} {sn_BadLine : List Str} {sub_BadLine : List Value} {ab_BadLine : Bool} {col_BadLine : Option Bool} {dd_BadLine : Option Addr} {m0_BadLine m1_BadLine m2_BadLine m3_BadLine m5_BadLine : Option Value}
    {tk_DIGITS : Tok}
    (nb_ValueError : PySem.W.nsIn K mainGlobals "ValueError" = some none)
    (nb_abs : PySem.W.nsIn K mainGlobals "abs" = some none)
    (nb_all : PySem.W.nsIn K mainGlobals "all" = some none)
    (nb_bool : PySem.W.nsIn K mainGlobals "bool" = some none)
    (nb_int : PySem.W.nsIn K mainGlobals "int" = some none)
    (nb_isinstance : PySem.W.nsIn K mainGlobals "isinstance" = some none)
    (nb_len : PySem.W.nsIn K mainGlobals "len" = some none)
    (nb_range : PySem.W.nsIn K mainGlobals "range" = some none)
    (nb_str : PySem.W.nsIn K mainGlobals "str" = some none)
    (ag_Share : PySem.W.nsIn K mainGlobals "Share" = some (some (.ref c_Share)))
    (ag_GangError : PySem.W.nsIn K mainGlobals "GangError" = some (some (.ref c_GangError)))
    (ag_BadShare : PySem.W.nsIn K mainGlobals "BadShare" = some (some (.ref c_BadShare)))
    (ag_BadNote : PySem.W.nsIn K mainGlobals "BadNote" = some (some (.ref c_BadNote)))
    (ag_BadLine : PySem.W.nsIn K mainGlobals "BadLine" = some (some (.ref c_BadLine)))
    (at_GangError_init : PySem.W.findIn K (.ref c_GangError) "__init__" = some (some (.ref f_GangError_init)))
    (lk_GangError_init : K.lookup f_GangError_init = some ⟨oc_GangError_init, od_GangError_init, .func (PySem.W.fnOf "__init__" "GangError.__init__" (defArgs s_GangError_init) (defBody s_GangError_init) (defScope s_GangError_init) .none kV_GangError_init dc_GangError_init pm_GangError_init an_GangError_init cd_GangError_init ct_GangError_init), sl_GangError_init⟩)
    (co_GangError_init : PySem.W.codeIn K cd_GangError_init "GangError.__init__" = true)
    (ke_GangError_init : PySem.W.keepIn K (.ref f_GangError_init) = true)
    (fn_GangError_init : PySem.W.isFn K (.ref f_GangError_init) = true)
    (at_is_digits : PySem.W.nsIn K mainGlobals "is_digits" = some (some (.ref f_is_digits)))
    (lk_is_digits : K.lookup f_is_digits = some ⟨oc_is_digits, od_is_digits, .func (PySem.W.fnOf "is_digits" "is_digits" (defArgs s_is_digits) (defBody s_is_digits) (defScope s_is_digits) .none kV_is_digits dc_is_digits pm_is_digits an_is_digits cd_is_digits ct_is_digits), sl_is_digits⟩)
    (co_is_digits : PySem.W.codeIn K cd_is_digits "is_digits" = true)
    (ke_is_digits : PySem.W.keepIn K (.ref f_is_digits) = true)
    (at_Share_init : PySem.W.findIn K (.ref c_Share) "__init__" = some (some (.ref f_Share_init)))
    (lk_Share_init : K.lookup f_Share_init = some ⟨oc_Share_init, od_Share_init, .func (PySem.W.fnOf "__init__" "Share.__init__" (defArgs s_Share_init) (defBody s_Share_init) (defScope s_Share_init) (.ref T_Share_init) kV_Share_init dc_Share_init pm_Share_init an_Share_init cd_Share_init ct_Share_init), sl_Share_init⟩)
    (co_Share_init : PySem.W.codeIn K cd_Share_init "Share.__init__" = true)
    (ke_Share_init : PySem.W.keepIn K (.ref f_Share_init) = true)
    (dl_Share_init : K.lookup T_Share_init = some ⟨oT_Share_init, dT_Share_init, .seq #[Value.int 1 tk0_Share_init] nT_Share_init, sT_Share_init⟩)
    (fn_Share_init : PySem.W.isFn K (.ref f_Share_init) = true)
    (at_Share_text : PySem.W.findIn K (.ref c_Share) "text" = some (some (.ref f_Share_text)))
    (lk_Share_text : K.lookup f_Share_text = some ⟨oc_Share_text, od_Share_text, .func (PySem.W.fnOf "text" "Share.text" (defArgs s_Share_text) (defBody s_Share_text) (defScope s_Share_text) .none kV_Share_text dc_Share_text pm_Share_text an_Share_text cd_Share_text ct_Share_text), sl_Share_text⟩)
    (co_Share_text : PySem.W.codeIn K cd_Share_text "Share.text" = true)
    (ke_Share_text : PySem.W.keepIn K (.ref f_Share_text) = true)
    (fn_Share_text : PySem.W.isFn K (.ref f_Share_text) = true)
    (p1_Share_read : PySem.W.findCls K (.ref c_Share) (.type "type") "read" = some (.get (.builtin "classmethod.__get__") (.ref p_Share_read) .none (.ref c_Share)))
    (p4_Share_read : PySem.W.recIn K p_Share_read "classmethod" = some (.ref f_Share_read :: rest_Share_read))
    (lk_Share_read : K.lookup f_Share_read = some ⟨oc_Share_read, od_Share_read, .func (PySem.W.fnOf "read" "Share.read" (defArgs s_Share_read) (defBody s_Share_read) (defScope s_Share_read) .none kV_Share_read dc_Share_read pm_Share_read an_Share_read cd_Share_read ct_Share_read), sl_Share_read⟩)
    (co_Share_read : PySem.W.codeIn K cd_Share_read "Share.read" = true)
    (ke_Share_read : PySem.W.keepIn K (.ref f_Share_read) = true)
    (p6_Share_read : PySem.W.readsIn K c_Share (.type "type") = true)
    (p7_Share_read : PySem.W.specialIn K (.ref c_Share) "__getattribute__" = some (some (.builtin "type.__getattribute__")))
    (at_pool : PySem.W.nsIn K mainGlobals "_law_pool" = some (some (.ref f_pool)))
    (lk_pool : K.lookup f_pool = some ⟨oc_pool, od_pool, .func (PySem.W.fnOf "_law_pool" "_law_pool" (defArgs s_pool) (defBody s_pool) (defScope s_pool) .none kV_pool dc_pool pm_pool an_pool cd_pool ct_pool), sl_pool⟩)
    (co_pool : PySem.W.codeIn K cd_pool "_law_pool" = true)
    (ke_pool : PySem.W.keepIn K (.ref f_pool) = true)
    (at_draw : PySem.W.nsIn K mainGlobals "_law_draw" = some (some (.ref f_draw)))
    (lk_draw : K.lookup f_draw = some ⟨oc_draw, od_draw, .func (PySem.W.fnOf "_law_draw" "_law_draw" (defArgs s_draw) (defBody s_draw) (defScope s_draw) .none kV_draw dc_draw pm_draw an_draw cd_draw ct_draw), sl_draw⟩)
    (co_draw : PySem.W.codeIn K cd_draw "_law_draw" = true)
    (ke_draw : PySem.W.keepIn K (.ref f_draw) = true)
    (at_number : PySem.W.nsIn K mainGlobals "_law_number" = some (some (.ref f_number)))
    (lk_number : K.lookup f_number = some ⟨oc_number, od_number, .func (PySem.W.fnOf "_law_number" "_law_number" (defArgs s_number) (defBody s_number) (defScope s_number) .none kV_number dc_number pm_number an_number cd_number ct_number), sl_number⟩)
    (co_number : PySem.W.codeIn K cd_number "_law_number" = true)
    (ke_number : PySem.W.keepIn K (.ref f_number) = true)
    (at_signed : PySem.W.nsIn K mainGlobals "_law_signed" = some (some (.ref f_signed)))
    (lk_signed : K.lookup f_signed = some ⟨oc_signed, od_signed, .func (PySem.W.fnOf "_law_signed" "_law_signed" (defArgs s_signed) (defBody s_signed) (defScope s_signed) .none kV_signed dc_signed pm_signed an_signed cd_signed ct_signed), sl_signed⟩)
    (co_signed : PySem.W.codeIn K cd_signed "_law_signed" = true)
    (ke_signed : PySem.W.keepIn K (.ref f_signed) = true)
    (at_char : PySem.W.nsIn K mainGlobals "_law_char" = some (some (.ref f_char)))
    (lk_char : K.lookup f_char = some ⟨oc_char, od_char, .func (PySem.W.fnOf "_law_char" "_law_char" (defArgs s_char) (defBody s_char) (defScope s_char) .none kV_char dc_char pm_char an_char cd_char ct_char), sl_char⟩)
    (co_char : PySem.W.codeIn K cd_char "_law_char" = true)
    (ke_char : PySem.W.keepIn K (.ref f_char) = true)
    (at_whole : PySem.W.nsIn K mainGlobals "_law_whole" = some (some (.ref f_whole)))
    (lk_whole : K.lookup f_whole = some ⟨oc_whole, od_whole, .func (PySem.W.fnOf "_law_whole" "_law_whole" (defArgs s_whole) (defBody s_whole) (defScope s_whole) .none kV_whole dc_whole pm_whole an_whole cd_whole ct_whole), sl_whole⟩)
    (co_whole : PySem.W.codeIn K cd_whole "_law_whole" = true)
    (ke_whole : PySem.W.keepIn K (.ref f_whole) = true)
    (at_factor : PySem.W.nsIn K mainGlobals "_law_factor" = some (some (.ref f_factor)))
    (lk_factor : K.lookup f_factor = some ⟨oc_factor, od_factor, .func (PySem.W.fnOf "_law_factor" "_law_factor" (defArgs s_factor) (defBody s_factor) (defScope s_factor) .none kV_factor dc_factor pm_factor an_factor cd_factor ct_factor), sl_factor⟩)
    (co_factor : PySem.W.codeIn K cd_factor "_law_factor" = true)
    (ke_factor : PySem.W.keepIn K (.ref f_factor) = true)
    (at_pair : PySem.W.nsIn K mainGlobals "_law_pair" = some (some (.ref f_pair)))
    (lk_pair : K.lookup f_pair = some ⟨oc_pair, od_pair, .func (PySem.W.fnOf "_law_pair" "_law_pair" (defArgs s_pair) (defBody s_pair) (defScope s_pair) .none kV_pair dc_pair pm_pair an_pair cd_pair ct_pair), sl_pair⟩)
    (co_pair : PySem.W.codeIn K cd_pair "_law_pair" = true)
    (ke_pair : PySem.W.keepIn K (.ref f_pair) = true)
    (at_lowest : PySem.W.nsIn K mainGlobals "_law_lowest" = some (some (.ref f_lowest)))
    (lk_lowest : K.lookup f_lowest = some ⟨oc_lowest, od_lowest, .func (PySem.W.fnOf "_law_lowest" "_law_lowest" (defArgs s_lowest) (defBody s_lowest) (defScope s_lowest) .none kV_lowest dc_lowest pm_lowest an_lowest cd_lowest ct_lowest), sl_lowest⟩)
    (co_lowest : PySem.W.codeIn K cd_lowest "_law_lowest" = true)
    (ke_lowest : PySem.W.keepIn K (.ref f_lowest) = true)
    (at_text : PySem.W.nsIn K mainGlobals "_law_text" = some (some (.ref f_text)))
    (lk_text : K.lookup f_text = some ⟨oc_text, od_text, .func (PySem.W.fnOf "_law_text" "_law_text" (defArgs s_text) (defBody s_text) (defScope s_text) .none kV_text dc_text pm_text an_text cd_text ct_text), sl_text⟩)
    (co_text : PySem.W.codeIn K cd_text "_law_text" = true)
    (ke_text : PySem.W.keepIn K (.ref f_text) = true)
    (at_digits : PySem.W.nsIn K mainGlobals "_law_digits" = some (some (.ref f_digits)))
    (lk_digits : K.lookup f_digits = some ⟨oc_digits, od_digits, .func (PySem.W.fnOf "_law_digits" "_law_digits" (defArgs s_digits) (defBody s_digits) (defScope s_digits) .none kV_digits dc_digits pm_digits an_digits cd_digits ct_digits), sl_digits⟩)
    (co_digits : PySem.W.codeIn K cd_digits "_law_digits" = true)
    (ke_digits : PySem.W.keepIn K (.ref f_digits) = true)
    (at_read : PySem.W.nsIn K mainGlobals "_law_read" = some (some (.ref f_read)))
    (lk_read : K.lookup f_read = some ⟨oc_read, od_read, .func (PySem.W.fnOf "_law_read" "_law_read" (defArgs s_read) (defBody s_read) (defScope s_read) .none kV_read dc_read pm_read an_read cd_read ct_read), sl_read⟩)
    (co_read : PySem.W.codeIn K cd_read "_law_read" = true)
    (ke_read : PySem.W.keepIn K (.ref f_read) = true)
    (at_odd : PySem.W.nsIn K mainGlobals "_law_odd" = some (some (.ref f_odd)))
    (lk_odd : K.lookup f_odd = some ⟨oc_odd, od_odd, .func (PySem.W.fnOf "_law_odd" "_law_odd" (defArgs s_odd) (defBody s_odd) (defScope s_odd) .none kV_odd dc_odd pm_odd an_odd cd_odd ct_odd), sl_odd⟩)
    (co_odd : PySem.W.codeIn K cd_odd "_law_odd" = true)
    (ke_odd : PySem.W.keepIn K (.ref f_odd) = true)
    (at_spoilt : PySem.W.nsIn K mainGlobals "_law_spoilt" = some (some (.ref f_spoilt)))
    (lk_spoilt : K.lookup f_spoilt = some ⟨oc_spoilt, od_spoilt, .func (PySem.W.fnOf "_law_spoilt" "_law_spoilt" (defArgs s_spoilt) (defBody s_spoilt) (defScope s_spoilt) .none kV_spoilt dc_spoilt pm_spoilt an_spoilt cd_spoilt ct_spoilt), sl_spoilt⟩)
    (co_spoilt : PySem.W.codeIn K cd_spoilt "_law_spoilt" = true)
    (ke_spoilt : PySem.W.keepIn K (.ref f_spoilt) = true)
    (at_is : PySem.W.nsIn K mainGlobals "_law_is" = some (some (.ref f_is)))
    (lk_is : K.lookup f_is = some ⟨oc_is, od_is, .func (PySem.W.fnOf "_law_is" "_law_is" (defArgs s_is) (defBody s_is) (defScope s_is) .none kV_is dc_is pm_is an_is cd_is ct_is), sl_is⟩)
    (co_is : PySem.W.codeIn K cd_is "_law_is" = true)
    (ke_is : PySem.W.keepIn K (.ref f_is) = true)
    (at_asked : PySem.W.nsIn K mainGlobals "_law_asked" = some (some (.ref f_asked)))
    (lk_asked : K.lookup f_asked = some ⟨oc_asked, od_asked, .func (PySem.W.fnOf "_law_asked" "_law_asked" (defArgs s_asked) (defBody s_asked) (defScope s_asked) .none kV_asked dc_asked pm_asked an_asked cd_asked ct_asked), sl_asked⟩)
    (co_asked : PySem.W.codeIn K cd_asked "_law_asked" = true)
    (ke_asked : PySem.W.keepIn K (.ref f_asked) = true)
    (at_law : PySem.W.nsIn K mainGlobals "law" = some (some (.ref f_law)))
    (lk_law : K.lookup f_law = some ⟨oc_law, od_law, .func (PySem.W.fnOf "law" "law" (defArgs s_law) (defBody s_law) (defScope s_law) .none kV_law dc_law pm_law an_law cd_law ct_law), sl_law⟩)
    (co_law : PySem.W.codeIn K cd_law "law" = true)
    (ke_law : PySem.W.keepIn K (.ref f_law) = true)
    (pg_Share : PySem.W.plainGet K c_Share Str.empty = true)
    (hd_Share : PySem.W.hasDictIn K c_Share = true)
    (po_Share : PySem.W.plainOver K c_Share = true)
    (sa_Share : PySem.W.findIn K (.ref c_Share) "__setattr__" = some (some (.builtin "object.__setattr__")))
    (mk_Share : PySem.W.makesIn K c_Share = true)
    (kp_Share : PySem.W.keepIn K (.ref c_Share) = true)
    (sf_Share : PySem.W.selfFirst K c_Share = true)
    (k1_Share : PySem.W.findIn K (.ref c_Share) "__class__" = some (some (.builtin "object.__class__")))
    (k4_Share : PySem.W.mroIn K c_Share (.type "object") = some true)
    (no_Share_top : PySem.W.findIn K (.ref c_Share) "top" = some none)
    (no_Share_bottom : PySem.W.findIn K (.ref c_Share) "bottom" = some none)
    (kg : PySem.W.specialIn K (.builtin "object.__class__") "__get__" = some (some (.builtin "getset_descriptor.__get__")))
    (kt : PySem.W.takesIn K (.builtin "object.__class__") = some true)
    (xl_GangError : K.lookup c_GangError = some (excClassObj nm_GangError q_GangError c_GangError N_GangError bs_GangError bm_GangError true sn_GangError sub_GangError ab_GangError col_GangError dd_GangError m0_GangError m1_GangError m2_GangError m3_GangError m5_GangError "ValueError.__new__"))
    (xr_GangError : PySem.HandSPX.refsVE bm_GangError = true)
    (xsa_GangError : PySem.W.findIn K (.ref c_GangError) "__setattr__" = some (some (.builtin "object.__setattr__")))
    (xex_GangError : PySem.W.subIn K (.ref c_GangError) (.type "BaseException") = some true)
    (xty_GangError : PySem.W.typeIn K (.ref c_GangError) = some (.type "type"))
    (xkp_GangError : PySem.W.keepIn K (.ref c_GangError) = true)
    (xin_GangError : PySem.W.findIn K (.ref c_GangError) "__init__" = some (some (.ref f_GangError_init)))
    (xno_GangError : PySem.W.findIn K (.ref c_GangError) "subject" = some none)
    (xga_GangError : PySem.W.findIn K (.ref c_GangError) "__getattribute__" = some (some (.builtin "BaseException.__getattribute__")))
    (xgg_GangError : PySem.W.findIn K (.ref c_GangError) "__getattr__" = some none)
    (xhd_GangError : PySem.W.hasDictIn K c_GangError = true)
    (xk1_GangError : PySem.W.findIn K (.ref c_GangError) "__class__" = some (some (.builtin "object.__class__")))
    (xk4_GangError : PySem.W.mroIn K c_GangError (.type "object") = some true)
    (xem_GangError : PySem.W.subIn K (.ref c_GangError) (.ref c_GangError) = some true)
    (xl_BadShare : K.lookup c_BadShare = some (excClassObj nm_BadShare q_BadShare c_BadShare N_BadShare bs_BadShare bm_BadShare true sn_BadShare sub_BadShare ab_BadShare col_BadShare dd_BadShare m0_BadShare m1_BadShare m2_BadShare m3_BadShare m5_BadShare "ValueError.__new__"))
    (xr_BadShare : PySem.HandSPX.refsVE bm_BadShare = true)
    (xsa_BadShare : PySem.W.findIn K (.ref c_BadShare) "__setattr__" = some (some (.builtin "object.__setattr__")))
    (xex_BadShare : PySem.W.subIn K (.ref c_BadShare) (.type "BaseException") = some true)
    (xty_BadShare : PySem.W.typeIn K (.ref c_BadShare) = some (.type "type"))
    (xkp_BadShare : PySem.W.keepIn K (.ref c_BadShare) = true)
    (xin_BadShare : PySem.W.findIn K (.ref c_BadShare) "__init__" = some (some (.ref f_GangError_init)))
    (xno_BadShare : PySem.W.findIn K (.ref c_BadShare) "subject" = some none)
    (xga_BadShare : PySem.W.findIn K (.ref c_BadShare) "__getattribute__" = some (some (.builtin "BaseException.__getattribute__")))
    (xgg_BadShare : PySem.W.findIn K (.ref c_BadShare) "__getattr__" = some none)
    (xhd_BadShare : PySem.W.hasDictIn K c_BadShare = true)
    (xk1_BadShare : PySem.W.findIn K (.ref c_BadShare) "__class__" = some (some (.builtin "object.__class__")))
    (xk4_BadShare : PySem.W.mroIn K c_BadShare (.type "object") = some true)
    (xem_BadShare : PySem.W.subIn K (.ref c_BadShare) (.ref c_GangError) = some true)
    (xl_BadNote : K.lookup c_BadNote = some (excClassObj nm_BadNote q_BadNote c_BadNote N_BadNote bs_BadNote bm_BadNote true sn_BadNote sub_BadNote ab_BadNote col_BadNote dd_BadNote m0_BadNote m1_BadNote m2_BadNote m3_BadNote m5_BadNote "ValueError.__new__"))
    (xr_BadNote : PySem.HandSPX.refsVE bm_BadNote = true)
    (xsa_BadNote : PySem.W.findIn K (.ref c_BadNote) "__setattr__" = some (some (.builtin "object.__setattr__")))
    (xex_BadNote : PySem.W.subIn K (.ref c_BadNote) (.type "BaseException") = some true)
    (xty_BadNote : PySem.W.typeIn K (.ref c_BadNote) = some (.type "type"))
    (xkp_BadNote : PySem.W.keepIn K (.ref c_BadNote) = true)
    (xin_BadNote : PySem.W.findIn K (.ref c_BadNote) "__init__" = some (some (.ref f_GangError_init)))
    (xno_BadNote : PySem.W.findIn K (.ref c_BadNote) "subject" = some none)
    (xga_BadNote : PySem.W.findIn K (.ref c_BadNote) "__getattribute__" = some (some (.builtin "BaseException.__getattribute__")))
    (xgg_BadNote : PySem.W.findIn K (.ref c_BadNote) "__getattr__" = some none)
    (xhd_BadNote : PySem.W.hasDictIn K c_BadNote = true)
    (xk1_BadNote : PySem.W.findIn K (.ref c_BadNote) "__class__" = some (some (.builtin "object.__class__")))
    (xk4_BadNote : PySem.W.mroIn K c_BadNote (.type "object") = some true)
    (xem_BadNote : PySem.W.subIn K (.ref c_BadNote) (.ref c_GangError) = some true)
    (xl_BadLine : K.lookup c_BadLine = some (excClassObj nm_BadLine q_BadLine c_BadLine N_BadLine bs_BadLine bm_BadLine true sn_BadLine sub_BadLine ab_BadLine col_BadLine dd_BadLine m0_BadLine m1_BadLine m2_BadLine m3_BadLine m5_BadLine "ValueError.__new__"))
    (xr_BadLine : PySem.HandSPX.refsVE bm_BadLine = true)
    (xsa_BadLine : PySem.W.findIn K (.ref c_BadLine) "__setattr__" = some (some (.builtin "object.__setattr__")))
    (xex_BadLine : PySem.W.subIn K (.ref c_BadLine) (.type "BaseException") = some true)
    (xty_BadLine : PySem.W.typeIn K (.ref c_BadLine) = some (.type "type"))
    (xkp_BadLine : PySem.W.keepIn K (.ref c_BadLine) = true)
    (xin_BadLine : PySem.W.findIn K (.ref c_BadLine) "__init__" = some (some (.ref f_GangError_init)))
    (xno_BadLine : PySem.W.findIn K (.ref c_BadLine) "subject" = some none)
    (xga_BadLine : PySem.W.findIn K (.ref c_BadLine) "__getattribute__" = some (some (.builtin "BaseException.__getattribute__")))
    (xgg_BadLine : PySem.W.findIn K (.ref c_BadLine) "__getattr__" = some none)
    (xhd_BadLine : PySem.W.hasDictIn K c_BadLine = true)
    (xk1_BadLine : PySem.W.findIn K (.ref c_BadLine) "__class__" = some (some (.builtin "object.__class__")))
    (xk4_BadLine : PySem.W.mroIn K c_BadLine (.type "object") = some true)
    (xem_BadLine : PySem.W.subIn K (.ref c_BadLine) (.ref c_GangError) = some true)
    (tI_GangError : PySem.W.typeIn K (.ref f_GangError_init) = some (.type "function"))
    (si_Share : PySem.W.subIn K (.ref c_Share) (.type "int") = some false)
    (ty_Share : PySem.W.typeIn K (.ref c_Share) = some (.type "type"))
    (st_int_Share : PySem.W.subIn K (.type "int") (.ref c_Share) = some false)
    (gcd : PySem.W.nsIn K mainGlobals "gcd" = some (some (.builtin "math.gcd")))
    (kc_DIGITS : PySem.W.nsIn K mainGlobals "DIGITS" = some (some (.str (Str.ofString "0123456789") tk_DIGITS)))
    (ss_BadShare : PySem.W.subIn K (.ref c_BadShare) (.ref c_BadShare) = some true)
    (su_BadShare_BadShare : PySem.W.subIn K (.ref c_BadShare) (.ref c_BadShare) = some true)
    (su_BadShare_ValueError : PySem.W.subIn K (.ref c_BadShare) (.type "ValueError") = some true)
    (ss_BadNote : PySem.W.subIn K (.ref c_BadNote) (.ref c_BadNote) = some true)
    (su_BadShare_BadNote : PySem.W.subIn K (.ref c_BadShare) (.ref c_BadNote) = some false)
    (ss_BadLine : PySem.W.subIn K (.ref c_BadLine) (.ref c_BadLine) = some true)
    (su_BadShare_BadLine : PySem.W.subIn K (.ref c_BadShare) (.ref c_BadLine) = some false)
    : ∃ fd : FuncData, (∀ (s : Shared) (v : Value), BindsTo s fd ⟨[v], []⟩ [("_law_script", v)]) ∧ ∀ base : Heap, K.In base → base.Ns mainGlobals mg → FnOk P w K mg base CX0 14 fa fd ["_law_script"] (spLaw K) := by
  have e := hfa.symm.trans (PySem.W.mg_of X G at_law)
  cases e
  let A : Adr := { c_Share := c_Share, c_GangError := c_GangError, c_BadShare := c_BadShare, c_BadNote := c_BadNote, c_BadLine := c_BadLine, f_GangError_init := f_GangError_init, d_GangError_init := PySem.W.fnOf "__init__" "GangError.__init__" (defArgs s_GangError_init) (defBody s_GangError_init) (defScope s_GangError_init) .none kV_GangError_init dc_GangError_init pm_GangError_init an_GangError_init cd_GangError_init ct_GangError_init, f_is_digits := f_is_digits, d_is_digits := PySem.W.fnOf "is_digits" "is_digits" (defArgs s_is_digits) (defBody s_is_digits) (defScope s_is_digits) .none kV_is_digits dc_is_digits pm_is_digits an_is_digits cd_is_digits ct_is_digits, f_Share_init := f_Share_init, d_Share_init := PySem.W.fnOf "__init__" "Share.__init__" (defArgs s_Share_init) (defBody s_Share_init) (defScope s_Share_init) (.ref T_Share_init) kV_Share_init dc_Share_init pm_Share_init an_Share_init cd_Share_init ct_Share_init, f_Share_text := f_Share_text, d_Share_text := PySem.W.fnOf "text" "Share.text" (defArgs s_Share_text) (defBody s_Share_text) (defScope s_Share_text) .none kV_Share_text dc_Share_text pm_Share_text an_Share_text cd_Share_text ct_Share_text, f_Share_read := f_Share_read, d_Share_read := PySem.W.fnOf "read" "Share.read" (defArgs s_Share_read) (defBody s_Share_read) (defScope s_Share_read) .none kV_Share_read dc_Share_read pm_Share_read an_Share_read cd_Share_read ct_Share_read, f_pool := f_pool, d_pool := PySem.W.fnOf "_law_pool" "_law_pool" (defArgs s_pool) (defBody s_pool) (defScope s_pool) .none kV_pool dc_pool pm_pool an_pool cd_pool ct_pool, f_draw := f_draw, d_draw := PySem.W.fnOf "_law_draw" "_law_draw" (defArgs s_draw) (defBody s_draw) (defScope s_draw) .none kV_draw dc_draw pm_draw an_draw cd_draw ct_draw, f_number := f_number, d_number := PySem.W.fnOf "_law_number" "_law_number" (defArgs s_number) (defBody s_number) (defScope s_number) .none kV_number dc_number pm_number an_number cd_number ct_number, f_signed := f_signed, d_signed := PySem.W.fnOf "_law_signed" "_law_signed" (defArgs s_signed) (defBody s_signed) (defScope s_signed) .none kV_signed dc_signed pm_signed an_signed cd_signed ct_signed, f_char := f_char, d_char := PySem.W.fnOf "_law_char" "_law_char" (defArgs s_char) (defBody s_char) (defScope s_char) .none kV_char dc_char pm_char an_char cd_char ct_char, f_whole := f_whole, d_whole := PySem.W.fnOf "_law_whole" "_law_whole" (defArgs s_whole) (defBody s_whole) (defScope s_whole) .none kV_whole dc_whole pm_whole an_whole cd_whole ct_whole, f_factor := f_factor, d_factor := PySem.W.fnOf "_law_factor" "_law_factor" (defArgs s_factor) (defBody s_factor) (defScope s_factor) .none kV_factor dc_factor pm_factor an_factor cd_factor ct_factor, f_pair := f_pair, d_pair := PySem.W.fnOf "_law_pair" "_law_pair" (defArgs s_pair) (defBody s_pair) (defScope s_pair) .none kV_pair dc_pair pm_pair an_pair cd_pair ct_pair, f_lowest := f_lowest, d_lowest := PySem.W.fnOf "_law_lowest" "_law_lowest" (defArgs s_lowest) (defBody s_lowest) (defScope s_lowest) .none kV_lowest dc_lowest pm_lowest an_lowest cd_lowest ct_lowest, f_text := f_text, d_text := PySem.W.fnOf "_law_text" "_law_text" (defArgs s_text) (defBody s_text) (defScope s_text) .none kV_text dc_text pm_text an_text cd_text ct_text, f_digits := f_digits, d_digits := PySem.W.fnOf "_law_digits" "_law_digits" (defArgs s_digits) (defBody s_digits) (defScope s_digits) .none kV_digits dc_digits pm_digits an_digits cd_digits ct_digits, f_read := f_read, d_read := PySem.W.fnOf "_law_read" "_law_read" (defArgs s_read) (defBody s_read) (defScope s_read) .none kV_read dc_read pm_read an_read cd_read ct_read, f_odd := f_odd, d_odd := PySem.W.fnOf "_law_odd" "_law_odd" (defArgs s_odd) (defBody s_odd) (defScope s_odd) .none kV_odd dc_odd pm_odd an_odd cd_odd ct_odd, f_spoilt := f_spoilt, d_spoilt := PySem.W.fnOf "_law_spoilt" "_law_spoilt" (defArgs s_spoilt) (defBody s_spoilt) (defScope s_spoilt) .none kV_spoilt dc_spoilt pm_spoilt an_spoilt cd_spoilt ct_spoilt, f_is := f_is, d_is := PySem.W.fnOf "_law_is" "_law_is" (defArgs s_is) (defBody s_is) (defScope s_is) .none kV_is dc_is pm_is an_is cd_is ct_is, f_asked := f_asked, d_asked := PySem.W.fnOf "_law_asked" "_law_asked" (defArgs s_asked) (defBody s_asked) (defScope s_asked) .none kV_asked dc_asked pm_asked an_asked cd_asked ct_asked, f_law := fa, d_law := PySem.W.fnOf "law" "law" (defArgs s_law) (defBody s_law) (defScope s_law) .none kV_law dc_law pm_law an_law cd_law ct_law }
  have T : Txt K mg A := {
    n_ValueError := PySem.W.mg_none_of X G nb_ValueError
    n_abs := PySem.W.mg_none_of X G nb_abs
    n_all := PySem.W.mg_none_of X G nb_all
    n_bool := PySem.W.mg_none_of X G nb_bool
    n_int := PySem.W.mg_none_of X G nb_int
    n_isinstance := PySem.W.mg_none_of X G nb_isinstance
    n_len := PySem.W.mg_none_of X G nb_len
    n_range := PySem.W.mg_none_of X G nb_range
    n_str := PySem.W.mg_none_of X G nb_str
    g_Share := PySem.W.mg_of X G ag_Share
    g_GangError := PySem.W.mg_of X G ag_GangError
    g_BadShare := PySem.W.mg_of X G ag_BadShare
    g_BadNote := PySem.W.mg_of X G ag_BadNote
    g_BadLine := PySem.W.mg_of X G ag_BadLine
    F_GangError_init := fun_mk (st := s_GangError_init) lk_GangError_init co_GangError_init ke_GangError_init
    b_GangError_init := (fun_mk (st := s_GangError_init) lk_GangError_init co_GangError_init ke_GangError_init).binds (ps := ["self", "subject"]) fun _ _ _ _ _ _ us hl => match us, hl with | [_, _], _ => rfl
    me_GangError_init := ⟨at_GangError_init, fn_GangError_init, ke_GangError_init⟩
    F_is_digits := fun_mk (st := s_is_digits) lk_is_digits co_is_digits ke_is_digits
    b_is_digits := (fun_mk (st := s_is_digits) lk_is_digits co_is_digits ke_is_digits).binds (ps := ["text"]) fun _ _ _ _ _ _ us hl => match us, hl with | [_], _ => rfl
    g_is_digits := PySem.W.mg_of X G at_is_digits
    F_Share_init := ⟨⟨_, _, _, _, _, _, _, _, _, _, rfl, lk_Share_init, co_Share_init, .inr ⟨by simp, _, _, [Value.int 1 tk0_Share_init], _, rfl, dl_Share_init, rfl, .cons ⟨_, rfl⟩ (.nil)⟩, .inl rfl⟩, ke_Share_init⟩
    b_Share_init := binds_none (FunD.binds1 (ps := ["self", "top", "bottom"]) (show FunD K "__init__" "Share.__init__" (defArgs s_Share_init) (defBody s_Share_init) (defScope s_Share_init) [.int 1] [] f_Share_init (PySem.W.fnOf "__init__" "Share.__init__" (defArgs s_Share_init) (defBody s_Share_init) (defScope s_Share_init) (.ref T_Share_init) kV_Share_init dc_Share_init pm_Share_init an_Share_init cd_Share_init ct_Share_init) from ⟨⟨_, _, _, _, _, _, _, _, _, _, rfl, lk_Share_init, co_Share_init, .inr ⟨by simp, _, _, [Value.int 1 tk0_Share_init], _, rfl, dl_Share_init, rfl, .cons ⟨_, rfl⟩ (.nil)⟩, .inl rfl⟩, ke_Share_init⟩) 3 1 (by simp) rfl (fun T kV doc pm an cdv ct us its hu hi => match us, its, hu, hi with | [_, _, _], [_], _, _ => ⟨_, rfl, rfl⟩))
    e_Share_init := FunD.binds1 (ps := ["self", "top", "bottom"]) (show FunD K "__init__" "Share.__init__" (defArgs s_Share_init) (defBody s_Share_init) (defScope s_Share_init) [.int 1] [] f_Share_init (PySem.W.fnOf "__init__" "Share.__init__" (defArgs s_Share_init) (defBody s_Share_init) (defScope s_Share_init) (.ref T_Share_init) kV_Share_init dc_Share_init pm_Share_init an_Share_init cd_Share_init ct_Share_init) from ⟨⟨_, _, _, _, _, _, _, _, _, _, rfl, lk_Share_init, co_Share_init, .inr ⟨by simp, _, _, [Value.int 1 tk0_Share_init], _, rfl, dl_Share_init, rfl, .cons ⟨_, rfl⟩ (.nil)⟩, .inl rfl⟩, ke_Share_init⟩) 2 0 (by simp) rfl (fun T kV doc pm an cdv ct us its hu hi => match us, its, hu, hi with | [_, _], [_], _, _ => ⟨_, rfl, rfl⟩)
    me_Share_init := ⟨at_Share_init, fn_Share_init, ke_Share_init⟩
    F_Share_text := fun_mk (st := s_Share_text) lk_Share_text co_Share_text ke_Share_text
    b_Share_text := (fun_mk (st := s_Share_text) lk_Share_text co_Share_text ke_Share_text).binds (ps := ["self"]) fun _ _ _ _ _ _ us hl => match us, hl with | [_], _ => rfl
    me_Share_text := ⟨at_Share_text, fn_Share_text, ke_Share_text⟩
    F_Share_read := fun_mk (st := s_Share_read) lk_Share_read co_Share_read ke_Share_read
    b_Share_read := (fun_mk (st := s_Share_read) lk_Share_read co_Share_read ke_Share_read).binds (ps := ["cls", "text"]) fun _ _ _ _ _ _ us hl => match us, hl with | [_, _], _ => rfl
    rd_Share := ⟨p6_Share_read, p7_Share_read⟩
    cm_Share_read := ⟨_, p1_Share_read, ⟨_, p4_Share_read⟩, by unfold PySem.W.fnIn; rw [lk_Share_read]⟩
    F_pool := fun_mk (st := s_pool) lk_pool co_pool ke_pool
    b_pool := (fun_mk (st := s_pool) lk_pool co_pool ke_pool).binds (ps := ["_law_script"]) fun _ _ _ _ _ _ us hl => match us, hl with | [_], _ => rfl
    g_pool := PySem.W.mg_of X G at_pool
    F_draw := fun_mk (st := s_draw) lk_draw co_draw ke_draw
    b_draw := (fun_mk (st := s_draw) lk_draw co_draw ke_draw).binds (ps := ["_law_pool_here", "_law_many"]) fun _ _ _ _ _ _ us hl => match us, hl with | [_, _], _ => rfl
    g_draw := PySem.W.mg_of X G at_draw
    F_number := fun_mk (st := s_number) lk_number co_number ke_number
    b_number := (fun_mk (st := s_number) lk_number co_number ke_number).binds (ps := ["_law_pool_here", "_law_groups"]) fun _ _ _ _ _ _ us hl => match us, hl with | [_, _], _ => rfl
    g_number := PySem.W.mg_of X G at_number
    F_signed := fun_mk (st := s_signed) lk_signed co_signed ke_signed
    b_signed := (fun_mk (st := s_signed) lk_signed co_signed ke_signed).binds (ps := ["_law_pool_here", "_law_groups"]) fun _ _ _ _ _ _ us hl => match us, hl with | [_, _], _ => rfl
    g_signed := PySem.W.mg_of X G at_signed
    F_char := fun_mk (st := s_char) lk_char co_char ke_char
    b_char := (fun_mk (st := s_char) lk_char co_char ke_char).binds (ps := ["_law_pool_here"]) fun _ _ _ _ _ _ us hl => match us, hl with | [_], _ => rfl
    g_char := PySem.W.mg_of X G at_char
    F_whole := fun_mk (st := s_whole) lk_whole co_whole ke_whole
    b_whole := (fun_mk (st := s_whole) lk_whole co_whole ke_whole).binds (ps := ["_law_value"]) fun _ _ _ _ _ _ us hl => match us, hl with | [_], _ => rfl
    g_whole := PySem.W.mg_of X G at_whole
    F_factor := fun_mk (st := s_factor) lk_factor co_factor ke_factor
    b_factor := (fun_mk (st := s_factor) lk_factor co_factor ke_factor).binds (ps := ["_law_one", "_law_other"]) fun _ _ _ _ _ _ us hl => match us, hl with | [_, _], _ => rfl
    g_factor := PySem.W.mg_of X G at_factor
    F_pair := fun_mk (st := s_pair) lk_pair co_pair ke_pair
    b_pair := (fun_mk (st := s_pair) lk_pair co_pair ke_pair).binds (ps := ["_law_pool_here", "_law_groups"]) fun _ _ _ _ _ _ us hl => match us, hl with | [_, _], _ => rfl
    g_pair := PySem.W.mg_of X G at_pair
    F_lowest := fun_mk (st := s_lowest) lk_lowest co_lowest ke_lowest
    b_lowest := (fun_mk (st := s_lowest) lk_lowest co_lowest ke_lowest).binds (ps := ["_law_top", "_law_bottom"]) fun _ _ _ _ _ _ us hl => match us, hl with | [_, _], _ => rfl
    g_lowest := PySem.W.mg_of X G at_lowest
    F_text := fun_mk (st := s_text) lk_text co_text ke_text
    b_text := (fun_mk (st := s_text) lk_text co_text ke_text).binds (ps := ["_law_pair_here"]) fun _ _ _ _ _ _ us hl => match us, hl with | [_], _ => rfl
    g_text := PySem.W.mg_of X G at_text
    F_digits := fun_mk (st := s_digits) lk_digits co_digits ke_digits
    b_digits := (fun_mk (st := s_digits) lk_digits co_digits ke_digits).binds (ps := ["_law_word"]) fun _ _ _ _ _ _ us hl => match us, hl with | [_], _ => rfl
    g_digits := PySem.W.mg_of X G at_digits
    F_read := fun_mk (st := s_read) lk_read co_read ke_read
    b_read := (fun_mk (st := s_read) lk_read co_read ke_read).binds (ps := ["_law_text_here"]) fun _ _ _ _ _ _ us hl => match us, hl with | [_], _ => rfl
    g_read := PySem.W.mg_of X G at_read
    F_odd := fun_mk (st := s_odd) lk_odd co_odd ke_odd
    b_odd := (fun_mk (st := s_odd) lk_odd co_odd ke_odd).binds (ps := ["_law_cell"]) fun _ _ _ _ _ _ us hl => match us, hl with | [_], _ => rfl
    g_odd := PySem.W.mg_of X G at_odd
    F_spoilt := fun_mk (st := s_spoilt) lk_spoilt co_spoilt ke_spoilt
    b_spoilt := (fun_mk (st := s_spoilt) lk_spoilt co_spoilt ke_spoilt).binds (ps := ["_law_pool_here"]) fun _ _ _ _ _ _ us hl => match us, hl with | [_], _ => rfl
    g_spoilt := PySem.W.mg_of X G at_spoilt
    F_is := fun_mk (st := s_is) lk_is co_is ke_is
    b_is := (fun_mk (st := s_is) lk_is co_is ke_is).binds (ps := ["_law_share", "_law_pair_here", "_law_text_here"]) fun _ _ _ _ _ _ us hl => match us, hl with | [_, _, _], _ => rfl
    g_is := PySem.W.mg_of X G at_is
    F_asked := fun_mk (st := s_asked) lk_asked co_asked ke_asked
    b_asked := (fun_mk (st := s_asked) lk_asked co_asked ke_asked).binds (ps := ["_law_text_here"]) fun _ _ _ _ _ _ us hl => match us, hl with | [_], _ => rfl
    g_asked := PySem.W.mg_of X G at_asked
    F_law := fun_mk (st := s_law) lk_law co_law ke_law
    b_law := (fun_mk (st := s_law) lk_law co_law ke_law).binds (ps := ["_law_script"]) fun _ _ _ _ _ _ us hl => match us, hl with | [_], _ => rfl
    g_law := PySem.W.mg_of X G at_law
    cl_Share := ⟨pg_Share, hd_Share, po_Share, sa_Share⟩
    mk_Share := ⟨mk_Share, at_Share_init, fn_Share_init, kp_Share⟩
    sf_Share := sf_Share
    k1_Share := k1_Share
    k4_Share := k4_Share
    no_Share_top := no_Share_top
    no_Share_bottom := no_Share_bottom
    kg := kg
    kt := kt
    x_GangError := ⟨⟨⟨_, _, _, _, _, _, _, _, _, _, _, _, _, _, _, xl_GangError, xr_GangError⟩, xsa_GangError, xex_GangError, xty_GangError, xkp_GangError⟩, xin_GangError, tI_GangError, xno_GangError⟩
    xf_GangError := ⟨xga_GangError, xgg_GangError, xex_GangError, xhd_GangError⟩
    xc_GangError := ⟨xga_GangError, xgg_GangError, xex_GangError, xhd_GangError, xk1_GangError, kg, kt, xk4_GangError⟩
    xm_GangError := PySem.W.exm_ref xex_GangError xhd_GangError xty_GangError xem_GangError
    x_BadShare := ⟨⟨⟨_, _, _, _, _, _, _, _, _, _, _, _, _, _, _, xl_BadShare, xr_BadShare⟩, xsa_BadShare, xex_BadShare, xty_BadShare, xkp_BadShare⟩, xin_BadShare, tI_GangError, xno_BadShare⟩
    xf_BadShare := ⟨xga_BadShare, xgg_BadShare, xex_BadShare, xhd_BadShare⟩
    xc_BadShare := ⟨xga_BadShare, xgg_BadShare, xex_BadShare, xhd_BadShare, xk1_BadShare, kg, kt, xk4_BadShare⟩
    xm_BadShare := PySem.W.exm_ref xex_GangError xhd_GangError xty_GangError xem_BadShare
    x_BadNote := ⟨⟨⟨_, _, _, _, _, _, _, _, _, _, _, _, _, _, _, xl_BadNote, xr_BadNote⟩, xsa_BadNote, xex_BadNote, xty_BadNote, xkp_BadNote⟩, xin_BadNote, tI_GangError, xno_BadNote⟩
    xf_BadNote := ⟨xga_BadNote, xgg_BadNote, xex_BadNote, xhd_BadNote⟩
    xc_BadNote := ⟨xga_BadNote, xgg_BadNote, xex_BadNote, xhd_BadNote, xk1_BadNote, kg, kt, xk4_BadNote⟩
    xm_BadNote := PySem.W.exm_ref xex_GangError xhd_GangError xty_GangError xem_BadNote
    x_BadLine := ⟨⟨⟨_, _, _, _, _, _, _, _, _, _, _, _, _, _, _, xl_BadLine, xr_BadLine⟩, xsa_BadLine, xex_BadLine, xty_BadLine, xkp_BadLine⟩, xin_BadLine, tI_GangError, xno_BadLine⟩
    xf_BadLine := ⟨xga_BadLine, xgg_BadLine, xex_BadLine, xhd_BadLine⟩
    xc_BadLine := ⟨xga_BadLine, xgg_BadLine, xex_BadLine, xhd_BadLine, xk1_BadLine, kg, kt, xk4_BadLine⟩
    xm_BadLine := PySem.W.exm_ref xex_GangError xhd_GangError xty_GangError xem_BadLine
    si_Share := si_Share
    st_int_Share := st_int_Share
    kt_int_Share := kit_tb hd_Share ty_Share st_int_Share
    gcd := PySem.W.mg_of X G gcd
    k_DIGITS := ⟨_, PySem.W.mg_of X G kc_DIGITS⟩
    kt_BadShare_BadShare := kit_sub xhd_BadShare xty_BadShare ss_BadShare su_BadShare_BadShare
    kt_BadShare_ValueError := kit_base (by decide +kernel) su_BadShare_ValueError
    kt_BadShare_BadNote := kit_sub xhd_BadNote xty_BadNote ss_BadNote su_BadShare_BadNote
    kt_BadShare_BadLine := kit_sub xhd_BadLine xty_BadLine ss_BadLine su_BadShare_BadLine
  }
  exact ⟨A.d_law, fun s v => .of_eq rfl, fun base _ _ => ok_law (base := base) T⟩
theorem walk {l : PySem.W.OpenLaw} {q : Program} {loose : List Str} {XP : (Str → Option Value) → Heap → Prop} {YP : World → Heap → Prop} {d : DefRec} {K : Params → PySem.W.Frag} (hn : l.most = some 63) (hdf : d.params.defaults = [])
    (hY : ∀ (w : World) (h : Heap), YP w h → (K w.params).In h)
    (F : ∀ (w : World) (mg : Str → Option Value) (fa : Addr) (h : Heap), (K w.params).In h → h.Ns mainGlobals mg → mg d.name = some (.ref fa) →
      ∃ fd : FuncData, (∀ (s : Shared) (u : Value), BindsTo s fd ⟨[u], []⟩ [("_law_script", u)]) ∧ ∀ base : Heap, (K w.params).In base → base.Ns mainGlobals mg → FnOk l.prog w (K w.params) mg base CX0 lawLvl fa fd ["_law_script"] (spLaw (K w.params))) :
    PySem.W.WalkO q loose XP YP l.row.toRowW d [] (fun f vs => PySem.call f vs) :=
  L2.walk_ofB (n := 63) (k := lawLvl) (x := "_law_script") (CX := fun _ => CX0) (sp := fun w => spLaw (K w.params)) hn (by decide) hdf ⟨rfl, by decide, by decide⟩ hY F (fun _ _ a ns hl hb _ hS => ⟨a, ns, rfl, hS, hl, hb, fun _ => rfl⟩) fun _ _ _ _ _ z => z
end LW
open PySem PySem.W PyProof.Rows
set_option maxRecDepth 100000 in
set_option maxHeartbeats 0 in
theorem PySem.Challenge.cw_gangbooks_k03_share_text_round_holds : PySem.Challenge.rw_gangbooks_k03_share_text_round.Holds := by
  w_on; o_law; k_head; (case hw => w_witness2)
  k_fill
  refine LW.walk (l := PySem.Challenge.rw_gangbooks_k03_share_text_round) rfl rfl (fun w h Y => PySem.W.kIn_of Y) ?F
  case F =>
    intro w mg fa h KX G hmg
    refine' LW.all_mk KX G hmg ?nb_ValueError ?nb_abs ?nb_all ?nb_bool ?nb_int ?nb_isinstance ?nb_len ?nb_range ?nb_str ?ag_Share ?ag_GangError ?ag_BadShare ?ag_BadNote ?ag_BadLine ?at_GangError_init ?lk_GangError_init ?co_GangError_init ?ke_GangError_init ?fn_GangError_init ?at_is_digits ?lk_is_digits ?co_is_digits ?ke_is_digits ?at_Share_init ?lk_Share_init ?co_Share_init ?ke_Share_init ?dl_Share_init ?fn_Share_init ?at_Share_text ?lk_Share_text ?co_Share_text ?ke_Share_text ?fn_Share_text ?p1_Share_read ?p4_Share_read ?lk_Share_read ?co_Share_read ?ke_Share_read ?p6_Share_read ?p7_Share_read ?at_pool ?lk_pool ?co_pool ?ke_pool ?at_draw ?lk_draw ?co_draw ?ke_draw ?at_number ?lk_number ?co_number ?ke_number ?at_signed ?lk_signed ?co_signed ?ke_signed ?at_char ?lk_char ?co_char ?ke_char ?at_whole ?lk_whole ?co_whole ?ke_whole ?at_factor ?lk_factor ?co_factor ?ke_factor ?at_pair ?lk_pair ?co_pair ?ke_pair ?at_lowest ?lk_lowest ?co_lowest ?ke_lowest ?at_text ?lk_text ?co_text ?ke_text ?at_digits ?lk_digits ?co_digits ?ke_digits ?at_read ?lk_read ?co_read ?ke_read ?at_odd ?lk_odd ?co_odd ?ke_odd ?at_spoilt ?lk_spoilt ?co_spoilt ?ke_spoilt ?at_is ?lk_is ?co_is ?ke_is ?at_asked ?lk_asked ?co_asked ?ke_asked ?at_law ?lk_law ?co_law ?ke_law ?pg_Share ?hd_Share ?po_Share ?sa_Share ?mk_Share ?kp_Share ?sf_Share ?k1_Share ?k4_Share ?no_Share_top ?no_Share_bottom ?kg ?kt ?xl_GangError ?xr_GangError ?xsa_GangError ?xex_GangError ?xty_GangError ?xkp_GangError ?xin_GangError ?xno_GangError ?xga_GangError ?xgg_GangError ?xhd_GangError ?xk1_GangError ?xk4_GangError ?xem_GangError ?xl_BadShare ?xr_BadShare ?xsa_BadShare ?xex_BadShare ?xty_BadShare ?xkp_BadShare ?xin_BadShare ?xno_BadShare ?xga_BadShare ?xgg_BadShare ?xhd_BadShare ?xk1_BadShare ?xk4_BadShare ?xem_BadShare ?xl_BadNote ?xr_BadNote ?xsa_BadNote ?xex_BadNote ?xty_BadNote ?xkp_BadNote ?xin_BadNote ?xno_BadNote ?xga_BadNote ?xgg_BadNote ?xhd_BadNote ?xk1_BadNote ?xk4_BadNote ?xem_BadNote ?xl_BadLine ?xr_BadLine ?xsa_BadLine ?xex_BadLine ?xty_BadLine ?xkp_BadLine ?xin_BadLine ?xno_BadLine ?xga_BadLine ?xgg_BadLine ?xhd_BadLine ?xk1_BadLine ?xk4_BadLine ?xem_BadLine ?tI_GangError ?si_Share ?ty_Share ?st_int_Share ?gcd ?kc_DIGITS ?ss_BadShare ?su_BadShare_BadShare ?su_BadShare_ValueError ?ss_BadNote ?su_BadShare_BadNote ?ss_BadLine ?su_BadShare_BadLine
    (case nb_ValueError => k_is)
    (case nb_abs => k_is)
    (case nb_all => k_is)
    (case nb_bool => k_is)
    (case nb_int => k_is)
    (case nb_isinstance => k_is)
    (case nb_len => k_is)
    (case nb_range => k_is)
    (case nb_str => k_is)
    (case ag_Share => k_is)
    (case ag_GangError => k_is)
    (case ag_BadShare => k_is)
    (case ag_BadNote => k_is)
    (case ag_BadLine => k_is)
    (case at_GangError_init => k_is)
    (case lk_GangError_init => k_is)
    (case co_GangError_init => k_is)
    (case ke_GangError_init => k_is)
    (case fn_GangError_init => k_is)
    (case at_is_digits => k_is)
    (case lk_is_digits => k_is)
    (case co_is_digits => k_is)
    (case ke_is_digits => k_is)
    (case at_Share_init => k_is)
    (case lk_Share_init => k_is)
    (case co_Share_init => k_is)
    (case ke_Share_init => k_is)
    (case dl_Share_init => k_is)
    (case fn_Share_init => k_is)
    (case at_Share_text => k_is)
    (case lk_Share_text => k_is)
    (case co_Share_text => k_is)
    (case ke_Share_text => k_is)
    (case fn_Share_text => k_is)
    (case p1_Share_read => k_is)
    (case p4_Share_read => k_is)
    (case lk_Share_read => k_is)
    (case co_Share_read => k_is)
    (case ke_Share_read => k_is)
    (case p6_Share_read => k_is)
    (case p7_Share_read => k_is)
    (case at_pool => k_is)
    (case lk_pool => k_is)
    (case co_pool => k_is)
    (case ke_pool => k_is)
    (case at_draw => k_is)
    (case lk_draw => k_is)
    (case co_draw => k_is)
    (case ke_draw => k_is)
    (case at_number => k_is)
    (case lk_number => k_is)
    (case co_number => k_is)
    (case ke_number => k_is)
    (case at_signed => k_is)
    (case lk_signed => k_is)
    (case co_signed => k_is)
    (case ke_signed => k_is)
    (case at_char => k_is)
    (case lk_char => k_is)
    (case co_char => k_is)
    (case ke_char => k_is)
    (case at_whole => k_is)
    (case lk_whole => k_is)
    (case co_whole => k_is)
    (case ke_whole => k_is)
    (case at_factor => k_is)
    (case lk_factor => k_is)
    (case co_factor => k_is)
    (case ke_factor => k_is)
    (case at_pair => k_is)
    (case lk_pair => k_is)
    (case co_pair => k_is)
    (case ke_pair => k_is)
    (case at_lowest => k_is)
    (case lk_lowest => k_is)
    (case co_lowest => k_is)
    (case ke_lowest => k_is)
    (case at_text => k_is)
    (case lk_text => k_is)
    (case co_text => k_is)
    (case ke_text => k_is)
    (case at_digits => k_is)
    (case lk_digits => k_is)
    (case co_digits => k_is)
    (case ke_digits => k_is)
    (case at_read => k_is)
    (case lk_read => k_is)
    (case co_read => k_is)
    (case ke_read => k_is)
    (case at_odd => k_is)
    (case lk_odd => k_is)
    (case co_odd => k_is)
    (case ke_odd => k_is)
    (case at_spoilt => k_is)
    (case lk_spoilt => k_is)
    (case co_spoilt => k_is)
    (case ke_spoilt => k_is)
    (case at_is => k_is)
    (case lk_is => k_is)
    (case co_is => k_is)
    (case ke_is => k_is)
    (case at_asked => k_is)
    (case lk_asked => k_is)
    (case co_asked => k_is)
    (case ke_asked => k_is)
    (case at_law => k_is)
    (case lk_law => k_is)
    (case co_law => k_is)
    (case ke_law => k_is)
    (case pg_Share => k_is)
    (case hd_Share => k_is)
    (case po_Share => k_is)
    (case sa_Share => k_is)
    (case mk_Share => k_is)
    (case kp_Share => k_is)
    (case sf_Share => k_is)
    (case k1_Share => k_is)
    (case k4_Share => k_is)
    (case no_Share_top => k_is)
    (case no_Share_bottom => k_is)
    (case kg => k_is)
    (case kt => k_is)
    (case xl_GangError => k_is)
    (case xr_GangError => first | rfl | decide +kernel)
    (case xsa_GangError => k_is)
    (case xex_GangError => k_is)
    (case xty_GangError => k_is)
    (case xkp_GangError => k_is)
    (case xin_GangError => k_is)
    (case xno_GangError => k_is)
    (case xga_GangError => k_is)
    (case xgg_GangError => k_is)
    (case xhd_GangError => k_is)
    (case xk1_GangError => k_is)
    (case xk4_GangError => k_is)
    (case xem_GangError => first | rfl | k_is)
    (case xl_BadShare => k_is)
    (case xr_BadShare => first | rfl | decide +kernel)
    (case xsa_BadShare => k_is)
    (case xex_BadShare => k_is)
    (case xty_BadShare => k_is)
    (case xkp_BadShare => k_is)
    (case xin_BadShare => k_is)
    (case xno_BadShare => k_is)
    (case xga_BadShare => k_is)
    (case xgg_BadShare => k_is)
    (case xhd_BadShare => k_is)
    (case xk1_BadShare => k_is)
    (case xk4_BadShare => k_is)
    (case xem_BadShare => first | rfl | k_is)
    (case xl_BadNote => k_is)
    (case xr_BadNote => first | rfl | decide +kernel)
    (case xsa_BadNote => k_is)
    (case xex_BadNote => k_is)
    (case xty_BadNote => k_is)
    (case xkp_BadNote => k_is)
    (case xin_BadNote => k_is)
    (case xno_BadNote => k_is)
    (case xga_BadNote => k_is)
    (case xgg_BadNote => k_is)
    (case xhd_BadNote => k_is)
    (case xk1_BadNote => k_is)
    (case xk4_BadNote => k_is)
    (case xem_BadNote => first | rfl | k_is)
    (case xl_BadLine => k_is)
    (case xr_BadLine => first | rfl | decide +kernel)
    (case xsa_BadLine => k_is)
    (case xex_BadLine => k_is)
    (case xty_BadLine => k_is)
    (case xkp_BadLine => k_is)
    (case xin_BadLine => k_is)
    (case xno_BadLine => k_is)
    (case xga_BadLine => k_is)
    (case xgg_BadLine => k_is)
    (case xhd_BadLine => k_is)
    (case xk1_BadLine => k_is)
    (case xk4_BadLine => k_is)
    (case xem_BadLine => first | rfl | k_is)
    (case tI_GangError => k_is)
    (case si_Share => k_is)
    (case ty_Share => k_is)
    (case st_int_Share => k_is)
    (case gcd => k_is)
    (case kc_DIGITS => k_is)
    (case ss_BadShare => first | rfl | k_is)
    (case su_BadShare_BadShare => first | rfl | k_is)
    (case su_BadShare_ValueError => first | rfl | k_is)
    (case ss_BadNote => first | rfl | k_is)
    (case su_BadShare_BadNote => first | rfl | k_is)
    (case ss_BadLine => first | rfl | k_is)
    (case su_BadShare_BadLine => first | rfl | k_is)
