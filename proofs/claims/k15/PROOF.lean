import PyProof.Rows.All
import Wide.All
import OpenK.AllK
import Wide.FinOn
import KE.KStateDown
import KE.OsRunLaw
import HandS.Head0
import HandS.Head1
import HandS.Head2
import PyProof.EqAt
import PyProof.EqKinds
import PyProof.TupleCall
import HandS.Base
import HandS.Call
import HandS.List
import HandS.Exc
import HandS.IsInst
import HandS.ExcOwn
import HandS.ExcInit
import HandS.ExcField
import HandS.ExcIs
import HandS.TryOnly
import HandS.CallSlots
import HandS.Words
import HandS.WordsExc
import KE.KExcIs
import HandS.Sort
import PyProof.Rows.RuleN_abs
import HandS.OwnEq
import HandS.IterNext
import PyProof.FactsSeq
import PyProof.TupleIter
import PyProof.WalksMore
import HandS.Star
import HandS.Zip
import HandS.Walk
import HandS.Text
import HandS.Codes
import KE.IntTextLaws
import KE.KIntText
import HandS.ClsMeth
import HandS.StrMore
import HandS.FStr
import HandS.Iter
import HandS.Spec
import HandS.RaiseMore
import HandS.TupAny
import KE.GoesEnum
import KE.GoesEnumKw
import PyProof.Rows.CallKwBuiltin
import KE.GoesMore
import HandS.TupMul
import HandS.Strs
import HandS.SetFor
import HandS.SetKeys
import HandS.SetBool
import HandS.Comp
import HandS.Style
import HandS.Lambda
import HandS.EndTab
import KE.KNestM
import HandS.EndOwn
import KE.KOpsOwn
import HandS.SortKw
import KE.DataMinMax
import KE.KDictZip
import PyProof.EnumIter
import PyProof.EnumMake
import KE.KItemsList
import HandS.Conv
import HandS.Defaults
import HandS.SortInts
import HandS.EndBits
import HandS.Wide
import PySem.Challenge.RW_gangbooks_k15_bounds_exact
set_option Elab.async false
set_option linter.all false
set_option maxRecDepth 100000
set_option maxHeartbeats 4000000
noncomputable section
namespace GBH
open PySem PySem.W PySem.Calls PyProof.Rows HandSHeadRun
/-- the state behind the top -/
def endS (p : Program) (M : Nat) (w : World) (os : OsState) : Option SharedT := endF (stepQ (denQ tabQ) p w) M p w os
/-- in every world the state behind the top tells f as a -/
def Tells {α : Type} (p : Program) (M : Nat) (f : World → SharedT → α) (a : World → α) : Prop := ∀ w os, (endS p M w os).map (f w) = some (a w)
theorem Tells.at {α : Type} {p : Program} {M : Nat} {f : World → SharedT → α} {a : World → α} (h : Tells p M f a) {w : World} {os : OsState} {s : SharedT} (e : endS p M w os = some s) : f w s = a w := by
  have := h w os
  rw [e] at this
  exact Option.some.inj this
/-- eight looks, in groups of the kernel's runs -/
structure Looks (p q : Program) (loose : List PySem.Str) (Xt : Shared → Bool) (K : Params → Frag) (M : Nat) : Prop where
  base : Tells p M (fun w s => ((looksF p (boot_heap w.params) s.abs, s.abs.heap.bltView, PySem.W.Fast.tw14722251495701143533 s.abs.heap (importedModules p.main.body), s.abs.heap.isNs mainGlobals && s.abs.heap.isNs builtinsNs, PySem.W.Fast.tw10994771534591457954 q s.abs.heap), Xt s.abs, s.abs.gens.size == 0, (K w.params).map fun x => getT s x.1))
    fun w => ((true, bltViewBooted, true, true, true), true, true, (K w.params).map fun x => some x.2)
  pins : Tells p M (fun _ s => (PySem.W.Fast.tw16090120013241838585 q (PySem.W.Fast.tw3247288618530077131 q) s.abs, PySem.W.Fast.tw11698064438423848299 q loose s.abs, PySem.W.Fast.tw7369524293546568484 q loose s.abs))
    fun _ => (pinGoodD (PySem.W.Fast.tw3247288618530077131 q), plainGoodD q loose, clsGoodW q loose)
  names : Tells p M (fun _ s => PySem.W.Fast.tw5160383126252970620 (PySem.W.R.mapR (fun x => x.name) (PySem.W.Fast.tw3399658132070893891 q)) (PySem.W.Fast.tw5991557255702980513 q) [] { s.abs with gens := #[] }) fun _ => expectedOf q
  tabs : Tells p M (fun _ s => PySem.W.Fast.tw479339242167458305 q s.abs) fun _ => true
  wide : Tells p M (fun _ s => PySem.W.Fast.tw7317090234206586261 q s.abs) fun _ => wideGood q
  plain : Tells p M (fun _ s => PySem.W.Fast.tw2386780881361962483 q (PySem.W.Fast.tw821141287760084731 q loose) s.abs) fun _ => plainGoodE q (PySem.W.Fast.tw821141287760084731 q loose)
  keys : Tells p M (fun _ s => PySem.W.Fast.tw10880121769531294198 s.abs.heap (PySem.W.Fast.tw821141287760084731 q loose) (PySem.W.R.mapR (fun x => x.name) (PySem.W.Fast.tw3399658132070893891 q)) (PySem.W.R.mapR (fun x => x.fst) (PySem.W.Fast.tw7409074990110511671 q)) (PySem.W.R.mapR (fun x => x.name) (PySem.W.Fast.tw13664370479719496447 q (PySem.W.Fast.tw821141287760084731 q loose)))) fun _ => true
theorem Looks.left {p q : Program} {loose : List PySem.Str} {Xt : Shared → Bool} {K : Params → Frag} {as : List Addr} {ek : ∀ P, as = (K P).map (·.1)} {M : Nat}
    (L : Looks p q loose Xt K M) (e : opening p = plainProg p.main.scope.names) (f : ∀ s, fenceModules? p s = some s) :
    LeftO p q loose Xt (Hook.obs (kHook K as ek)) (Hook.val (kHook K as ek)) (M + 600) true :=
  left_one (M := M) e (Nat.ble_eq_true_of_le (by omega)) f (Nat.ble_eq_true_of_le (by omega)) fun w os => by
    rw [endQ_eq]
    obtain ⟨s, hs, _⟩ := Option.map_eq_some_iff.mp (L.tabs w os)
    have b := L.base.at hs
    have b1 := congrArg Prod.fst b
    have b2 := congrArg Prod.snd b
    have p1 := L.pins.at hs
    have c1 : looksF p (boot_heap w.params) s.abs = true := congrArg Prod.fst b1
    have c2 : s.abs.heap.bltView = bltViewBooted := congrArg (fun x => x.2.1) b1
    have c3 : PySem.W.Fast.tw14722251495701143533 s.abs.heap (importedModules p.main.body) = true := congrArg (fun x => x.2.2.1) b1
    have c4 : (s.abs.heap.isNs mainGlobals && s.abs.heap.isNs builtinsNs) = true := congrArg (fun x => x.2.2.2.1) b1
    have c5 : PySem.W.Fast.tw10994771534591457954 q s.abs.heap = true := congrArg (fun x => x.2.2.2.2) b1
    have c6 : Xt s.abs = true := congrArg (fun x => x.1) b2
    have c7 : (s.abs.gens.size == 0) = true := congrArg (fun x => x.2.1) b2
    have c8 : ((K w.params).map fun x => getT s x.1) = (K w.params).map fun x => some x.2 := congrArg (fun x => x.2.2) b2
    have d1 : PySem.W.Fast.tw16090120013241838585 q (PySem.W.Fast.tw3247288618530077131 q) s.abs = pinGoodD (PySem.W.Fast.tw3247288618530077131 q) := congrArg Prod.fst p1
    have d2 : PySem.W.Fast.tw11698064438423848299 q loose s.abs = plainGoodD q loose := congrArg (fun x => x.2.1) p1
    have d3 : PySem.W.Fast.tw7369524293546568484 q loose s.abs = clsGoodW q loose := congrArg (fun x => x.2.2) p1
    obtain ⟨c41, c42⟩ := Bool.and_eq_true_iff.mp c4
    have k := L.keys.at hs
    have n := L.names.at hs
    have t := L.tabs.at hs
    have wd := L.wide.at hs
    have pl := L.plain.at hs
    have o : Hook.obs (kHook K as ek) s.abs = Hook.val (kHook K as ek) w := by
      show as.map s.abs.heap.get? = (K w.params).map fun x => some x.2
      rw [ek w.params, ← c8, List.map_map]
      exact List.map_congr_left fun a _ => (getT_eq s a.1).symm
    rw [show endF (stepQ (denQ tabQ) p w) M p w os = some s from hs]
    show some (looksF p (boot_heap w.params) s.abs, openSeen q loose (importedModules p.main.body) Xt true s.abs, Hook.obs (kHook K as ek) s.abs) = some (true, openGood q loose, Hook.val (kHook K as ek) w)
    rw [c1, o, seenQ_eq]
    have z : seenQ q loose (importedModules p.main.body) Xt s.abs = openGood q loose := by
      have z0 : seenQ q loose (importedModules p.main.body) Xt s.abs = (PySem.W.Fast.tw5160383126252970620 (PySem.W.R.mapR (fun x => x.name) (PySem.W.Fast.tw3399658132070893891 q)) (PySem.W.Fast.tw5991557255702980513 q) [] { s.abs with gens := #[] }, s.abs.heap.bltView,
          PySem.W.Fast.tw10880121769531294198 s.abs.heap (PySem.W.Fast.tw821141287760084731 q loose) (PySem.W.R.mapR (fun x => x.name) (PySem.W.Fast.tw3399658132070893891 q)) (PySem.W.R.mapR (fun x => x.fst) (PySem.W.Fast.tw7409074990110511671 q)) (PySem.W.R.mapR (fun x => x.name) (PySem.W.Fast.tw13664370479719496447 q (PySem.W.Fast.tw821141287760084731 q loose))) && PySem.W.Fast.tw14722251495701143533 s.abs.heap (importedModules p.main.body) && s.abs.heap.isNs mainGlobals && s.abs.heap.isNs builtinsNs && PySem.W.Fast.tw10994771534591457954 q s.abs.heap && Xt s.abs && (if true = true then s.abs.gens.size == 0 else !leftWithCleanup s.abs.gens),
          PySem.W.Fast.tw479339242167458305 q s.abs, PySem.W.Fast.tw16090120013241838585 q (PySem.W.Fast.tw3247288618530077131 q) s.abs, PySem.W.Fast.tw2386780881361962483 q (PySem.W.Fast.tw821141287760084731 q loose) s.abs, PySem.W.Fast.tw11698064438423848299 q loose s.abs, PySem.W.Fast.tw7317090234206586261 q s.abs, PySem.W.Fast.tw7369524293546568484 q loose s.abs) := rfl
      rw [z0, show PySem.W.Fast.tw5160383126252970620 (PySem.W.R.mapR (fun x => x.name) (PySem.W.Fast.tw3399658132070893891 q)) (PySem.W.Fast.tw5991557255702980513 q) [] { s.abs with gens := #[] } = expectedOf q from n, c2, k, c3, c41, c42, c5, c6, if_pos rfl, c7, t, d1, pl, d2, wd, d3]
      show _ = (expectedOf q, bltViewBooted, true, true, pinGoodD (drecsOf q), plainGoodE q (looseW q loose), plainGoodD q loose, wideGood q, clsGoodW q loose)
      rw [show drecsOf q = PySem.W.Fast.tw3247288618530077131 q from congrFun PySem.W.Fast.te3247288618530077131 q, show looseW q loose = PySem.W.Fast.tw821141287760084731 q loose from congrFun (congrFun PySem.W.Fast.te821141287760084731 q) loose]
      rfl
    rw [z]
/-- the head of a law row, by looks of several kernel runs -/
theorem head {r : OpenRow} {q : Program} {loose : List PySem.Str} {lv : List (PySem.Str × WData)} {K : Params → Frag} {as : List Addr} {ek : ∀ P, as = (K P).map (·.1)} {M : Nat} {d : DefRec} {kwd : List (PySem.Str × PySem.Expr)}
    (L : Looks r.prog q loose (fun s => xlAt q lv s && recOk (RowW.records r.toRowW) s) K M) (e : opening r.prog = plainProg r.prog.main.scope.names) (f : ∀ s, fenceModules? r.prog s = some s)
    (hdef : defOf q r.name = some (d, kwd)) (hp : r.prog.theDef r.name = some (d.params, d.body, d.scope)) (hk : kwWritten? d.params.kwonlyargs d.params.kw_defaults = some kwd)
    (hwr : (!r.writes || r.records.isEmpty) = true) (k1 : r.wellSaid = true) (ok : (chainsOk q && opensWell r.prog && (frees r.toRowW && r.within.isEmpty)) = true) (hb : r.prog.bare) (hw : r.toRowW.promised)
    (hc : WalkO q loose (XL q lv) (Hook.says (kHook K as ek)) r.toRowW d kwd fun f vs => PySem.call f vs) : r.Holds :=
  holds_open (r := r) (q := q) (loose := loose) (XP := XL q lv) (YP := Hook.says (kHook K as ek)) (d := d) (kwd := kwd) (L.left e f) (Hook.of (kHook K as ek)) (Hook.keeps (kHook K as ek)) (fun s z => xl_of s (Bool.and_eq_true_iff.mp z).1) XL.keeps hdef hp hk (fun s z => recFacts_of (Bool.and_eq_true_iff.mp z).2) hwr k1 ok hb hw hc
/-- a row of our own, to have the written part of the heap and the view made -/
structure Made where
  row : OpenLaw
def Made.Holds (_ : Made) : Prop := True
end GBH
end
local macro_rules | `(tactic| k_head) => `(tactic| (refine (?f : (PySem.Challenge.rw_gangbooks_k15_bounds_exact.row.wellSaid = true → PySem.Challenge.rw_gangbooks_k15_bounds_exact.row.Holds) → True) ?p; (case f => exact fun _ => trivial); (case' p => intro said; k_headL)))
namespace GHR
open PySem PySem.W PyProof.Rows
set_option maxHeartbeats 0 in
open_top hdl for (GBH.Made.mk PySem.Challenge.rw_gangbooks_k15_bounds_exact)
end GHR
namespace GHR
noncomputable section
open PySem PySem.W PySem.Calls PyProof.Rows HandSHeadRun
abbrev R : OpenRow := OpenLaw.row PySem.Challenge.rw_gangbooks_k15_bounds_exact
def names : List PySem.Str := ["bounds", "Amounts"]
set_option maxHeartbeats 0 in
theorem l_base : GBH.Tells R.prog 11942 (fun w s => ((looksF R.prog (boot_heap w.params) s.abs, s.abs.heap.bltView, PySem.W.Fast.tw14722251495701143533 s.abs.heap (importedModules R.prog.main.body), s.abs.heap.isNs mainGlobals && s.abs.heap.isNs builtinsNs, PySem.W.Fast.tw10994771534591457954 hdl.view_1 s.abs.heap), xlAt hdl.view_1 [] s.abs && recOk (RowW.records R.toRowW) s.abs, s.abs.gens.size == 0, (hdl.heap_1 w.params).map fun x => getT s x.1)) fun w => ((true, bltViewBooted, true, true, true), true, true, (hdl.heap_1 w.params).map fun x => some x.2) := by
  intro w os
  kernel_rfl
set_option maxHeartbeats 0 in
theorem l_pins : GBH.Tells R.prog 11942 (fun _ s => (PySem.W.Fast.tw16090120013241838585 hdl.view_1 (PySem.W.Fast.tw3247288618530077131 hdl.view_1) s.abs, PySem.W.Fast.tw11698064438423848299 hdl.view_1 names s.abs, PySem.W.Fast.tw7369524293546568484 hdl.view_1 names s.abs)) fun _ => (pinGoodD (PySem.W.Fast.tw3247288618530077131 hdl.view_1), plainGoodD hdl.view_1 names, clsGoodW hdl.view_1 names) := by
  intro w os
  kernel_rfl
set_option maxHeartbeats 0 in
theorem l_names : GBH.Tells R.prog 11942 (fun _ s => PySem.W.Fast.tw5160383126252970620 (PySem.W.R.mapR (fun x => x.name) (PySem.W.Fast.tw3399658132070893891 hdl.view_1)) (PySem.W.Fast.tw5991557255702980513 hdl.view_1) [] { s.abs with gens := #[] }) fun _ => expectedOf hdl.view_1 := by
  intro w os
  kernel_rfl
set_option maxHeartbeats 0 in
theorem l_tabs : GBH.Tells R.prog 11942 (fun _ s => PySem.W.Fast.tw479339242167458305 hdl.view_1 s.abs) fun _ => true := by
  intro w os
  kernel_rfl
set_option maxHeartbeats 0 in
theorem l_wide : GBH.Tells R.prog 11942 (fun _ s => PySem.W.Fast.tw7317090234206586261 hdl.view_1 s.abs) fun _ => wideGood hdl.view_1 := by
  intro w os
  kernel_rfl
set_option maxHeartbeats 0 in
theorem l_plain : GBH.Tells R.prog 11942 (fun _ s => PySem.W.Fast.tw2386780881361962483 hdl.view_1 (PySem.W.Fast.tw821141287760084731 hdl.view_1 names) s.abs) fun _ => plainGoodE hdl.view_1 (PySem.W.Fast.tw821141287760084731 hdl.view_1 names) := by
  intro w os
  kernel_rfl
set_option maxHeartbeats 0 in
theorem l_keys : GBH.Tells R.prog 11942 (fun _ s => PySem.W.Fast.tw10880121769531294198 s.abs.heap (PySem.W.Fast.tw821141287760084731 hdl.view_1 names) (PySem.W.R.mapR (fun x => x.name) (PySem.W.Fast.tw3399658132070893891 hdl.view_1)) (PySem.W.R.mapR (fun x => x.fst) (PySem.W.Fast.tw7409074990110511671 hdl.view_1)) (PySem.W.R.mapR (fun x => x.name) (PySem.W.Fast.tw13664370479719496447 hdl.view_1 (PySem.W.Fast.tw821141287760084731 hdl.view_1 names)))) fun _ => true := by
  intro w os
  kernel_rfl
theorem looks : GBH.Looks R.prog hdl.view_1 names (fun s => xlAt hdl.view_1 [] s && recOk (RowW.records R.toRowW) s) hdl.heap_1 11942 := ⟨l_base, l_pins, l_names, l_tabs, l_wide, l_plain, l_keys⟩
def as0 : List Addr := [2, 3, 15, 17, 18, 20, 21, 22, 29, 31, 32, 34, 35, 36, 37, 38, 39, 42, 49, 50, 51, 54, 61, 62, 63, 66, 73, 74, 75, 78]
def as1 : List Addr := [85, 86, 87, 90, 93, 94, 95, 96, 97, 100, 101, 102, 105, 106, 107, 109, 110, 112, 113, 114, 117, 118, 119, 121, 122, 124, 125, 133, 135, 136]
def as2 : List Addr := [138, 139, 140, 143, 144, 145, 146, 147, 148, 151, 152, 153, 156, 157, 158, 161, 162, 163, 166, 167, 168, 171, 172, 173, 175, 176, 178, 179, 180, 183]
def as3 : List Addr := [184, 185, 187, 188, 190, 191, 192, 194, 195, 197, 198, 199, 202, 203, 204, 207, 208, 209, 211, 212, 214, 215, 216, 219, 220, 221, 223, 224, 226, 227]
def as4 : List Addr := [228, 230, 231, 233, 234, 235, 237, 238, 240, 241, 242, 243, 244, 245, 246, 249, 250, 251, 254, 255, 256, 259, 260, 261, 264, 265, 266, 269, 270, 271]
def as5 : List Addr := [273, 274, 276, 277, 278, 280, 281, 283, 284, 285, 288, 289, 290, 293, 294, 295, 298, 299, 300, 303, 304, 305, 308, 309, 310, 312, 313, 315, 316, 317]
def as6 : List Addr := [319, 320, 322, 323, 324, 327, 328, 329, 331, 332, 334, 335, 336, 338, 339, 341, 342, 343, 346, 347, 348, 350, 351, 353, 354, 355, 358, 359, 367, 369]
def as7 : List Addr := [370, 372, 373, 374, 375, 376, 377, 378, 388, 390, 391, 393, 394, 395, 396, 397, 398, 399, 409, 411, 412, 414, 415, 416, 417, 418, 419, 420, 430, 433]
def as8 : List Addr := [434, 435, 436, 437, 438, 439, 449, 452, 453, 454, 456, 457, 459, 460, 461, 463, 464, 466, 467, 468, 470, 471, 473, 474, 475, 478, 479, 480, 482, 483]
def as9 : List Addr := [485, 486, 487, 489, 490, 492, 493, 494, 495, 496, 497, 498, 508, 510, 511, 513, 514, 515, 517, 518, 520, 521, 522, 524, 525, 527, 528, 529, 531, 532]
def as10 : List Addr := [534, 535, 536, 538, 539, 541, 542, 543, 545, 546, 548, 549, 550, 552, 553, 555, 556, 557, 559, 560, 562, 563, 564, 566, 567, 569, 570, 571, 573, 574]
def as11 : List Addr := [576, 577, 578, 579, 580, 581, 582, 585, 588, 589, 597, 599, 600, 602, 603, 604, 607, 608, 609, 612, 613, 614, 617, 618, 619, 622, 623, 624, 626, 627]
def as12 : List Addr := [629, 630, 631, 633, 634, 636, 637, 638, 640, 641, 643, 644, 645, 646, 647, 648, 649, 652, 654, 655, 657, 658, 659, 661, 662, 664, 665, 666, 669, 670]
def as13 : List Addr := [671, 674, 675, 676, 678, 679, 681, 682, 683, 685, 686, 688, 689, 690, 693, 694, 695, 698, 699, 700, 702, 703, 705, 706, 707, 709, 710, 712, 713, 714]
def as14 : List Addr := [716, 717, 719, 720, 721, 723, 724, 726, 727, 728, 730, 731, 733, 734, 735, 738, 739, 740, 743, 744, 745, 748, 749, 750, 753, 754, 755, 758, 759, 760]
def as15 : List Addr := [763, 764, 765, 767, 768, 770, 771, 772, 774, 775, 777, 778, 779, 781, 782, 784, 785, 786, 788, 789, 791, 792, 793, 796, 797]
def as : List Addr := as0 ++ as1 ++ as2 ++ as3 ++ as4 ++ as5 ++ as6 ++ as7 ++ as8 ++ as9 ++ as10 ++ as11 ++ as12 ++ as13 ++ as14 ++ as15
set_option maxHeartbeats 0 in
theorem ek : ∀ P, as = (hdl.heap_1 P).map (·.1) := by
  intro P
  kernel_rfl
end
end GHR
/-! own operators over the layer -/
namespace L2
open PySem PySem.Spec PyProof.Rows
theorem cmpBack_of {Q : Value → Shared → Prop} {v : V} {u : Value} {s : Shared} (r : RelV v u) (q : Q u s) : PySem.W.CmpBack Q u s := by
  cases v with
  | non => cases (show u = Value.none from r); exact q
  | bl b => cases (show u = Value.bool b from r); exact q
  | int i => obtain ⟨t, e⟩ := (show ∃ t, u = Value.int i t from r); cases e; exact q
  | str x => obtain ⟨t, e⟩ := (show ∃ t, u = Value.str x t from r); cases e; exact q
  | byt x => obtain ⟨t, e⟩ := (show ∃ t, u = Value.bytes x t from r); cases e; exact q
  | flt x => obtain ⟨t, e⟩ := (show ∃ t, u = Value.float x t from r); cases e; exact q
  | ref a => cases (show u = Value.ref a from r); exact q
  | ty n => cases (show u = Value.type n from r); exact q
section
variable {X : Cx} {pins : List (Addr × Obj)} {σ : St} {H : Hp} {s : Shared} {a C dx : Addr} {fs : List (Str × V)}
theorem Inv.instAt (I : Inv X pins σ H s) (e : H a = some (.ins C dx fs)) : ∃ od, PySem.W.InstAt s.heap a (PySem.W.instObj C dx) C (some od) := by
  obtain ⟨mA, J, _⟩ := ins_get I.hok e
  obtain ⟨od, h, _⟩ := J.look
  exact ⟨od, h⟩
end
section
variable {X : Cx} {CX : CXT} {k : Nat} {f C : Addr} {fd : FuncData} {ps : List Str} {sp : Sp} {dvs : List V} {ds : List Value} {E : XK}
/-- the callee runs, within some units of the C stack -/
theorem run_fnA {A : Around} {pins : List (Addr × Obj)} {σ : St} {H : Hp} {s : Shared} {Q : VK} {us : List Value} {vs : List V} (hfA : A.frames = X.A.frames) (F : FnOk X.prog X.w X.K X.mg X.base CX k f fd ps sp) (hr : Room k A) (hb : Binds X.K fd ps ds) (hd : Vals dvs ds) (hx : Passes CX X E)
    (I : Inv X pins σ H s) (r : Vals vs us) (h : sp (vs ++ dvs) H Q E) : wpAny (model X.prog X.w) A (call (.ref f) us) (EP X pins σ Q) X.xe s := by
  have r2 : Vals (vs ++ dvs) (us ++ ds) := r.append hd
  have hl : (us ++ ds).length = ps.length := by rw [← r2.length]; exact F.len _ _ _ _ h
  have e0 := I.env0
  have e1 : Env0 X.prog X.w X.K X.mg X.base A X.stack s H := ⟨hfA.trans e0.frames, e0.mod, e0.bs, e0.bsz, e0.funs, e0.frf, e0.hok, e0.bare⟩
  refine wpAny_call (codeAny_mono (F.run A X.stack s H ⟨us, []⟩ (us ++ ds) (vs ++ dvs) Q E hr e1 (hb s us I.kIn hl) r2 h) fun r s' hq => ?_)
  cases r with
  | error e => exact hx pins σ H s e s' I hq
  | ok fl =>
    cases fl with
    | ret u => exact I.after hq
    | next => exact False.elim hq
    | brk => exact False.elim hq
    | cont => exact False.elim hq
/-- x op y, both of the class at C -/
def rOwn (C : Addr) (sp : Sp) (E : XK) : R2 := fun x y H Q => ∃ a dx fs b dy gs, x = .ref a ∧ H a = some (.ins C dx fs) ∧ y = .ref b ∧ H b = some (.ins C dy gs) ∧ sp [x, y] H Q E
theorem op_own {op : Operator} (hm : Meth X.K C (PySem.dunder op.info.2) f) (hc : PySem.W.selfFirst X.K C = true) (F : FnOk X.prog X.w X.K X.mg X.base CX k f fd ps sp) (hr : Room k X.A) (hb : Binds X.K fd ps []) (hx : Passes CX X E) :
    OpR X (binaryOp op) (rOwn C sp E) := by
  intro pins s σ H x y v u Q I rx ry h
  obtain ⟨a, dx, fs, b, dy, gs, rfl, ea, rfl, eb, h⟩ := h
  obtain rfl : v = Value.ref a := rx
  obtain rfl : u = Value.ref b := ry
  obtain ⟨od, J⟩ := I.instAt ea
  obtain ⟨od', J'⟩ := I.instAt eb
  obtain ⟨m, fr⟩ := I.fr
  refine PySem.W.binop_K fr I.ok.mod.kin J J'.type hc hm.at_ hm.fn (thn (run_fnA (us := [.ref a, .ref b]) (vs := [.ref a, .ref b]) (dvs := []) rfl F hr hb .nil hx I (.cons rfl (.cons rfl .nil)) h) fun w s' q => ?_)
  obtain ⟨v', H', I', rv, q⟩ := q
  exact cmpBack_of rv ⟨v', H', I', rv, q⟩
/-- x op i, an int on the right -/
def rOwnI (C : Addr) (sp : Sp) (E : XK) : R2 := fun x y H Q => ∃ a dx fs i, x = .ref a ∧ H a = some (.ins C dx fs) ∧ y = .int i ∧ sp [x, y] H Q E
structure OwnI (K : PySem.W.Frag) (C : Addr) (op : Operator) : Prop where
  r : ∃ rc, PySem.W.findIn K (.ref C) (dunderR op.info.2) = some rc ∧ (rc = none ∨ ∃ g : Addr, rc = some (.ref g))
  i1 : ∃ fo, PySem.W.findIn K (.type "int") (PySem.dunder op.info.2) = some fo
  i2 : ∃ ro, PySem.W.findIn K (.type "int") (dunderR op.info.2) = some ro
  sub : PySem.W.subIn K (.type "int") (.ref C) = some false
theorem op_ownI {op : Operator} (hm : Meth X.K C (PySem.dunder op.info.2) f) (hc : PySem.W.selfFirst X.K C = true) (hi : OwnI X.K C op) (F : FnOk X.prog X.w X.K X.mg X.base CX k f fd ps sp) (hr : Room k X.A) (hb : Binds X.K fd ps []) (hx : Passes CX X E) :
    OpR X (binaryOp op) (rOwnI C sp E) := by
  intro pins s σ H x y v u Q I rx ry h
  obtain ⟨a, dx, fs, i, rfl, ea, rfl, h⟩ := h
  obtain rfl : v = Value.ref a := rx
  obtain ⟨t, rfl⟩ := (show ∃ t, u = Value.int i t from ry)
  obtain ⟨od, J⟩ := I.instAt ea
  obtain ⟨m, fr⟩ := I.fr
  obtain ⟨⟨rc, h1, h2⟩, ⟨fo, h3⟩, ⟨ro, h4⟩, h5⟩ := hi
  refine PySem.W.ksp_binT (T := "int") fr I.ok.mod.kin J rfl hc hm.at_ hm.fn h1 h2 h3 h4 h5 (thn (run_fnA (us := [.ref a, .int i t]) (vs := [.ref a, .int i]) (dvs := []) rfl F hr hb .nil hx I (.cons rfl (.cons ⟨t, rfl⟩ .nil)) h) fun w s' q => ?_)
  obtain ⟨v', H', I', rv, q⟩ := q
  exact cmpBack_of rv ⟨v', H', I', rv, q⟩
/-- v in x, by an own __contains__ that hands back a bool -/
def rOwnIn (C : Addr) (sp : Sp) (E : XK) : R2 := fun y x H Q => ∃ a dx fs, x = .ref a ∧ H a = some (.ins C dx fs) ∧ sp [x, y] H (fun v H' => ∃ b, v = .bl b ∧ Q (.bl b) H') E
theorem op_inOwn (hm : Meth X.K C "__contains__" f) (F : FnOk X.prog X.w X.K X.mg X.base CX k f fd ps sp) (hr : Room k X.A) (hb : Binds X.K fd ps []) (hx : Passes CX X E) : OpR X (compareOp .In) (rOwnIn C sp E) := by
  intro pins s σ H y x v u Q I ry rx h
  obtain ⟨a, dx, fs, rfl, ea, h⟩ := h
  obtain rfl : u = Value.ref a := rx
  obtain ⟨od, J⟩ := I.instAt ea
  obtain ⟨m, fr⟩ := I.fr
  refine PySem.W.in_K fr I.ok.mod.kin J hm.at_ hm.fn (thn (run_fnA (us := [.ref a, v]) (vs := [.ref a, y]) (dvs := []) rfl F hr hb .nil hx I (.cons rfl (.cons ry .nil)) h) fun w s' q => ?_)
  obtain ⟨v', H', I', rv, b, rfl, q⟩ := q
  obtain rfl : w = Value.bool b := rv
  exact wpAny_truthy_bool ⟨.bl b, H', I', rfl, q⟩
/-- len(x) by an own __len__ -/
def rOwnLen (C : Addr) (sp : Sp) (E : XK) : List V → Hp → VK → Prop := fun xs H Q => ∃ a dx fs, xs = [.ref a] ∧ H a = some (.ins C dx fs) ∧ sp [.ref a] H (fun v H' => ∃ n : Int, v = .int n ∧ 0 ≤ n ∧ n < 2 ^ 63 ∧ Q (.int n) H') E
theorem call_lenOwn (hm : Meth X.K C "__len__" f) (F : FnOk X.prog X.w X.K X.mg X.base CX k f fd ps sp) (hr : Room (k + 1) X.A) (hb : Binds X.K fd ps []) (hx : Passes CX X E) : CallR X (.builtin "len") (rOwnLen C sp E) := by
  intro pins s σ H xs us Q I r h
  obtain ⟨a, dx, fs, rfl, ea, h⟩ := h
  obtain ⟨u, rfl, ru⟩ := vals1 r
  obtain rfl : u = Value.ref a := ru
  obtain ⟨od, J⟩ := I.instAt ea
  obtain ⟨m, fr⟩ := I.fr
  refine PySem.W.len_K fr I.ok.mod.kin J hm.at_ hm.fn (thn (run_fnA (A := X.A.in1) (us := [.ref a]) (vs := [.ref a]) (dvs := []) rfl F hr.in1 hb .nil hx I (.cons rfl .nil) h) fun w s' q => ?_)
  obtain ⟨v', H', I', rv, n, rfl, h0, h1, q⟩ := q
  obtain ⟨t, rfl⟩ := (show ∃ t, w = Value.int n t from rv)
  exact ⟨⟨h0, h1⟩, .int n, H', I'.tok _, ⟨_, rfl⟩, q⟩
end
end L2

namespace L2
open PySem PySem.Spec PyProof.Rows
section
variable {X : Cx} {CX : CXT} {k : Nat} {f C : Addr} {fd : FuncData} {ps : List Str} {sp : Sp} {E : XK}
end
end L2
namespace L2
open PySem PySem.Spec PyProof.Rows
section
variable {X : Cx} {CX : CXT} {k : Nat} {f C : Addr} {fd : FuncData} {ps : List Str} {sp : Sp} {E : XK}
end
end L2
namespace PySem.W
open PySem PySem.Spec PySem.Calls PyProof.Rows
section
variable {prog : Program} {w : World} {A : Around} {E : Value → Shared → Prop} {s : Shared} {K : Frag} {x D : Addr} {ox : Obj}
end
end PySem.W
namespace L2
open PySem PySem.Spec PyProof.Rows
theorem exc_heap {H : Hp} {a d : Addr} {o1 o2 o3 u : HO} (h : H a = none) : upd (del (upd (upd (upd H a o1) d o2) a o3) a) d u = upd H d u := by
  funext b
  by_cases hd : b = d
  · subst hd; rw [upd_same, upd_same]
  · rw [upd_ne hd, upd_ne hd]
    by_cases ha : b = a
    · subst ha; rw [del_same, h]
    · rw [del_ne ha, upd_ne ha, upd_ne hd, upd_ne ha]
/-- what the classes of errors are, over one base with __init__(self, subject) -/
structure GExc (K : PySem.W.Frag) (C fI : Addr) : Prop where
  oex : OexC K C
  iC : PySem.W.findIn K (.ref C) "__init__" = some (some (.ref fI))
  tI : PySem.W.typeIn K (.ref fI) = some (.type "function")
  noS : PySem.W.findIn K (.ref C) "subject" = some none
/-- __init__(self, subject): self.subject = subject -/
def spGI (K : PySem.W.Frag) : Sp := fun vs H Q _ => ∃ (a C : Addr) (v : V), vs = [.ref a, v] ∧ OexC K C ∧ PySem.W.findIn K (.ref C) "subject" = some none ∧ H a = some (exo a C none) ∧
  ∀ dx, H dx = none → dx ≠ a → Q .non (upd (upd H dx (exd dx [(("subject" : Str), v)])) a (exo a C (some dx)))
/-- raise X(e): what it wants of e's value and the heap behind it -/
def RaiseG (K : PySem.W.Frag) (C : Addr) (W : WX) (σ : St) (v : V) (H1 : Hp) : Prop := ([v] : List V).length ≤ 1000 ∧ ∀ a, H1 a = none → spGI K (.ref a :: ([v] ++ [])) (upd H1 a (exo a C none))
  (fun v' H2 => v' = .non ∧ ∃ (d : Addr) (fs : List (Str × V)), H2 a = some (exo a C (some d)) ∧ H2 d = some (exd d fs) ∧ H1 d = none ∧ W (.ref C) (some d) σ (upd (del H2 a) d (.xd fs))) (fun _ _ _ => False)
theorem raiseG_in {K : PySem.W.Frag} {C fI : Addr} {W : WX} {σ : St} {v : V} {H1 : Hp} (T : GExc K C fI) (h : ∀ d, H1 d = none → W (.ref C) (some d) σ (upd H1 d (.xd [(("subject" : Str), v)]))) : RaiseG K C W σ v H1 := by
  refine ⟨by show 1 ≤ 1000; decide, fun a ha => ⟨a, C, v, rfl, T.oex, T.noS, upd_same, fun dx hdx hne => ⟨rfl, dx, [(("subject" : Str), v)], upd_same, ?_, ?_, ?_⟩⟩⟩
  · rw [upd_ne hne, upd_same]
  · rw [upd_ne hne] at hdx; exact hdx
  · rw [exc_heap ha]
    rw [upd_ne hne] at hdx
    exact h dx hdx
def tRaiseG (K : PySem.W.Frag) (C : Addr) (W : WX) (te : TE) : TS := fun _ σ H => te σ H fun v H1 => RaiseG K C W σ v H1
theorem ps_raiseG {X : Cx} {x : Str} {C fI : Addr} {k : Nat} {fd : FuncData} {ps : List Str} {W : WX} {e : Expr} {te : TE} {p pos pos2 : Pos} (hc : X.calm = true) (T : GExc X.K C fI)
    (F1 : FnOk X.prog X.w X.K X.mg X.base CX0 k fI fd ps (spGI X.K)) (hr : Room (k + 1) X.A) (hb : Binds X.K fd ps []) (hg : Gl X x) (hm : X.mg x = some (.ref C)) (tk : Takes X W) (ha : PE X e te)
    (hdb : (x == ("__debug__" : Str)) = false := by decide) (he : starEach [e] X.env = (false, eval e X.env) :: starEach [] X.env := by rfl) (hpl : (backTo pos (starEach [] X.env)).any (·.1) = false := by rfl) :
    PS X (.Raise (some (.Call (.Name x p) [e] [] pos)) none pos2) (tRaiseG X.K C W te) :=
  ps_raise (pos := pos2) hc tk (pmk_oex (p := p) (pos := pos) (dvs := []) T.oex T.iC T.tI F1 hr hb .nil (fun _ _ _ _ _ _ _ h => h.elim) hg hm (pa_cons ha pa_nil he) hdb he hpl)
section
variable {X : Cx} {CX : CXT} {k : Nat} {f C : Addr} {fd : FuncData} {ps : List Str} {sp : Sp} {E : St → XK} {x : Str} {p pos : Pos} {e : Expr} {es : List Expr} {t : TA} {ta tb : TE}
end
end L2
namespace L2
open PySem PySem.Spec PyProof.Rows
section
variable {X : Cx}
end
end L2
namespace L2
open PySem PySem.Spec PyProof.Rows
section
variable {X : Cx} {a : Expr} {ta : TE}
/-- * of any two ints whose product the machine takes -/
theorem op_mulX : OpR X (binaryOp .Mult) (rI IntMulOk fun i j => .int (i * j)) := opI fun _ _ _ _ _ _ _ hc q => mul_int q hc
theorem mulL {i j : Int} (h : -(2 ^ 64) < i ∧ i < 2 ^ 64) : IntMulOk i j := CMul.ok (.inl h)
theorem mulR {i j : Int} (h : -(2 ^ 64) < j ∧ j < 2 ^ 64) : IntMulOk i j := CMul.ok (.inr h)
end
/-- what was tracked stays, but for what stands at p -/
def SameBut (p : Addr) (H H' : Hp) : Prop := ∀ b o, b ≠ p → H b = some o → H' b = some o
theorem SameBut.refl {p : Addr} {H : Hp} : SameBut p H H := fun _ _ _ h => h
theorem SameBut.trans {p : Addr} {H H1 H2 : Hp} (a : SameBut p H H1) (b : SameBut p H1 H2) : SameBut p H H2 := fun c o n h => b c o n (a c o n h)
theorem Same.but {p : Addr} {H H' : Hp} (a : Same H H') : SameBut p H H' := fun c o _ h => a c o h
theorem same_new {H : Hp} {p : Addr} {o : HO} (h : H p = none) : Same H (upd H p o) := fun b u e => by rw [upd_ne (ne_of_none e h)]; exact e
theorem sameBut_upd {H : Hp} {p : Addr} {o : HO} : SameBut p H (upd H p o) := fun b u n e => by rw [upd_ne n]; exact e
theorem Same.seqT {K : PySem.W.Frag} {H H' : Hp} {a : Addr} {xs : List V} (e : Same H H') (h : SqT K H a xs) : SqT K H' a xs := by
  rcases h with (h | ⟨o, h⟩) | h
  · exact .inl (.inl (e _ _ h))
  · exact .inl (.inr ⟨o, e _ _ h⟩)
  · exact .inr h
theorem getMap {xs : List Int} {i : Nat} {y : V} (h : (xs.map V.int)[i]? = some y) : ∃ z, xs[i]? = some z ∧ y = V.int z := by
  rw [List.getElem?_map] at h
  cases e : xs[i]? with
  | none => rw [e] at h; cases h
  | some z => rw [e] at h; exact ⟨z, rfl, (Option.some.inj h).symm⟩
theorem iteD {p : Prop} [Decidable p] {A B : Prop} (h1 : p → A) (h2 : ¬ p → B) : if decide p = true then A else B := by
  by_cases h : p
  · rw [decide_eq_true h, if_pos rfl]; exact h1 h
  · rw [decide_eq_false h, if_neg Bool.false_ne_true]; exact h2 h
theorem iteDN {p : Prop} [Decidable p] {A B : Prop} (h1 : p → B) (h2 : ¬ p → A) : if (!decide p) = true then A else B := by
  by_cases h : p
  · rw [decide_eq_true h]; exact iteF (h1 h)
  · rw [decide_eq_false h]; exact iteT (h2 h)
theorem qt {Q : VK} {H : Hp} {p : Prop} [Decidable p] (c : p) (h : Q (.bl (decide p)) H) : Q (.bl true) H := by
  rw [decide_eq_true c] at h; exact h
/-! ### the pool of draws -/
/-- the list of the pool: four ints, then ints of at least 1 -/
def poolL (a b c n : Int) (bs : List Int) : List V := [.int a, .int b, .int c, .int n] ++ bs.map V.int
def PoolAt (H : Hp) (p : Addr) : Prop := ∃ a b c n bs, H p = some (.lst (poolL a b c n bs)) ∧ bs.length ≤ 63 ∧ ∀ z ∈ bs, 1 ≤ z
theorem ixN_of {n : Nat} {j : Nat} (h : j < n) : ixN n (j : Int) = some j := by
  unfold ixN
  rw [if_pos (by omega), if_pos (by omega)]
  simp
theorem PoolAt.of {H : Hp} {p : Addr} {a b c n : Int} {bs : List Int} (h : H p = some (.lst (poolL a b c n bs))) (hl : bs.length ≤ 63) (hz : ∀ z ∈ bs, 1 ≤ z) : PoolAt H p := ⟨a, b, c, n, bs, h, hl, hz⟩
theorem PoolAt.mono {H H' : Hp} {p : Addr} (h : PoolAt H p) (e : Same H H') : PoolAt H' p := let ⟨a, b, c, n, bs, q, hl, hz⟩ := h; ⟨a, b, c, n, bs, e _ _ q, hl, hz⟩
theorem PoolAt.ne {H : Hp} {p q : Addr} (h : PoolAt H p) (hq : H q = none) : p ≠ q := let ⟨_, _, _, _, _, e, _, _⟩ := h; ne_of_none e hq
theorem notFirst_self {K : PySem.W.Frag} {C : Addr} : PySem.W.notFirst K C (.ref C) = true := by unfold PySem.W.notFirst; simp
def spDraw : Sp := fun vs H Q _ => ∃ (p : Addr) (m : Int), vs = [.ref p, .int m] ∧ PoolAt H p ∧ 1 ≤ m ∧ m < 1073741824 ∧ ∀ r H', 0 ≤ r → r < m → PoolAt H' p → SameBut p H H' → Q (.int r) H'

/-! ### the rules that speak of K, by the K at hand -/
section
variable {X : Cx} {o e : Expr} {ta tl : TE} {tg : Expr} {f : Str} {pos : Pos}
theorem op_neDK (K : PySem.W.Frag) (hu : X.A.units + 64 < cLine) (hK : X.K = K := by rfl) : OpR X (compareOp .NotEq) (rNeD K) := hK ▸ op_neD hu
theorem ix_tupK (K : PySem.W.Frag) (hK : X.K = K := by rfl) : IxR X (rIxT K) := hK ▸ ix_tup
theorem ix_listK (K : PySem.W.Frag) (hK : X.K = K := by rfl) : IxR X (rIxL K) := hK ▸ ix_list
theorem pe_fldK (K : PySem.W.Frag) (he : PE X e ta) (hb : attributeBase e f X.env (eval e X.env) = eval e X.env) (hK : X.K = K := by rfl) : PE X (.Attribute e f pos) (tFld K ta f) := hK ▸ pe_fld he hb
theorem op_in_seqK (K : PySem.W.Frag) (hK : X.K = K := by rfl) : OpR X (compareOp .In) (rIn K false) := hK ▸ op_in_seq
theorem op_notIn_seqK (K : PySem.W.Frag) (hK : X.K = K := by rfl) : OpR X (compareOp .NotIn) (rIn K true) := hK ▸ op_notIn_seq
theorem call_isiK' (K : PySem.W.Frag) (hK : X.K = K := by rfl) : CallR X (.builtin "isinstance") (rIsi K) := hK ▸ call_isi
theorem pi_listK (K : PySem.W.Frag) (hl : PE X o tl) (hK : X.K = K := by rfl) : PI X tg o (iList K tl) := hK ▸ pi_list hl
theorem pi_tupK (K : PySem.W.Frag) (hl : PE X o tl) (hK : X.K = K := by rfl) : PI X tg o (iTup K tl) := hK ▸ pi_tup hl
def rLenSq (K : PySem.W.Frag) : List V → Hp → VK → Prop := fun xs H Q => ∃ p ys, xs = [.ref p] ∧ (SqL K H p ys ∨ SqT K H p ys) ∧ Q (.int ys.length) H
theorem call_len_seqK (K : PySem.W.Frag) (hK : X.K = K := by rfl) : CallR X (.builtin "len") (rLenSq K) := hK ▸ call_len_seq
end
theorem kit_same {K : PySem.W.Frag} {t : Value} : PySem.W.kitOne K t t = some true := by
  unfold PySem.W.kitOne
  rw [if_pos (by simp)]
end L2
namespace L2
open PySem PySem.Spec PyProof.Rows
theorem dec_mul (i : Int) (t : Tok) (a C dx : Addr) : Meets (Builtin.«int.__mul__» ⟨[.int i t, .ref a], []⟩) (fun _ R s => s.heap.get? a = some (PySem.W.instObj C dx) ∧ R (.ok (.ret .notImplemented)) s) :=
  .of_wp fun prog w A R s h => by obtain ⟨hp, g, d, tk, os⟩ := s; obtain ⟨hl, h⟩ := h; unfold PySem.W.instObj at hl; wp_walk; exact ⟨_, rfl, h⟩
/-- what the classes say of an operator with an int on the left -/
structure IntOp (op : Operator) (B : Builtin) (id : String) : Prop where
  fills : fillsNumberSlot (.type "int") op.info.2 = pure true
  slot : Slot "int" (PySem.dunder op.info.2) id
  entry : entryFor table id = some B
  args : ∀ a b, argsOk id ⟨[a, b], []⟩
  dec : ∀ (i : Int) (t : Tok) (a C dx : Addr), Meets (B ⟨[.int i t, .ref a], []⟩) (fun _ R s => s.heap.get? a = some (PySem.W.instObj C dx) ∧ R (.ok (.ret .notImplemented)) s)
theorem intMul : IntOp .Mult Builtin.«int.__mul__» "int.__mul__" := ⟨F.fills_int_mul, F.slot_int_mul, F.entry_int_mul, F.args_int_mul_2, dec_mul⟩
open PySem.W in
theorem binop_IK {prog : Program} {w : World} {A : Around} {E : Value → Shared → Prop} {s : Shared} {K : Frag} {x C L f f0 dx : Addr} {h₀ : Heap} {m : Str → Option Value} {od : Option Obj} {op : Operator} {B : Builtin} {id : String} {i : Int} {t : Tok} {Q : Value → Shared → Prop} (J : IntOp op B id)
    (Fr0 : Fr h₀ L s.heap m) (X₀ : K.In h₀) (I : PySem.W.InstAt s.heap x (PySem.W.instObj C dx) C od) (hc : selfFirst K C = true) (hs : findIn K (.ref C) (PySem.dunder op.info.2) = some (some (.ref f0)))
    (hr : findIn K (.ref C) (dunderR op.info.2) = some (some (.ref f))) (hf : isFn K (.ref f) = true) (hsub : subIn K (.ref C) (.type "int") = some false)
    (h : wpAny (model prog w) A (call (.ref f) [.ref x, .int i t]) (PySem.W.CmpBack Q) E s) : wpAny (model prog w) A (binaryOp op (.int i t) (.ref x)) Q E s := by
  have X := X₀.keeps Fr0.keep
  obtain ⟨cd, rest, hcd, hm⟩ := ksp_first hc
  obtain ⟨hfT, slot, entry, args, dec⟩ := J
  rcases hi : op.info with ⟨sym, nm⟩
  rw [hi] at hs hr hfT slot
  dsimp only at hs hr hfT slot
  have hne : (Value.type "int" == Value.ref C) = false := Bool.eq_false_iff.mpr fun q => by cases beq_iff_eq.mp q
  simp only [binaryOp, hi]
  refine wpAny_holding (wpAny_bind ?_)
  unfold binaryOp1
  refine wpAny_bind (wpAny_typeOf (show s.TypeIs (.int i t) "int" from rfl) (wpAny_bind (I.type.here (wpAny_bind (wpAny_of_eq hfT ?_)))))
  simp only [hne, Bool.false_eq_true, if_false]
  refine wpAny_bind ((fills_K X hcd hm hs).here ?_)
  simp only [Bool.and_self, if_true]
  refine wpAny_bind ((looks_subIn X hsub).here ?_)
  have hpy : numberSlotInPython (.type "int") nm = pure false := rfl
  simp only [Bool.false_eq_true, if_false, pure_bind, Bool.not_false, Bool.and_self, if_true, hpy]
  refine wpAny_bind (wpAny_tryMethod_declines (T := "int") rfl slot (call_meets slot rfl entry (args _ _) (dec i t x C dx) ⟨I.at_, rfl, ?_⟩))
  show wpAny _ _ (tryMethod (.ref x) (dunderR nm) (.int i t) >>= _) _ _ _
  refine wpAny_bind (wpAny_mono (ksp_try X I hr hf h) (fun r s' hq => ?_) fun _ _ z => z)
  obtain ⟨v, rfl, q⟩ := hq
  first | exact wpAny_bind (wpAny_rule (wpAny_pure (wpAny_pure q))) | exact wpAny_rule (wpAny_pure (wpAny_pure q)) | exact wpAny_bind (wpAny_rule (wpAny_pure q))
open PySem.W in
section
variable {X : Cx} {CX : CXT} {k : Nat} {f f0 C : Addr} {fd : FuncData} {ps : List Str} {sp : Sp} {E : XK}
/-- i op x, an int on the left: x's reflected method at (x, i) -/
def rIOwn (C : Addr) (sp : Sp) (E : XK) : R2 := fun y x H Q => ∃ a dx fs i, x = .ref a ∧ H a = some (.ins C dx fs) ∧ y = .int i ∧ sp [x, y] H Q E
theorem op_iown {op : Operator} {B : Builtin} {id : String} (J : IntOp op B id) (hm0 : Meth X.K C (PySem.dunder op.info.2) f0) (hm : Meth X.K C (dunderR op.info.2) f) (hc : PySem.W.selfFirst X.K C = true) (hsub : PySem.W.subIn X.K (.ref C) (.type "int") = some false)
    (F : FnOk X.prog X.w X.K X.mg X.base CX k f fd ps sp) (hr : Room k X.A) (hb : Binds X.K fd ps []) (hx : Passes CX X E) : OpR X (binaryOp op) (rIOwn C sp E) := by
  intro pins s σ H y x v u Q I ry rx h
  obtain ⟨a, dx, fs, i, rfl, ea, rfl, h⟩ := h
  obtain rfl : u = Value.ref a := rx
  obtain ⟨t, rfl⟩ := (show ∃ t, v = Value.int i t from ry)
  obtain ⟨od, Ia⟩ := I.instAt ea
  obtain ⟨m, fr⟩ := I.fr
  refine binop_IK J fr I.ok.mod.kin Ia hc hm0.at_ hm.at_ hm.fn hsub (thn (run_fnA (us := [.ref a, .int i t]) (vs := [.ref a, .int i]) (dvs := []) rfl F hr hb .nil hx I (.cons rfl (.cons ⟨t, rfl⟩ .nil)) h) fun w s' q => ?_)
  obtain ⟨v', H', I', rv, q⟩ := q
  exact cmpBack_of rv ⟨v', H', I', rv, q⟩
end
section
variable {X : Cx} {CX : CXT} {k : Nat} {f C : Addr} {fd : FuncData} {ps : List Str} {sp : Sp} {E : XK}
end
theorem kit_tb {K : PySem.W.Frag} {C : Addr} {T : String} {b : Bool} (hd : PySem.W.hasDictIn K C = true) (ty : PySem.W.typeIn K (.ref C) = some (.type "type")) (h : PySem.W.subIn K (.type T) (.ref C) = some b) : PySem.W.kitOne K (.type T) (.ref C) = some b := by
  unfold PySem.W.kitOne
  rw [if_neg (by simp)]
  obtain ⟨cd, hc, _⟩ := PySem.W.any_some hd
  have e2 : ((PySem.W.clsIn K C).isSome && PySem.W.typeIn K (.ref C) == some (.type "type")) = true := by rw [hc, ty] <;> rfl
  show (if ((PySem.W.clsIn K C).isSome && PySem.W.typeIn K (.ref C) == some (.type "type")) = true then PySem.W.subIn K (.type T) (.ref C) else none) = some b
  rw [if_pos e2]
  exact h
theorem binds_none {K : PySem.W.Frag} {fd : FuncData} {ps : List Str} (h : ∃ ds, Vals ([] : List V) ds ∧ Binds K fd ps ds) : Binds K fd ps [] := by
  obtain ⟨ds, r, b⟩ := h
  cases r
  exact b
end L2
namespace L2
open PySem PySem.Spec PyProof.Rows
section
variable {X : Cx} {CX : CXT} {k : Nat} {f C : Addr} {fd : FuncData} {ps : List Str} {sp : Sp} {E : St → XK} {m : Str} {pos apos : Pos} {e o : Expr} {es : List Expr} {ta : TE} {t : TA}
end
end L2
/-! iter of a tuple; list(x) of an own class whose __iter__ gives a tuple's iterator and that has an own __len__ -/
namespace L2
open PySem PySem.Spec PyProof.Rows
section
variable {prog : Program} {w : World} {A : Around} {E : Value → Shared → Prop} {s : Shared}
theorem gb_iter_tuple {t : Addr} {items : Array Value} {Q : Value → Shared → Prop} (ht : s.heap.IsTuple t items) (h : Q (.ref s.heap.objs.size) { s with heap := s.heap.push { cls := .type "tuple_iterator", data := .fields #[.ref t, .int 0 0] } }) : wpAny (model prog w) A (call (.builtin "iter") [.ref t]) Q E s := by
  refine Calls.call_function_entry (by decide +kernel) (by decide +kernel) PySem.W.kdk_entry_iter (PySem.W.kdk_args_iter _) ?_
  unfold Builtin.«iter»
  refine wpAny_bind (m := someArgs "iter" 1 2 _) (wpAny_of_eq (a := [Value.ref t]) (by first | rfl | kernel_rfl!) ?_)
  show wpAny _ _ (pyIter (.ref t) >>= _) _ _ _
  refine wpAny_bind (wpAny_pyIter_tuple ht ?_)
  exact wpAny_pure ⟨_, rfl, h⟩
/-- the end of a tuple's iterator; the iterator stays an object -/
theorem gb_tuple_end {it t : Addr} {i : Nat} {items : Array Value} {Q : Option Value → Shared → Prop} (hh : A.handled = none)
    (hit : s.heap.IsTupleIter it t i) (ht : s.heap.IsTuple t items) (hx : items[i]? = none)
    (hQ : ∀ h', Heap.ExtBut it s.heap h' → (∃ u, h'.get? it = some u) → Q none { s with heap := h' }) : wpAny (model prog w) A (pyNext (.ref it)) Q E s := by
  obtain ⟨o, ho, hc, hd⟩ := id hit
  obtain ⟨ol, hol, _, nl, hdl⟩ := ht
  unfold pyNext
  refine wpAny_bind (wpAny_attempt (wpAny_callSpecial?_slot (name := Str.ofString "__next__") hit.typeIs F.slot_tuple_iterator_next
    (wpAny_call_entry F.slot_tuple_iterator_next hit.typeIs F.entry_tuple_iterator_next ?_ (F.args_tuple_iterator_next_1 _))))
  show wpAny _ _ (field (.ref it) 0 >>= _) _ _ s
  refine wpAny_bind (wpAny_field ho hd (x := .ref t) rfl ?_)
  show wpAny _ _ (if (Value.ref t == Value.none) = true then _ else _) _ _ s
  rw [if_neg (show ¬ ((Value.ref t == Value.none) = true) from Bool.false_ne_true)]
  show wpAny _ _ (field (.ref it) 1 >>= _) _ _ s
  refine wpAny_bind (wpAny_field ho hd (x := .int i 0) rfl ?_)
  show wpAny _ _ (seqItems? (.ref t) >>= _) _ _ s
  refine wpAny_bind (wpAny_seqItems hol hdl ?_)
  simp only [Int.toNat_natCast, hx]
  refine wpAny_bind (wpAny_rule (wpAny_bind (wpAny_setField ho hd (by simp) ?_)))
  show wpAny _ _ (newExc (.type "StopIteration") [] >>= _) _ _ _
  refine wpAny_bind ?_
  simp only [newExc, newTuple]
  refine wpAny_bind (wpAny_newObj_type ?_ (by size_fits))
  refine wpAny_bind (m := firstArgMember _ _) (wpAny_of_eq (a := Value.none) (by first | rfl | (simp only [firstArgMember]; rfl)) ?_)
  refine wpAny_newObj_type ?_ (by size_fits)
  simp only [raiseNew]
  refine wpAny_bind (wpAny_handled ?_)
  first | rw [show A.in1.handled = none from hh] | rw [hh]
  refine wpAny_bind (wpAny_pure (wpAny_throw ?_))
  refine wpAny_bind (wpAny_isInstance (T := "StopIteration") (b := true) ⟨_, Heap.get?_push_size _ rfl, rfl⟩ isSubtype_stop ?_)
  exact wpAny_pure (hQ _ (((Heap.SameBut.update ..).extBut.push _).push _) ⟨_, Heap.get?_push_of_some _ (Heap.get?_push_of_some _ (Heap.get?_update_self _ ho (Obj.isFreed_of_fields (Obj.data_mapFields hd _))))⟩)
end
/-- at it an iterator over the tuple at t, the next place is i -/
def ItT (t it : Addr) (i : Nat) : HO := .ext fun h => h.IsTupleIter it t i
/-- at it something that is no longer of use -/
def ItX (it : Addr) : HO := .ext fun h => ∃ o, h.get? it = some o
theorem itT_ok {P : Program} {w : World} {H : Hp} {h : Heap} {t it : Addr} {i : Nat} (e : h.IsTupleIter it t i) : ObjOk P w H h it (ItT t it i) := ⟨e, let ⟨o, ho, _⟩ := e; ⟨o, ho⟩, fun h1 h2 q k => Heap.IsTupleIter.at q k⟩
theorem itX_ok {P : Program} {w : World} {H : Hp} {h : Heap} {it : Addr} (e : ∃ o, h.get? it = some o) : ObjOk P w H h it (ItX it) := ⟨e, e, fun h1 h2 q k => let ⟨o, ho⟩ := q; ⟨o, k o ho⟩⟩
section
variable {X : Cx} {pins : List (Addr × Obj)} {σ : St} {H : Hp} {s : Shared} {t it l : Addr} {i : Nat} {zs : List V}
theorem itT_get (I : Inv X pins σ H s) (e : H it = some (ItT t it i)) : s.heap.IsTupleIter it t i := (I.hok it _ e).1
def rIterT (K : PySem.W.Frag) : List V → Hp → VK → Prop := fun xs H Q => ∃ (t : Addr) (zs : List V), xs = [.ref t] ∧ SqT K H t zs ∧ ∀ it, H it = none → Q (.ref it) (upd H it (ItT t it 0))
theorem call_iterT : CallR X (.builtin "iter") (rIterT X.K) := by
  intro pins s σ H xs us Q I r h
  obtain ⟨t, zs, rfl, hq, q⟩ := h
  obtain rfl := Vals.ref1 r
  obtain ⟨its, rv, pl, hz⟩ := I.tuple hq
  refine gb_iter_tuple (show s.heap.IsTuple t its.toArray from pl) ?_
  exact ⟨.ref s.heap.objs.size, _, I.laid (t' := s.toks) (fun b u e => Heap.get?_push_of_some _ e) (Nat.le_refl _) (itT_ok ⟨_, Heap.get?_push_size _ rfl, rfl, rfl⟩), rfl, q _ (I.hok.fresh (Nat.le_refl _))⟩
theorem upd_swap {a b : Addr} {o u : HO} (h : a ≠ b) : upd (upd H a o) b u = upd (upd H b u) a o := by
  funext c
  by_cases ha : c = a
  · subst ha; rw [upd_ne h, upd_same, upd_same]
  · rw [upd_ne ha]
    by_cases hb : c = b
    · subst hb; rw [upd_same, upd_same]
    · rw [upd_ne hb, upd_ne hb, upd_ne ha]
end
section
variable {X : Cx} {k k2 : Nat} {fi fl C : Addr} {fd fd2 : FuncData} {ps ps2 : List Str} {spI spL : Sp}
end
end L2
namespace L2
open PySem PySem.Spec PyProof.Rows StX
/-- zip of two tuples -/
theorem walk_zipT {K : PySem.W.Frag} {a b : Addr} {xs ys : List V} {n : Nat} (hn : n = min xs.length ys.length) : Walk (RZ.ItzT K a b) n (fun H => SqT K H a xs ∧ SqT K H b ys) (YPair (fun i => xs[i]?) (fun i => ys[i]?)) := by
  subst hn
  refine ⟨fun i _ hi q => ?_, fun _ q => ⟨xs, ys, q.1, q.2, by omega⟩, fun i H v H' _ q y => ?_⟩
  · have h1 : i < xs.length := by omega
    have h2 : i < ys.length := by omega
    exact ⟨xs, ys, xs[i], ys[i], q.1, q.2, by simp [h1], by simp [h2]⟩
  · obtain ⟨T, x, z, h1, h2, h3, h4, h5⟩ := y
    exact ⟨T, x, z, h1, h2, h3, h4 xs q.1, h5 ys q.2⟩
theorem pi_zipK {X : Cx} (K : PySem.W.Frag) {e e2 : Expr} {ta : TA} {p pos tpos : Pos} {elts : List Expr} {kk : Nat} (hg : Gl X "zip") (hm : X.mg "zip" = none) (ha : PA X [e, e2] ta) (hK : X.K = K := by rfl)
    (hs : starEach [e, e2] X.env = (false, eval e X.env) :: starEach [e2] X.env := by rfl) (hpl : (backTo pos (starEach [e2] X.env)).any (·.1) = false := by rfl) :
    PI X (.Tuple elts kk tpos) (.Call (.Name "zip" p) [e, e2] [] pos) (RZ.iZipA K ta) := hK ▸ RZ.pi_zipA hg hm ha hs hpl
section
variable {P : Program} {w : World} {K : PySem.W.Frag} {mg : Str → Option Value} {base : Heap}
/-- what a def with *args says of its arguments -/
def spStar (m : Nat) (sp : Sp) : Sp := fun vs H Q E => ∃ ws rest, vs = ws ++ rest ∧ ws.length = m ∧ rest.length ≤ sizeLine ∧ ∀ p, H p = Option.none → sp (ws ++ [V.ref p]) (upd H p (.tup rest)) Q E
theorem Fun.okStar {x qual : Str} {st : Stmt} {f : Addr} {fd : FuncData} {N : List Str} {p1 pv : Str} {k : Nat} {sp : Sp} (F : Fun K x qual st f fd) (S : FnScope N ([p1] ++ [pv]) (defScope st))
    (hb : ∀ (kV doc pm : Value) (an : Option Addr) (cdv ct : Value) (us rest : List Value), us.length = [p1].length → bindArgs (PySem.W.fnOf x qual (defArgs st) (defBody st) (defScope st) .none kV doc pm an cdv ct) ⟨us ++ rest, []⟩ = (newTuple rest >>= fun t => pure ([p1].zip us ++ [(pv, t)])))
    (hbody : ∀ (cdv : Value) (A : Around) (outer : List Env) (s : Shared) (H : Hp) (vs : List V) (Q : VK) (E : XK), Room k (A.deeper (envOfC qual (defScope st) s.heap.objs.size f cdv)) → sp vs H Q E →
      ∃ t, PSs (cxOf (L2.CX P w) P w K mg base N qual (defScope st) f cdv A outer s H E) (defBody st) t ∧ t { nx := fun _ H' => Q .non H', rt := Q } (start N vs) H) : FnR P w K mg base (L2.CX P w) (k + 1) f (spStar 1 sp) := by
  obtain ⟨oc, od, kV, doc, pm, an, cdv, ct, osl, rfl, lk, hcd⟩ := F.ex
  exact fn_star (ps := [p1]) (pv := pv) lk hcd S cxUp (hb kV doc pm an cdv ct) fun A outer s H vs Q E hr hsp => hbody cdv A outer s H vs Q E hr hsp
end
section
variable {X : Cx} {CX : CXT} {k : Nat} {f C : Addr} {fd : FuncData} {ps : List Str} {sp : Sp} {E : XK} {x : Str} {e : Expr} {es : List Expr} {te : TE} {t : TA} {p sp_ pos : Pos}
/-- C(*y) -/
def tMakeStar (K : PySem.W.Frag) (C : Addr) (sp : Sp) (E : XK) (te : TE) : TE := fun σ H Q => te σ H fun y H1 => ∃ a xs, y = V.ref a ∧ (SqT K H1 a xs ∨ SqL K H1 a xs) ∧ ∀ x dx, H1 x = Option.none → H1 dx = Option.none → dx ≠ x →
  sp (V.ref x :: xs) (upd (upd H1 dx (.own x)) x (.ins C dx [])) (fun v H2 => v = .non ∧ Q (.ref x) H2) E
theorem pe_makeStar (M : Mk X.K C f) (F : FnR X.prog X.w X.K X.mg X.base CX k f sp) (hr : Room (k + 1) X.A) (hg : Gl X x) (hm : X.mg x = some (.ref C)) (hx : Passes CX X E) (he : PE X e te) (hd : (x == ("__debug__" : Str)) = false := by decide)
    (hst : starEach [.Starred e sp_] X.env = [(true, eval e X.env)] := by rfl) : PE X (.Call (.Name x p) [.Starred e sp_] [] pos) (tMakeStar X.K C sp E te) := by
  refine ⟨fun pins s σ H Q I h => ?_⟩
  refine wpAny_Call_Name_kw (ld_glob I hg hm ?_ hd)
  refine PySem.W.callWith_S (h₀ := X.base) I.ok.mod.kin M.kp (thn (he.run pins s σ H _ I h) fun v s1 ⟨y, H1, I1, ry, a, xs, ey, hxs, q⟩ => ?_) hst
  subst ey
  obtain rfl : v = Value.ref a := ry
  exact star_any I1 hxs fun us s2 I2 rv => ⟨I2.kIn, run_makeR M F hr hx I2 rv q⟩
end
section
variable {X : Cx} {CX : CXT} {k : Nat} {f C : Addr} {fd : FuncData} {ps : List Str} {sp : Sp} {E : XK}
end
end L2
namespace L2
open PySem PySem.Spec PyProof.Rows StX
theorem call_iterTK {X : Cx} (K : PySem.W.Frag) (hK : X.K = K := by rfl) : CallR X (.builtin "iter") (rIterT K) := hK ▸ call_iterT
theorem dpInts {K : PySem.W.Frag} {H : Hp} : ∀ xs : List Int, DpAll K H (xs.map V.int) (xs.map PyData.int)
  | [] => .nil
  | x :: xs => .cons (.int x) (dpInts xs)
theorem eqvInts : ∀ xs ys : List Int, PyData.eqvAll (xs.map PyData.int) (ys.map PyData.int) = decide (xs = ys)
  | [], [] => by simp [PyData.eqvAll]
  | [], _ :: _ => by simp [PyData.eqvAll]
  | _ :: _, [] => by simp [PyData.eqvAll]
  | x :: xs, y :: ys => by
    simp only [List.map_cons, PyData.eqvAll, eqvInts xs ys, PyData.eqv]
    simp [List.cons.injEq, Bool.decide_and]
    rfl
theorem eqvT (xs ys : List Int) : PyData.eqv (.tuple (xs.map PyData.int)) (.tuple (ys.map PyData.int)) = decide (xs = ys) := by simp only [PyData.eqv]; exact eqvInts xs ys
theorem eqvL (xs ys : List Int) : PyData.eqv (.list (xs.map PyData.int)) (.list (ys.map PyData.int)) = decide (xs = ys) := by simp only [PyData.eqv]; exact eqvInts xs ys
theorem layInts : ∀ xs : List Int, PyData.canLayAll0 (xs.map PyData.int) = true
  | [] => rfl
  | x :: xs => by
    show (PyData.canLay0 (PyData.int x) && PyData.canLayAll0 (xs.map PyData.int)) = true
    rw [layInts xs]; rfl
theorem depInts : ∀ xs : List Int, PyData.depthAll (xs.map PyData.int) = 0
  | [] => rfl
  | x :: xs => by
    simp only [List.map_cons, PyData.depthAll, depInts xs, PyData.depth]
    rfl
theorem shT (xs : List Int) : SeqAt.shaped (.tuple (xs.map PyData.int)) = true := by
  unfold SeqAt.shaped
  simp only [PyData.canLay0, PyData.depth, layInts, depInts]
  rfl
theorem shL (xs : List Int) : SeqAt.shaped (.list (xs.map PyData.int)) = true := by
  unfold SeqAt.shaped
  simp only [PyData.canLay0, PyData.depth, layInts, depInts]
  rfl
theorem same_put {H H' : Hp} {D : Addr} {o : HO} (s : Same H H') (h : H D = none) : Same H (upd H' D o) := fun b u e => by
  rw [upd_ne (fun z => by rw [z, h] at e; cases e)]
  exact s b u e
end L2
namespace L2
open PySem PySem.Spec PyProof.Rows StX
end L2
/-! plain mathematics: lowest terms, Euclid's steps -/
namespace L2
/-! ### Euclid -/
def Euc (a b i : Nat) : Prop := (i = 0 ∧ b < 2 ^ 200) ∨ (1 ≤ i ∧ b < a ∧ a * b * 2 ^ (i - 1) ≤ 2 ^ 400)
theorem Euc.turn {a b i : Nat} (h : Euc a b i) (hb : b ≠ 0) : Euc b (a % b) (i + 1) ∧ i ≤ 401 := by
  have hm : a % b < b := Nat.mod_lt _ (Nat.pos_of_ne_zero hb)
  rcases h with ⟨rfl, h⟩ | ⟨h1, h2, h3⟩
  · refine ⟨.inr ⟨Nat.le_refl _, hm, ?_⟩, Nat.zero_le _⟩
    show b * (a % b) * 2 ^ 0 ≤ 2 ^ 400
    have : b * (a % b) ≤ 2 ^ 200 * 2 ^ 200 := Nat.mul_le_mul (Nat.le_of_lt h) (Nat.le_of_lt (Nat.lt_trans hm h))
    rw [Nat.pow_zero, Nat.mul_one]
    rw [← Nat.pow_add] at this
    exact this
  · refine ⟨.inr ⟨by omega, hm, ?_⟩, ?_⟩
    · obtain ⟨j, rfl⟩ : ∃ j, i = j + 1 := ⟨i - 1, by omega⟩
      show b * (a % b) * 2 ^ (j + 1) ≤ 2 ^ 400
      have h2' : 2 * (a % b) ≤ a := by
        have e := Nat.div_add_mod a b
        have q : 1 ≤ a / b := Nat.div_pos (Nat.le_of_lt h2) (Nat.pos_of_ne_zero hb)
        have : b * 1 ≤ b * (a / b) := Nat.mul_le_mul_left _ q
        omega
      have e : b * (a % b) * 2 ^ (j + 1) = (b * (2 * (a % b))) * 2 ^ j := by
        rw [Nat.pow_succ, Nat.mul_comm (2 ^ j) 2, ← Nat.mul_assoc, Nat.mul_assoc b, Nat.mul_comm (a % b) 2]
      rw [e]
      refine Nat.le_trans (Nat.mul_le_mul_right _ (Nat.mul_le_mul_left b h2')) ?_
      rw [Nat.mul_comm b a]
      exact h3
    · have : 1 * 1 * 2 ^ (i - 1) ≤ a * b * 2 ^ (i - 1) := Nat.mul_le_mul_right _ (Nat.mul_le_mul (by omega) (by omega))
      simp only [Nat.one_mul] at this
      have q : i - 1 ≤ 400 := (Nat.pow_le_pow_iff_right (by decide)).mp (Nat.le_trans this h3)
      omega
end L2
namespace L2
open PySem PySem.Spec PyProof.Rows StX
theorem upd_fr {H : Hp} {p q : Addr} {o u : HO} (e : H q = some u) (hp : H p = none) : upd H p o q = some u := by rw [upd_ne (ne_of_none e hp)]; exact e
theorem upd_df {H : Hp} {p q : Addr} {o u : HO} (e : H q = some u) (n : q ≠ p) : upd H p o q = some u := by rw [upd_ne n]; exact e
theorem none_ne {H : Hp} {a b : Addr} {o : HO} (h' : H b = none) (h : H a = some o) : a ≠ b := ne_of_none h h'
theorem same_nw {H H' : Hp} {p : Addr} {o : HO} (s : Same H H') (h : H' p = none) : Same H (upd H' p o) := s.trans (same_new h)
theorem but_nw {q : Addr} {H H' : Hp} {p : Addr} {o : HO} (s : SameBut q H H') (h : H' p = none) : SameBut q H (upd H' p o) := s.trans (same_new h).but
theorem but_own {p : Addr} {H H' : Hp} {o : HO} (s : SameBut p H H') : SameBut p H (upd H' p o) := s.trans sameBut_upd
theorem put_but {p D : Addr} {H0 H' : Hp} {o : HO} (s : SameBut p H0 H') (hD : H0 D = none) : SameBut p H0 (upd H' D o) := fun b u n e => by
  rw [upd_ne (fun z => by rw [z, hD] at e; cases e)]
  exact s b u n e
theorem iteB {c : Bool} {A B : Prop} (h1 : c = true → A) (h2 : c = false → B) : if c = true then A else B := by
  cases c with
  | true => rw [if_pos rfl]; exact h1 rfl
  | false => rw [if_neg (by decide)]; exact h2 rfl
theorem eq_int {a b : Int} (h : V.int a = V.int b) : a = b := by injection h
theorem ne_int {a b : Int} (h : ¬ V.int a = V.int b) : ¬ a = b := fun e => h (by rw [e])
theorem iteI {a b : Int} {A B : Prop} (h1 : a = b → A) (h2 : ¬ a = b → B) : if decide (V.int a = V.int b) = true then A else B := iteD (fun e => h1 (eq_int e)) fun e => h2 (ne_int e)
theorem iteIN {a b : Int} {A B : Prop} (h1 : ¬ a = b → A) (h2 : a = b → B) : if (!decide (V.int a = V.int b)) = true then A else B := iteDN (fun e => h2 (eq_int e)) fun e => h1 (ne_int e)
theorem lc_put {H H' : Hp} {D : Addr} {vs : List V} {i : Nat} {v : V} (hD : H D = none) (s : Same H H') (e : H' D = some (.lst (vs.take i))) (hv : vs[i]? = some v) (hz : vs.length ≤ 1000) :
    ∃ acc, H' D = some (.lst acc) ∧ acc.length < sizeLine ∧ (Same H (upd H' D (.lst (acc ++ [v]))) ∧ upd H' D (.lst (acc ++ [v])) D = some (.lst (vs.take (i + 1)))) := by
  refine ⟨_, e, by rw [sizeLine_eq, List.length_take]; omega, same_put s hD, ?_⟩
  rw [upd_same, List.take_succ, hv]
  rfl
theorem take_all {vs : List V} {n : Nat} (h : vs.length ≤ n) : vs.take n = vs := List.take_of_length_le h
end L2
namespace L2
open PySem PySem.Spec PyProof.Rows StX
theorem lc_end {H' : Hp} {D : Addr} {vs : List V} {i : Nat} {v : V} (hv : vs[i]? = some v) : upd H' D (.lst (vs.take i ++ [v])) D = some (.lst (vs.take (i + 1))) := by
  rw [upd_same, List.take_succ, hv]
  rfl
theorem at_int {xs : List Int} {i : Nat} {z : Int} (h : xs[i]? = some z) : atI (xs.map V.int) ((0 : Int) + (i : Nat)) = some (.int z) := by
  rw [Int.zero_add]; exact atI_nat (by rw [List.getElem?_map, h]; rfl)
end L2
namespace L2
open PySem PySem.Spec PyProof.Rows StX
theorem flat_str (ns : List Str) : (ns.map V.str).all flatV = true := by
  rw [List.all_eq_true]; intro v hv; obtain ⟨z, _, rfl⟩ := List.mem_map.mp hv; rfl
theorem flat_int (ns : List Int) : (ns.map V.int).all flatV = true := by
  rw [List.all_eq_true]; intro v hv; obtain ⟨z, _, rfl⟩ := List.mem_map.mp hv; rfl
theorem inV_strs (x : Str) : ∀ ns : List Str, inV (.str x) (ns.map V.str) = decide (x ∈ ns)
  | [] => rfl
  | n :: ns => by
    have ih := inV_strs x ns
    unfold inV at *
    rw [List.map_cons, List.any_cons, ih]
    by_cases h : x = n
    · subst h
      simp [eqV]
    · have : decide (x ∈ n :: ns) = decide (x ∈ ns) := by simp [h]
      rw [this]
      have e : eqV (.str n) (.str x) = false := by
        simp [eqV]
        intro hh; exact h hh.symm
      first
      | rw [e, Bool.false_or]
      | (have e2 : eqV (.str x) (.str n) = false := by
          simp [eqV]
          exact h
         rw [e2, Bool.false_or])
end L2
namespace L2
open PySem PySem.Spec PyProof.Rows StX
theorem inV_kv (x : Str) (ns : List Str) : inV (kV (Sum.inr x)) (ns.map V.str) = decide (x ∈ ns) := inV_strs x ns
end L2
namespace L2
open PySem PySem.Spec PyProof.Rows StX
theorem dpStrs {K : PySem.W.Frag} {H : Hp} : ∀ xs : List Str, DpAll K H (xs.map V.str) (xs.map PyData.str)
  | [] => .nil
  | x :: xs => .cons (.str x) (dpStrs xs)
theorem eqvStrs : ∀ xs ys : List Str, PyData.eqvAll (xs.map PyData.str) (ys.map PyData.str) = decide (xs = ys)
  | [], [] => by simp [PyData.eqvAll]
  | [], _ :: _ => by simp [PyData.eqvAll]
  | _ :: _, [] => by simp [PyData.eqvAll]
  | x :: xs, y :: ys => by
    simp only [List.map_cons, PyData.eqvAll, eqvStrs xs ys, PyData.eqv]
    by_cases h : x = y
    · subst h; simp
    · simp [h]
theorem eqvSL (xs ys : List Str) : PyData.eqv (.list (xs.map PyData.str)) (.list (ys.map PyData.str)) = decide (xs = ys) := by simp only [PyData.eqv]; exact eqvStrs xs ys
theorem eqvST (xs ys : List Str) : PyData.eqv (.tuple (xs.map PyData.str)) (.tuple (ys.map PyData.str)) = decide (xs = ys) := by simp only [PyData.eqv]; exact eqvStrs xs ys
theorem eqvSL0 (xs : List Str) : PyData.eqv (.list (xs.map PyData.str)) (.list []) = decide (xs = []) := eqvSL xs []
theorem layStrs : ∀ xs : List Str, (∀ s ∈ xs, PyData.strOk s = true) → PyData.canLayAll0 (xs.map PyData.str) = true
  | [], _ => rfl
  | x :: xs, h => by
    show (PyData.strOk x && PyData.canLayAll0 (xs.map PyData.str)) = true
    rw [layStrs xs (fun s hs => h s (List.mem_cons_of_mem _ hs)), h x List.mem_cons_self]; rfl
theorem depStrs : ∀ xs : List Str, PyData.depthAll (xs.map PyData.str) = 0
  | [] => rfl
  | x :: xs => by
    simp only [List.map_cons, PyData.depthAll, depStrs xs, PyData.depth]
    rfl
theorem shSL {xs : List Str} (h : ∀ s ∈ xs, PyData.strOk s = true) : SeqAt.shaped (.list (xs.map PyData.str)) = true := by
  unfold SeqAt.shaped
  simp only [PyData.canLay0, PyData.depth, layStrs xs h, depStrs]
  rfl
theorem shST {xs : List Str} (h : ∀ s ∈ xs, PyData.strOk s = true) : SeqAt.shaped (.tuple (xs.map PyData.str)) = true := by
  unfold SeqAt.shaped
  simp only [PyData.canLay0, PyData.depth, layStrs xs h, depStrs]
  rfl
end L2
namespace L2
open PySem PySem.Spec PyProof.Rows StX
end L2
namespace L2
open PySem PySem.Spec PyProof.Rows StX
theorem but_free {p q : Addr} {H H' : Hp} (s : SameBut p H H') (n : q ≠ p) (h : H' q = none) : H q = none := by
  cases e : H q with
  | none => rfl
  | some o => rw [s q o n e] at h; cases h
end L2
namespace L2
open PySem PySem.Spec PyProof.Rows StX
end L2
namespace L2
open PySem PySem.Spec PyProof.Rows StX
end L2
namespace L2
open PySem PySem.Spec PyProof.Rows StX
theorem eqv00 : PyData.eqv (.list []) (.list []) = true := by simp [PyData.eqv, PyData.eqvAll]
end L2
namespace L2
open PySem PySem.Spec PyProof.Rows StX
end L2
/-! notes: their trees, their texts, and what a reader from the left finds -/
namespace GN
open PySem TL
inductive N where
  | non
  | wrd (w : List Nat)
  | num (i : Int)
  | tup (ns : List N)
/-- the signs of an integer -/
def numT (i : Int) : List Nat := tl (Str.ofString (toString i))
mutual
def N.txt : N → List Nat
  | .non => [45]
  | .wrd w => w
  | .num i => numT i
  | .tup ns => 40 :: (N.txts ns ++ [41])
def N.txts : List N → List Nat
  | [] => []
  | n :: ns => N.txt n ++ N.more ns
def N.more : List N → List Nat
  | [] => []
  | n :: ns => 32 :: (N.txt n ++ N.more ns)
end
mutual
def N.sz : N → Nat
  | .non => 1
  | .wrd _ => 1
  | .num _ => 1
  | .tup ns => 1 + N.szs ns
def N.szs : List N → Nat
  | [] => 0
  | n :: ns => N.sz n + N.szs ns
end
def wcs : List Nat := tl (Str.ofString "abcdefghijklmnopqrstuvwxyz0123456789-:")
def lets : List Nat := tl (Str.ofString "abcdefghijklmnopqrstuvwxyz")
def digs : List Nat := tl (Str.ofString "0123456789")
def WOk (w : List Nat) : Prop := w.length ≤ 24 ∧ ∃ c r, w = c :: r ∧ c ∈ lets ∧ ∀ d ∈ r, d ∈ wcs
mutual
def N.ok : N → Prop
  | .non => True
  | .wrd w => WOk w
  | .num i => i.natAbs < 10 ^ 200
  | .tup ns => N.oks ns
def N.oks : List N → Prop
  | [] => True
  | n :: ns => N.ok n ∧ N.oks ns
end
theorem lets_wcs {c : Nat} (h : c ∈ lets) : c ∈ wcs := by
  have : ∀ c ∈ lets, c ∈ wcs := by decide +kernel
  exact this c h
theorem WOk.all {w : List Nat} (h : WOk w) : ∀ d ∈ w, d ∈ wcs := by
  obtain ⟨_, c, r, rfl, hc, hr⟩ := h
  intro d hd
  rcases List.mem_cons.mp hd with e | hd
  · rw [e]; exact lets_wcs hc
  · exact hr d hd
/-! ### the integer's signs -/
/-! ### a reader from the left -/
inductive R where
  | bad (i : Nat)
  | got (n : N) (i : Nat)
def isN (t : List Nat) (i : Nat) : Bool := match t[i]? with
  | some c => decide (49 ≤ c ∧ c ≤ 57)
  | none => false
def run (cs : List Nat) (most : Nat) (t : List Nat) (i : Nat) : Nat := i + (((t.drop i).take most).takeWhile fun c => decide (c ∈ cs)).length
def val (w : List Nat) : Int := (intText? ⟨w.toArray⟩).getD 0
/-! ### what it finds in a text -/
def Delim (s : List Nat) : Prop := s = [] ∨ (∃ r, s = 32 :: r) ∨ ∃ r, s = 41 :: r
theorem at_zero (pre : List Nat) (c : Nat) (l : List Nat) : (pre ++ c :: l)[pre.length]? = some c := by
  rw [List.getElem?_append_right (Nat.le_refl _), Nat.sub_self]; rfl
theorem Delim.out {s : List Nat} (h : Delim s) : s = [] ∨ ∃ c r, s = c :: r ∧ c ∉ wcs ∧ c ∉ digs ∧ (49 ≤ c ∧ c ≤ 57 → False) := by
  rcases h with h | ⟨r, h⟩ | ⟨r, h⟩
  · exact .inl h
  · exact .inr ⟨32, r, h, by decide +kernel, by decide +kernel, by omega⟩
  · exact .inr ⟨41, r, h, by decide +kernel, by decide +kernel, by omega⟩
theorem Delim.w {s : List Nat} (h : Delim s) : s = [] ∨ ∃ c r, s = c :: r ∧ c ∉ wcs := by
  rcases h.out with h | ⟨c, r, h, a, _⟩
  · exact .inl h
  · exact .inr ⟨c, r, h, a⟩
theorem Delim.d {s : List Nat} (h : Delim s) : s = [] ∨ ∃ c r, s = c :: r ∧ c ∉ digs := by
  rcases h.out with h | ⟨c, r, h, _, a, _⟩
  · exact .inl h
  · exact .inr ⟨c, r, h, a⟩
theorem Delim.n {s pre : List Nat} (h : Delim s) : isN (pre ++ s) pre.length = false := by
  unfold isN
  rcases h.out with rfl | ⟨c, r, rfl, _, _, a⟩
  · rw [List.append_nil, List.getElem?_eq_none (Nat.le_refl _)]
  · rw [at_zero]; exact decide_eq_false a
/-! ### sizes -/
end GN
namespace GN
open PySem TL
end GN
namespace GN
open PySem TL
end GN
namespace GN
open PySem TL
end GN
/-! a classmethod: called off its class (in a try's body too), and the class made by the name that holds it; f'..' -/
namespace L2
open PySem PySem.Spec PyProof.Rows StX
section
variable {P : Program} {w : World} {K : PySem.W.Frag} {mg : Str → Option Value} {base : Heap} {CX : CXT} {k : Nat} {f : Addr} {sp : Sp}
theorem FnOk.toR {fd : FuncData} {ps : List Str} (F : FnOk P w K mg base CX k f fd ps sp) (hb : Binds K fd ps []) : FnR P w K mg base CX k f sp :=
  (F.raw hb .nil).imp fun vs H Q E h => by rw [List.append_nil]; exact h
end
section
variable {X : Cx} {CX : CXT} {k i : Nat} {f C p g q : Addr} {mc : Value} {fd : FuncData} {ps : List Str} {sp : Sp} {dvs : List V} {ds : List Value} {x m : Str} {pos apos xp : Pos} {e o : Expr} {es : List Expr} {ta : TE} {t : TA} {pl : Sem Bool}
end
end L2
namespace L2
open PySem PySem.Spec PyProof.Rows StX
theorem lc_txt {t : List Nat} {g : TG} {tt : TT} {te : TE} {vs : List Nat} {σ : St} {H1 : Hp} {D : Addr} {Qd : Hp → Prop} (Pv : Nat → Hp → Prop) (h0 : Pv 0 (upd H1 D (.lst [])))
    (hs : ∀ i c H, t[i]? = some c → Pv i H → g (.str ⟨#[c]⟩) (wipe σ vs) H fun σ2 H2 => wipe σ2 vs = wipe σ vs ∧ tt σ2 H2 fun b H3 =>
      if b = true then te σ2 H3 fun y H4 => ∃ acc, H4 D = some (.lst acc) ∧ acc.length < sizeLine ∧ Pv (i + 1) (upd H4 D (.lst (acc ++ [y]))) else Pv (i + 1) H3) (hd : ∀ H, Pv t.length H → Qd H) :
    ∃ W : Nat → Nat → Hp → Prop, (∃ m, W 0 m (upd H1 D (.lst []))) ∧ ∀ i m H, W i m H →
      ((Its (SX.S t)).stop i H ∧ Qd H) ∨ ((Its (SX.S t)).go i H ∧ ∃ Nx : Hp → Prop, (∀ H', Nx H' → ∃ m', m' < m ∧ W (i + 1) m' H') ∧ ∀ x H', (Its (SX.S t)).yld i H x H' → g x (wipe σ vs) H' fun σ2 H2 => wipe σ2 vs = wipe σ vs ∧ tt σ2 H2 fun b H3 =>
        if b = true then te σ2 H3 fun y H4 => ∃ acc, H4 D = some (.lst acc) ∧ acc.length < sizeLine ∧ Nx (upd H4 D (.lst (acc ++ [y]))) else Nx H3) := by
  have hsz : (SX.S t).cps.size = t.length := by simp
  refine ⟨fun i m H => m = t.length - i ∧ i ≤ t.length ∧ Pv i H, ⟨t.length, by simp, Nat.zero_le _, h0⟩, ?_⟩
  rintro i m H ⟨rfl, hi, hP⟩
  by_cases h : i < t.length
  · refine .inr ⟨(show i < (SX.S t).cps.size by rw [hsz]; exact h), Pv (i + 1), fun H' hN => ⟨t.length - (i + 1), by omega, rfl, by omega, hN⟩, ?_⟩
    rintro v H' ⟨rfl, c, hc, rfl⟩
    exact hs i c H' (by simpa using hc) hP
  · have e : i = t.length := by omega
    subst e
    exact .inl ⟨(show (SX.S t).cps.size ≤ t.length by rw [hsz]; exact Nat.le_refl _), hd H hP⟩
end L2
namespace GR
open PySem TL GN SX NumText
/-- the text of a share -/
def txt (a b : Int) : List Nat := if b = 1 then numT a else numT a ++ 47 :: numT b
/-- the text without a sign at its head -/
def body (t : List Nat) : List Nat := if t[0]? = some 45 then t.drop 1 else t
/-! ### partition and split -/
/-! ### Euclid's steps, of numbers of fewer than 240 bits -/
def Eu (a b i : Nat) : Prop := (i = 0 ∧ b < 2 ^ 240) ∨ (1 ≤ i ∧ b < a ∧ a * b * 2 ^ (i - 1) ≤ 2 ^ 480)
theorem Eu.turn {a b i : Nat} (h : Eu a b i) (hb : b ≠ 0) : Eu b (a % b) (i + 1) ∧ i ≤ 481 := by
  have hm : a % b < b := Nat.mod_lt _ (Nat.pos_of_ne_zero hb)
  rcases h with ⟨rfl, h⟩ | ⟨h1, h2, h3⟩
  · refine ⟨.inr ⟨Nat.le_refl _, hm, ?_⟩, Nat.zero_le _⟩
    show b * (a % b) * 2 ^ 0 ≤ 2 ^ 480
    have : b * (a % b) ≤ 2 ^ 240 * 2 ^ 240 := Nat.mul_le_mul (Nat.le_of_lt h) (Nat.le_of_lt (Nat.lt_trans hm h))
    rw [Nat.pow_zero, Nat.mul_one]
    rw [← Nat.pow_add] at this
    exact this
  · refine ⟨.inr ⟨by omega, hm, ?_⟩, ?_⟩
    · obtain ⟨j, rfl⟩ : ∃ j, i = j + 1 := ⟨i - 1, by omega⟩
      show b * (a % b) * 2 ^ (j + 1) ≤ 2 ^ 480
      have h2' : 2 * (a % b) ≤ a := by
        have e := Nat.div_add_mod a b
        have q : 1 ≤ a / b := Nat.div_pos (Nat.le_of_lt h2) (Nat.pos_of_ne_zero hb)
        have : b * 1 ≤ b * (a / b) := Nat.mul_le_mul_left _ q
        omega
      have e : b * (a % b) * 2 ^ (j + 1) = (b * (2 * (a % b))) * 2 ^ j := by
        rw [Nat.pow_succ, Nat.mul_comm (2 ^ j) 2, ← Nat.mul_assoc, Nat.mul_assoc b, Nat.mul_comm (a % b) 2]
      rw [e]
      refine Nat.le_trans (Nat.mul_le_mul_right _ (Nat.mul_le_mul_left b h2')) ?_
      rw [Nat.mul_comm b a]
      exact h3
    · have : 1 * 1 * 2 ^ (i - 1) ≤ a * b * 2 ^ (i - 1) := Nat.mul_le_mul_right _ (Nat.mul_le_mul (by omega) (by omega))
      simp only [Nat.one_mul] at this
      have q : i - 1 ≤ 480 := (Nat.pow_le_pow_iff_right (by decide)).mp (Nat.le_trans this h3)
      omega
end GR
/-! texts of at most n signs, each a sign -/
namespace TX
open PySem PySem.Spec PyProof.Rows L2 SX
structure Tx (n : Nat) (z : Str) : Prop where
  len : z.length ≤ n
  ok : ∀ c ∈ TL.tl z, c < 0x110000
variable {n m k : Nat} {z y s : Str} {a b : Option Int} {l : List Str}
theorem Tx.up (h : Tx n z) (e : n ≤ m) : Tx m z := ⟨Nat.le_trans h.len e, h.ok⟩
theorem Tx.str (h : Tx n z) : PyData.strOk z = true := by
  show (z.cps.all fun c => decide (c < 0x110000)) = true
  rw [← Array.all_toList, List.all_eq_true]
  intro c hc
  exact decide_eq_true (h.ok c hc)
theorem sz (h : Tx n z) (g : Tx m y) (e : n + m ≤ 1000000) : z.length + y.length ≤ sizeLine := by
  have := h.len; have := g.len; rw [sizeLine_eq]; omega
/-- a list of n texts of at most m signs -/
structure Strs (H : Hp) (D : Addr) (n m : Nat) : Prop where
  ex : ∃ ws : List Str, H D = some (.lst (ws.map V.str)) ∧ ws.length = n ∧ ∀ z ∈ ws, Tx m z
theorem Strs.nil {H : Hp} {D : Addr} {m : Nat} : Strs (upd H D (.lst [])) D 0 m := ⟨[], upd_same, rfl, fun z h => absurd h List.not_mem_nil⟩
theorem Strs.push {H : Hp} {D : Addr} {n m : Nat} {ws : List Str} {z : Str} (hl : ws.length + 1 = n) (h : ∀ z ∈ ws, Tx m z) (g : Tx m z) : Strs (upd H D (.lst (ws.map V.str ++ [V.str z]))) D n m :=
  ⟨ws ++ [z], by rw [upd_same, List.map_append]; rfl, by rw [List.length_append]; exact hl, fun y hy => (List.mem_append.mp hy).elim (h y) fun e => by rw [List.mem_singleton.mp e]; exact g⟩
end TX
namespace L2
open PySem PySem.Spec PyProof.Rows
def rJoinK (K : PySem.W.Frag) : V → List V → Hp → VK → Prop := fun x xs H Q => ∃ a p, ∃ ys : List Str, x = .str a ∧ xs = [.ref p] ∧ (SqL K H p (ys.map V.str) ∨ SqT K H p (ys.map V.str)) ∧
      (ys.map (·.length)).sum + ys.length * a.length ≤ 16777216 ∧ Q (.str (Txt.join a ys)) H
theorem pe_joinK (K : PySem.W.Frag) {X : Cx} {o e : Expr} {to te : TE} {apos pos : Pos} (ho : PE X o to) (he : PE X e te) (hs : starEach [e] X.env = [(false, eval e X.env)] := by rfl) (hbase : attributeBase o "join" X.env (eval o X.env) = eval o X.env := by rfl) (hline : (apos.endLine == pos.line) = true := by rfl) (hK : X.K = K := by rfl) :
    PE X (.Call (.Attribute o "join" apos) [e] [] pos) (tM1 (rJoinK K) to te) := by
  subst hK
  exact pe_join ho he hs hbase hline
end L2
/-! enumerate of a list from a written number on -/
namespace L2
open PySem PySem.Spec PyProof.Rows
section
variable {M : Model} {A : Around} {E : Value → Shared → Prop} {s : Shared} {env : Env}
end
theorem pe_bmK (K : PySem.W.Frag) {X : Cx} {T : String} {name : Str} {id : String} {r : V → List V → Hp → VK → Prop} {o e : Expr} {es : List Expr} {to : TE} {t : TA} {apos cpos : Pos} (pa : PlainAttrs T) (slot : Slot T name id) (hty : typeOf (.builtin id) = pure (.type "method_descriptor")) (hm : MtR X id r) (ho : PE X o to) (ha : PA X (e :: es) t)
    (hbase : attributeBase o name X.env (eval o X.env) = eval o X.env := by rfl)
    (hfew : ((backTo cpos (starEach (e :: es) X.env)).all (fun x => !x.1) && (backToKw cpos (keywordEach [] X.env)).all (fun x => x.1.isSome)
      && decide ((e :: es).length + ([] : List Keyword).length + (if ([] : List Keyword).isEmpty then 0 else 1) < 30)) = true := by rfl)
    (hline : (apos.endLine == cpos.line) = true := by rfl) (hs : starEach (e :: es) X.env = (false, eval e X.env) :: starEach es X.env := by rfl) (hplain : (backTo cpos (starEach es X.env)).any (·.1) = false := by rfl) (hK : X.K = K := by rfl) :
    PE X (.Call (.Attribute o name apos) (e :: es) [] cpos) (tBM K T r to t) := by
  subst hK
  exact pe_bm pa slot hty hm ho ha hbase hfew hline hs hplain
theorem cut_whole {xs : List V} {lo hi : Option Int} (h : HT.sIx xs.length 0 lo = 0 ∧ HT.sIx xs.length xs.length hi = xs.length) : cutV xs lo hi = xs := by
  unfold cutV
  rw [h.1, h.2]
  simp
/-- t + u, wherever it stands -/
def rCatE : R2 := fun x y H Q => ∃ a b xs ys, x = .ref a ∧ y = .ref b ∧ H a = some (.tup xs) ∧ H b = some (.tup ys) ∧ xs.length + ys.length ≤ sizeLine ∧ ∀ p H', Same H H' → H' p = some (.tup (xs ++ ys)) → Q (.ref p) H'
theorem op_catE {X : Cx} : OpR X (binaryOp .Add) rCatE := by
  intro pins s σ H x y v u Q I rx ry ⟨a, b, xs, ys, ex, ey, ha, hb, hz, q⟩
  refine op_catA pins s σ H x y v u Q I rx ry ⟨a, b, xs, ys, ex, ey, SqT.of ha, SqT.of hb, hz, fun e => ?_, fun _ e => ?_, fun _ _ p hp => ?_⟩
  · subst e
    exact q b H (Same.refl _) (by rw [List.nil_append]; exact hb)
  · subst e
    exact q a H (Same.refl _) (by rw [List.append_nil]; exact ha)
  · exact q p _ (same_new hp) upd_same
/-- t[lo:hi], wherever it stands -/
def rSlE : V → Option Int → Option Int → Hp → VK → Prop := fun x lo hi H Q => ∃ a xs, x = .ref a ∧ H a = some (.tup xs) ∧ ∀ p H', Same H H' → H' p = some (.tup (cutV xs lo hi)) → Q (.ref p) H'
theorem sl_tupE {X : Cx} : SlR X rSlE := by
  intro pins s σ H x v vl vu lo hi sl Q I rx hs pl pu ⟨a, xs, ex, ha, q⟩
  exact sl_tupA pins s σ H x v vl vu lo hi sl Q I rx hs pl pu ⟨a, xs, ex, SqT.of ha, fun h => q a H (Same.refl _) (by rw [cut_whole h]; exact ha), fun _ p hp => q p _ (same_new hp) upd_same⟩
end L2
/-! enumerate of a tuple -/
namespace GE
open PySem PySem.Spec PySem.Calls PyProof.Rows
/-- enumerate(v): v begins as B tells -/
theorem meets_enum1 {v : Value} {o : Obj} {Hs : Heap → Prop} (B : Begins v o Hs) : Meets (Builtin.«enumerate.__new__» ⟨[.type "enumerate", v], []⟩) (fun _ R s => Hs s.heap ∧
    R (.ok (.ret (.ref (s.heap.push o).objs.size))) { s with heap := (s.heap.push o).push { cls := .type "enumerate", data := .fields #[.none, .bool false, .ref s.heap.objs.size, rawInt 0, .none, .none] } }) :=
  .of_wp fun prog w A R s h => by
    obtain ⟨hp, g, d, tk, os⟩ := s
    obtain ⟨h1, h⟩ := h
    have hsub := sub_enumerate
    have q1 : ∀ {A' : Around} {E : Value → Shared → Prop} {Q : Value → Shared → Prop}, Q (.ref hp.objs.size) ⟨hp.push o, g, d, tk, os⟩ → wpAny (model prog w) A' (pyIter v) Q E ⟨hp, g, d, tk, os⟩ :=
      fun q => B.iter prog w _ _ ⟨hp, g, d, tk, os⟩ _ h1 q
    wp_walk using q1
    refine wpAny_stack_any fun st => wpAny_pure ?_
    split
    · rename_i c _ _ _ _ _
      cases (c == Value.type "enumerate") <;> (wp_walk using q1; exact ⟨_, rfl, h⟩)
    · wp_walk using q1
      exact ⟨_, rfl, h⟩
theorem call_enum1 {prog : Program} {w : World} {A : Around} {E : Value → Shared → Prop} {s : Shared} {v : Value} {o : Obj} {Hs : Heap → Prop} {Q : Value → Shared → Prop} (B : Begins v o Hs) (h1 : Hs s.heap)
    (h : ∀ h', IsEnum h' (s.heap.objs.size + 1) s.heap.objs.size 0 .none → h'.get? s.heap.objs.size = some o → (∀ b o, s.heap.get? b = some o → h'.get? b = some o) → Q (.ref (s.heap.objs.size + 1)) { s with heap := h' }) : wpAny (model prog w) A (call (.type "enumerate") [v]) Q E s := by
  refine callType_new F.called_enumerate (by decide) (F.typeCall_enumerate_1 _) (F.newCall_enumerate_1 _) (fun obj => F.args_object_init_2 obj _) F.entry_enumerate_new (meets_enum1 B) ⟨h1, ?_⟩
  have hz : (s.heap.push o).objs.size = s.heap.objs.size + 1 := Heap.size_push ..
  show _ ∧ _
  rw [hz]
  have he : IsEnum ((s.heap.push o).push { cls := .type "enumerate", data := .fields #[.none, .bool false, .ref s.heap.objs.size, rawInt 0, .none, .none] }) (s.heap.objs.size + 1) s.heap.objs.size 0 .none := by
    have q := Heap.get?_push_size (s.heap.push o) (o := { cls := .type "enumerate", data := .fields #[.none, .bool false, .ref s.heap.objs.size, rawInt 0, .none, .none] }) rfl
    rw [hz] at q; exact q
  exact ⟨⟨_, he, rfl⟩, h _ he (Heap.get?_push_of_some _ (Heap.get?_push_size _ B.free)) fun b u x => Heap.get?_push_of_some _ (Heap.get?_push_of_some _ x)⟩
end GE
namespace L2
open PySem PySem.Spec PyProof.Rows GE
/-- the items of the tuple at a in new pairs, each behind its number -/
def ItET (K : PySem.W.Frag) (a : Addr) : It :=
  ⟨fun i H => ∃ (xs : List V) (x : V), SqT K H a xs ∧ xs[i]? = some x,
    fun i H v H' => ∃ (T : Addr) (x : V), v = .ref T ∧ H T = none ∧ H' = upd H T (.tup [.int (i : Int), x]) ∧ ∀ xs, SqT K H a xs → xs[i]? = some x,
    fun i H => ∃ xs : List V, SqT K H a xs ∧ i = xs.length⟩
theorem turn_ET {P : Program} {w : World} {K : PySem.W.Frag} {elts : List Expr} {kk : Nat} {tpos : Pos} {a e it : Addr} (hai : a ≠ it) (hei : e ≠ it) (hea : e ≠ a) :
    Turn P w K (.Tuple elts kk tpos) (ItET K a) [e, it] e (fun i h => (∃ old, IsEnum h e it (i : Int) old) ∧ h.IsTupleIter it a i) where
  mem := by simp
  obj := fun i h st c hc => by
    obtain ⟨⟨old, e1⟩, ⟨o, e2, _, d2⟩⟩ := st
    simp only [List.mem_cons, List.not_mem_nil, or_false] at hc
    rcases hc with r | r <;> rw [r]
    · exact ⟨_, e1, fun v z => nomatch z⟩
    · exact ⟨o, e2, fun v z => by rw [d2] at z; cases z⟩
  keep := fun i h h' st g => ⟨let ⟨old, e1⟩ := st.1; ⟨old, g e (by simp) _ e1⟩, st.2.at fun o q => g it (by simp) o q⟩
  item := by
    intro X hP hw hK hc i pins s σ H E I hf st hg
    subst hP hw hK
    obtain ⟨⟨old, he⟩, hi⟩ := st
    obtain ⟨xs, x, hq, hx⟩ := hg
    obtain ⟨its, rv, p, _⟩ := I.tuple hq
    obtain ⟨u, hu, ru⟩ := rv.get hx
    have hel : e < s.heap.objs.size := Heap.lt_size he
    have hil : it < s.heap.objs.size := by obtain ⟨_, q, _⟩ := hi; exact Heap.lt_size q
    have hlt : i < its.toArray.size := by
      have := (List.getElem?_eq_some_iff.mp hu).1
      simpa using this
    have D := Draws.tuple (prog := X.prog) (w := X.w) (A := X.A.in1) (I.ok.hd hc) it a hai its.toArray
    refine wpAny_pyNext_enum_itemC D he ⟨hi, p⟩ hlt hei (by simp [hei, hea]) fun y h' tk hy ho hs hT hsz hk => ?_
    have hy : its[i]? = some y := by simpa using hy
    rw [hu] at hy
    cases hy
    refine ⟨_, rfl, wpAny_letOwnedTupleGo_enum (s := { s with heap := h', toks := tk + 1 }) ho fun h'' he' sb => ?_⟩
    have hT2 : h''.get? s.heap.objs.size = some { cls := .type "tuple", data := .seq #[.int (i : Int) tk, u] } := (sb.2 _ (Nat.ne_of_gt hel)).trans hT
    have new : ObjOk X.prog X.w (upd H s.heap.objs.size (.tup [.int (i : Int), x])) h'' s.heap.objs.size (.tup [.int (i : Int), x]) :=
      ⟨by show 2 ≤ sizeLine; decide, [.int (i : Int) tk, u], .cons ⟨tk, rfl⟩ (.cons ru .nil), ⟨_, hT2, rfl, _, rfl⟩⟩
    have I1 : Inv X pins σ (upd H s.heap.objs.size (.tup [.int (i : Int), x])) { s with heap := h'', toks := tk + 1 } :=
      I.turnedNew (t' := tk + 1) (ch := [e, it]) (fun b o hb q => by
        simp only [List.mem_cons, List.not_mem_nil, or_false, not_or] at hb
        exact (sb.2 b hb.1).trans (hk b o hb.1 hb.2 q)) hf (Nat.le_refl _) new
    refine ⟨.ref s.heap.objs.size, _, I1, rfl, ⟨_, x, rfl, I.hok.fresh (Nat.le_refl _), rfl, fun ys hy => by rw [I.tuple_inj hy hq]; exact hx⟩, ⟨⟨u, ?_⟩, ?_⟩, fun b hb => ?_⟩
    · have e1 : ((i + 1 : Nat) : Int) = (i : Int) + 1 := by omega
      rw [e1]; exact he'
    · exact hs.1.at fun o q => (sb.2 it (Ne.symm hei)).trans q
    · have hb' : b < s.heap.objs.size := by
        simp only [List.mem_cons, List.not_mem_nil, or_false] at hb
        rcases hb with r | r <;> rw [r]
        · exact hel
        · exact hil
      rw [upd_ne (Nat.ne_of_lt hb')]
      exact (hf b hb).1
  done := by
    intro X hP hw hK hc i pins s σ H E I hf st hg
    subst hP hw hK
    obtain ⟨⟨old, he⟩, hi⟩ := st
    obtain ⟨xs, hq, hx⟩ := hg
    obtain ⟨its, rv, p, _⟩ := I.tuple hq
    have hl := rv.length
    have D := Draws.tuple (prog := X.prog) (w := X.w) (A := X.A.in1) (I.ok.hd hc) it a hai its.toArray
    have hn : its.toArray.size = i := by simp; omega
    obtain ⟨f0, f1, f2, f3, f4, f5⟩ := hf it (by simp)
    refine wpAny_pyNext_enum_endD D he (by rw [hn]; exact ⟨hi, p⟩) fun h' eb => ⟨rfl, I.turned (t' := s.toks) (fun b o hb q => eb b o hb q) f0 f1 f3 f4 f5⟩
  self := fun A i s Q E st h => let ⟨⟨_, he⟩, _⟩ := st; wpAny_pyIter_enum he h
def iEnumT (K : PySem.W.Frag) (ta : TA) : TI := fun σ H R => ta σ H fun vs H1 => ∃ (a : Addr) (xs : List V), vs = [.ref a] ∧ SqT K H1 a xs ∧ R (ItET K a) H1
theorem pi_enumT (K : PySem.W.Frag) {X : Cx} {e : Expr} {ta : TA} {p pos tpos : Pos} {elts : List Expr} {kk : Nat} (hg : Gl X "enumerate") (hm : X.mg "enumerate" = none) (ha : PA X [e] ta)
    (hs : starEach [e] X.env = (false, eval e X.env) :: starEach [] X.env := by rfl) (hpl : (backTo pos (starEach [] X.env)).any (·.1) = false := by rfl) (hK : X.K = K := by rfl) :
    PI X (.Tuple elts kk tpos) (.Call (.Name "enumerate" p) [e] [] pos) (iEnumT K ta) := by
  subst hK
  refine ⟨fun pins s σ H R I h => ?_⟩
  refine Call_ (ld_blt I hg hm boot_enumerate (PyProof.Rows.callWith_type1 (thn (ha.run pos pins s σ H _ I h) fun us s1 ⟨vs, H1, I1, r1, a, xs, ex, hq, q⟩ => ?_) hs hpl))
  subst ex
  cases r1 with
  | cons r rr =>
    cases rr
    cases r
    obtain ⟨its, rv, p', _⟩ := I1.tuple hq
    obtain ⟨oa, hoa, _⟩ := id p'
    have hal : a < s1.heap.objs.size := Heap.lt_size hoa
    refine call_enum1 (begins_tuple a its.toArray) p' fun h' hE hI hk => wpAny_pyIter_enum (s := { s1 with heap := h' }) hE ?_
    have I3 : Inv X pins σ H1 { s1 with heap := h' } := I1.kept (t' := s1.toks) hk
    refine ⟨s1.heap.objs.size + 1, [s1.heap.objs.size + 1, s1.heap.objs.size], _, _, H1, rfl, I3, turn_ET (a := a) (Nat.ne_of_lt hal) (Nat.succ_ne_self _) (Nat.ne_of_gt (Nat.lt_succ_of_lt hal)), ⟨⟨.none, hE⟩, ⟨_, hI, rfl, rfl⟩⟩, fun c hcm => ?_, q⟩
    have hle : s1.heap.objs.size ≤ c := by
      simp only [List.mem_cons, List.not_mem_nil, or_false] at hcm
      rcases hcm with r | r <;> rw [r]
      · exact Nat.le_add_right _ _
      · exact Nat.le_refl _
    exact I1.fpOk hle (I1.hok.fresh hle)
theorem walk_ET {K : PySem.W.Frag} {a : Addr} {xs : List V} : Walk (ItET K a) xs.length (fun H => SqT K H a xs)
    (fun i H v H' => ∃ (T : Addr) (x : V), v = .ref T ∧ H T = none ∧ H' = upd H T (.tup [.int (i : Int), x]) ∧ xs[i]? = some x) :=
  ⟨fun i _ hi q => ⟨xs, xs[i], q, by simp [hi]⟩, fun _ q => ⟨xs, q, rfl⟩, fun i H v H' _ q ⟨T, x, h1, h2, h3, h4⟩ => ⟨T, x, h1, h2, h3, h4 xs q⟩⟩
end L2
/-! a tuple times a number, the number 1 too -/
namespace L2
open PySem PySem.Spec PyProof.Rows
theorem tuple_once (l : Addr) (items : Array Value) (n : Nat) (dd : Option Addr) (sl : Array (Option Value)) (u : Tok) :
    Meets (Builtin.«tuple.__mul__» ⟨[.ref l, .int 1 u], []⟩) (fun _ R s => s.heap.get? l = some { cls := .type "tuple", dict := dd, data := .seq items n, slots := sl } ∧ R (.ok (.ret (Value.ref l))) s) :=
  .of_wp fun prog w A R s h => by
    obtain ⟨hp, g, d, tk, os⟩ := s
    obtain ⟨hl, h⟩ := h
    have f1 := AutoSeq1.idx_int
    have c1 : (items.isEmpty || (1 : Int) == 1) = true := by simp
    wp_walk using wpAny_loadPart' hl
    repeat (first
      | (refine wpAny_ite_true (by rw [c1]) ?_; wp_walk using wpAny_loadPart' hl)
      | (refine wpAny_ite_false (by decide) ?_; wp_walk using wpAny_loadPart' hl))
    exact ⟨_, rfl, h⟩
/-- t * k, k from 1 on: somewhere a tuple of so many times its items -/
def rRepE : R2 := fun x y H Q => ∃ l k xs, x = .ref l ∧ y = .int k ∧ H l = some (.tup xs) ∧ xs ≠ [] ∧ 1 ≤ k ∧ k ≤ 1000 ∧ xs.length ≤ 1000 ∧ ∀ p H', Same H H' → H' p = some (.tup (List.replicate k.toNat xs).flatten) → Q (.ref p) H'
theorem op_repE {X : Cx} : OpR X (binaryOp .Mult) rRepE := by
  intro pins s σ H x y v u Q I rx ry ⟨l, k, xs, ex, ey, hT, hne, h1, h2, hz, q⟩
  by_cases hk : 2 ≤ k
  · exact op_repT pins s σ H x y v u Q I rx ry ⟨l, k, xs, ex, ey, SqT.of hT, hne, hk, h2, hz, fun p hp => q p _ (same_new hp) upd_same⟩
  · obtain rfl : k = 1 := by omega
    subst ex ey
    cases rx
    obtain ⟨t, rfl⟩ := ry
    obtain ⟨its, r, ⟨⟨cls, dd, data, sl⟩, ho, hc, n, hd⟩, hs⟩ := I.tuple (SqT.of hT)
    simp only at hc hd
    subst hc hd
    refine wpAny_binaryOp_repeat_ref (T := "tuple") (U := "int") (by decide) ⟨_, ho, rfl⟩ (fun s' => typeIs_int s' 1 t) noFill_tuple_mul F.fills_int_mul F.slot_int_rmul repeat_tuple F.slot_int_index.lookup
      (call_meets F.slot_int_rmul (typeIs_int s 1 t) F.entry_int_rmul (F.args_int_rmul_2 _ _) (int_rmul_tuple 1 t l its.toArray n dd sl)
        ⟨ho, rfl, ⟨_, ho, rfl⟩, call_meets F.slot_tuple_mul ⟨_, ho, rfl⟩ F.entry_tuple_mul (F.args_tuple_mul_2 _ _) (tuple_once l its.toArray n dd sl t) ⟨ho, ?_⟩⟩)
    exact ⟨.ref l, H, I, rfl, q l H (Same.refl _) (by rw [hT]; simp)⟩
end L2
/-! len(set(t)) of a tuple of texts that are all different -/
namespace GS
open PySem PySem.Spec PyProof.Rows L2
section
variable {prog : Program} {w : World} {A : Around} {R : Result → Shared → Prop} {I : Addr} {fp wr : List Addr} {G : Array GenState → Array GenState → Prop} {n : Nat} {P : Nat → Value → Prop} {St : Nat → Shared → Prop}
theorem fill (W : WalksS prog w A.in1 I fp wr G n P St) (z : Addr) (hz : z ∉ fp) (xs : List Str) (hn : xs.length = n) (nd : xs.Nodup) (hb : n + 1 < scanBound) (hv : ∀ i v, P i v → ∃ x t, xs[i]? = some x ∧ v = .str x t) :
    ∀ (m i : Nat) (s : Shared), n - i = m → i ≤ n → St i s → s.heap.SetOf (PySem.strKind prog w) z (fun k => decide (k ∈ xs.take i)) i →
      (∀ s', Moved (z :: wr) G s s' → s'.heap.SetOf (PySem.strKind prog w) z (fun k => decide (k ∈ xs)) n → R (.ok (.ret .none)) s') →
      codeAny (model prog w) A (.builtin "set.update.loop" ⟨[.ref z, .ref I], []⟩) R s := by
  have zw : z ∉ wr := fun h => hz (W.sub _ h)
  have up : ∀ b ∈ wr, b ∈ z :: wr := fun b h => List.mem_cons_of_mem _ h
  intro m
  induction m with
  | zero =>
    intro i s e hi st hS k
    obtain rfl : i = n := by omega
    refine codeAny_builtin PyProof.Rows.F.entry_set_update_loop ?_
    rw [Around.under_plainId PyProof.Rows.F.plain_set_update_loop _]
    show wpAny _ A.in1 (pyNext (.ref I) >>= _) _ _ s
    refine wpAny_bind (W.done s _ _ st fun s2 hm => ?_)
    show wpAny _ A.in1 (ret Value.none) _ _ s2
    have e2 : xs.take i = xs := List.take_of_length_le (by omega)
    rw [e2] at hS
    refine wpAny_pure (k s2 (hm.mono up) ?_)
    obtain ⟨o, es, ep, t, ho, r⟩ := hS
    exact ⟨o, es, ep, t, hm.heap z _ zw ho, r⟩
  | succ m ih =>
    intro i s e hi st hS k
    have lt : i < n := by omega
    refine codeAny_builtin PyProof.Rows.F.entry_set_update_loop ?_
    rw [Around.under_plainId PyProof.Rows.F.plain_set_update_loop _]
    show wpAny _ A.in1 (pyNext (.ref I) >>= _) _ _ s
    refine wpAny_bind (W.item i s _ _ lt st fun v s2 hP st2 hm => ?_)
    obtain ⟨x, t, hx, rfl⟩ := hv i v hP
    have hS2 : s2.heap.SetOf (PySem.strKind prog w) z (fun k => decide (k ∈ xs.take i)) i := by
      obtain ⟨o, es, ep, tb, ho, r⟩ := hS
      exact ⟨o, es, ep, tb, hm.heap z _ zw ho, r⟩
    have new : x ∉ xs.take i := fun h => by
      obtain ⟨j, hj, ej⟩ := List.getElem_of_mem h
      rw [List.length_take] at hj
      rw [List.getElem_take] at ej
      obtain ⟨hi2, ei⟩ := List.getElem?_eq_some_iff.mp hx
      have := (List.getElem_inj (i := j) (j := i) (h₀ := by omega) (h₁ := hi2) nd).mp (by rw [ej, ei])
      omega
    show wpAny _ A.in1 (holding [Value.str x t] (setAdd z (.str x t)) >>= _) _ _ s2
    refine wpAny_bind (wpAny_holding ?_)
    unfold setAdd
    refine wpAny_holding ?_
    refine wpAny_bind ((PySem.strKind prog w).pyHash (k := x) (by simp [PySem.strKind, Value.isStrOf]) ?_)
    refine wpAny_setAddHashed_of (knd := PySem.strKind prog w) (s := { s2 with toks := s2.toks + 1 }) (by simp [PySem.strKind, Value.isStrOf]) rfl hS2 (by omega) fun h' sb hN => ?_
    have hN2 : h'.SetOf (PySem.strKind prog w) z (fun k => decide (k ∈ xs.take (i + 1))) (i + 1) := SetOf_congr hN (fun k => by
      rw [List.take_add_one, hx]
      simp [List.mem_append]) (by rw [decide_eq_false new]; simp)
    refine wpAny_pure ⟨plainId_quiet PyProof.Rows.F.plain_set_update_loop _, ih (i + 1) _ (by omega) lt (W.frame _ s2 _ _ st2 (Nat.le_succ _) fun b hb o q => ?_) hN2 fun s3 hm3 hS3 => ?_⟩
    · rw [sb.2 b (fun h : b = z => hz (by rw [← h]; exact hb))]; exact q
    · refine k s3 (Moved.trans W.gtrans ((hm.mono up).then_heap (Nat.le_succ _) fun b o hb q => ?_) hm3) hS3
      rw [sb.2 b (fun h : b = z => hb (by rw [h]; exact List.mem_cons_self))]; exact q
end
/-- the new, empty set -/
abbrev fresh (led : Bool) : Obj := { cls := .type "set", dict := none, data := .set #[] 0 (.fresh 0 0 led) }
section
variable {prog : Program} {w : World} {A : Around} {E : Value → Shared → Prop} {s : Shared}
theorem set_of_texts {l : Addr} {its : Array Value} (xs : List Str) {Q : Value → Shared → Prop} (hh : A.handled = none) (hl : s.heap.IsTuple l its) (hx : StrsAre its.toList xs) (nd : xs.Nodup) (room : xs.length + 1 < scanBound)
    (k : ∀ (h' : Heap) (tk : Nat), h'.SetOf (PySem.strKind prog w) s.heap.objs.size (fun x => decide (x ∈ xs)) xs.length → (∀ b o, s.heap.get? b = some o → h'.get? b = some o) → Q (.ref s.heap.objs.size) { s with heap := h', toks := tk }) :
    wpAny (model prog w) A (call (.type "set") [.ref l]) Q E s := by
  have hsz : xs.length = its.size := by rw [← StrsAre.len_eq hx, Array.length_toList]
  obtain ⟨c, tl, hmro⟩ := PySem.F.called_set.mro
  have y1 := PySem.F.called_set.made
  have y2 := PySem.F.called_set.sub
  have y3 := PySem.F.called_set.notType
  have y4 := PySem.F.called_set.canCreate
  have y5 := PySem.F.typeCall_set_1 (.ref l)
  refine wpAny_call (codeAny_of_tree ?_)
  show wpAny _ _ (callAny (.type "set") _) _ _ _
  refine wpAny_pure ⟨Code.quiet_builtin _ (by decide +kernel), codeAny_builtin PySem.F.entry_type_call ?_⟩
  rw [Around.under_plain (weight_type_call_type "set" [.ref l] []) rfl]
  repeat (any_goals (first | assumption | wp_step))
  refine codeAny_mono (code_set_new_1 (.ref l) (E := E) (Q₁ := fun u s1 => ∃ led : Bool, u = .ref s.heap.objs.size ∧ s1 = { s with heap := s.heap.push (fresh led) }) fun led => ⟨led, rfl, rfl⟩) fun r s1 hr => ?_
  cases r with
  | error e => exact hr
  | ok fl =>
    cases fl with
    | next => exact hr.elim
    | brk => exact hr.elim
    | cont => exact hr.elim
    | ret u =>
      obtain ⟨led, rfl, rfl⟩ := hr
      have at0 : (s.heap.push (fresh led)).get? s.heap.objs.size = some (fresh led) := Heap.get?_push_size _ rfl
      have ty0 : Shared.TypeIs { s with heap := s.heap.push (fresh led) } (.ref s.heap.objs.size) "set" := ⟨_, at0, rfl⟩
      have b1 := PySem.F.called_set.init.lookup
      have b2 := PySem.F.called_set.init.bind (.ref s.heap.objs.size)
      repeat (any_goals (first | assumption | wp_step))
      refine codeAny_mono (codeAny_call_builtin (R := wants (fun v s2 => v = .none ∧ ∃ h' tk, s2 = { s with heap := h', toks := tk } ∧ h'.SetOf (PySem.strKind prog w) s.heap.objs.size (fun x => decide (x ∈ xs)) xs.length ∧ (∀ b o, s.heap.get? b = some o → h'.get? b = some o)) E)
        PySem.F.called_set.init.plain PySem.F.entry_set_init (check_set_init_1 ty0 ?_)) fun r2 s2 hr2 => ?_
      · obtain ⟨⟨oc, od, ot, osl⟩, ho, hc, nl, hd⟩ := hl
        simp only at hc hd
        subst hc hd
        have ho1 : (s.heap.push (fresh led)).get? l = some { cls := .type "tuple", dict := od, data := .seq its nl, slots := osl } := Heap.get?_push_of_some _ ho
        have z1 := PySem.F.sub_tuple_set
        have z2 := PySem.F.sub_tuple_frozenset
        have z3 : (Value.type "tuple" == Value.type "dict") = false := by decide
        have hl1 : (s.heap.push (fresh led)).IsTuple l its := ⟨_, ho1, rfl, nl, rfl⟩
        unfold Builtin.«set.__init__» noKeywords Builtin.Frozenset.updateFrom
        generalize hp : pyIter = pI
        wp_walk
        subst hp
        refine wpAny_pyIter_tuple hl1 ?_
        refine wpAny_bind (wpAny_runValue ?_)
        have lo : l < s.heap.objs.size := Heap.lt_size ho
        have h3 : A.in1.in1.in1.handled = none := by simp [hh]
        have sz : (s.heap.push (fresh led)).objs.size = s.heap.objs.size + 1 := Heap.size_push ..
        have ne : l ≠ (s.heap.push (fresh led)).objs.size := by rw [sz]; exact Nat.ne_of_lt (Nat.lt_succ_of_lt lo)
        have nf : s.heap.objs.size ∉ [(s.heap.push (fresh led)).objs.size, l] := by
          rw [sz]
          simp only [List.mem_cons, List.not_mem_nil, or_false, not_or]
          exact ⟨Nat.ne_of_lt (Nat.lt_succ_self _), Nat.ne_of_gt lo⟩
        have hv : ∀ (i : Nat) (v : Value), its[i]? = some v → ∃ x t, xs[i]? = some x ∧ v = .str x t := fun i v e => by
          obtain ⟨t, ev⟩ := SS.strs_at hx i v (by rw [Array.getElem?_toList]; exact e)
          have hi : i < xs.length := by rw [hsz]; exact (Array.getElem?_eq_some_iff.mp e).1
          exact ⟨xs[i], t, List.getElem?_eq_getElem hi, by rw [ev, List.getD_eq_getElem?_getD, List.getElem?_eq_getElem hi]; rfl⟩
        refine fill ((Walks.tuple h3 _ l ne its).toS) s.heap.objs.size nf xs hsz nd (by rw [← hsz]; exact room) hv (its.size - 0) 0 _ (by omega) (Nat.zero_le _) ⟨⟨_, Heap.get?_push_size _ rfl, rfl, rfl⟩, hl1.push _⟩ ?g0 ?g1
        case g0 =>
          have at1 : ((s.heap.push (fresh led)).push { cls := .type "tuple_iterator", data := .fields #[.ref l, .int 0 0] }).get? s.heap.objs.size = some (fresh led) := Heap.get?_push_of_some _ at0
          exact SetOf_congr ((setObjOf_fresh (knd := PySem.strKind prog w) led).setOf at1 (by unfold scanBound; omega)) (fun _ => by simp) rfl
        case g1 =>
          intro s3 hm hS
          obtain ⟨h', g3, d3, tk, o3⟩ := s3
          obtain rfl : g3 = s.gens := hm.gens
          obtain rfl : d3 = s.drawn := hm.drawn
          obtain rfl : o3 = s.os := hm.os
          show wpAny _ _ _ _ _ _
          refine wpAny_pure ?_
          show wpAny _ _ (ret Value.none) _ _ _
          refine wpAny_pure ⟨rfl, h', tk, rfl, by rw [hsz]; exact hS, fun b o e => ?_⟩
          have hb : b < s.heap.objs.size := Heap.lt_size e
          refine hm.heap b o ?_ (Heap.get?_push_of_some _ (Heap.get?_push_of_some _ e))
          rw [sz]
          simp only [List.mem_cons, List.not_mem_nil, or_false, not_or]
          exact ⟨Nat.ne_of_lt hb, Nat.ne_of_lt (Nat.lt_succ_of_lt hb)⟩
      · cases r2 with
        | error e => exact hr2
        | ok fl2 =>
          cases fl2 with
          | ret v =>
            obtain ⟨rfl, h', tk, rfl, a1, a2⟩ := hr2
            repeat (any_goals (first | assumption | wp_step))
            exact k _ _ a1 a2
          | _ => exact hr2.elim
end
end GS
namespace L2
open PySem PySem.Spec PyProof.Rows GS
def tLenSetT (K : PySem.W.Frag) (ta : TE) : TE := fun σ H Q => ta σ H fun x H1 => ∃ (l : Addr) (xs : List Str), x = .ref l ∧ SqT K H1 l (xs.map V.str) ∧ xs.Nodup ∧ xs.length ≤ 40 ∧ Q (.int (xs.length : Nat)) H1
theorem pe_lenSetT (K : PySem.W.Frag) {X : Cx} {a : Expr} {ta : TE} {p p2 q pos : Pos} (hc : X.calm = true) (hg : Gl X "len") (hm : X.mg "len" = none) (hg2 : Gl X "set") (hm2 : X.mg "set" = none) (ha : PE X a ta)
    (na : starEach [a] X.env = (false, eval a X.env) :: starEach [] X.env := by rfl) (hK : X.K = K := by rfl) : PE X (.Call (.Name "len" p) [.Call (.Name "set" p2) [a] [] q] [] pos) (tLenSetT K ta) := by
  subst hK
  refine ⟨fun pins s σ H Q I h => ?_⟩
  refine Call_ (ld_blt I hg hm boot_len (PyProof.Rows.callWith_builtin1 (PyProof.Rows.args_cons (Call_ (ld_blt I hg2 hm2 boot_set (PyProof.Rows.callWith_type1 (PyProof.Rows.args_cons (thn (ha.run pins s σ H _ I h) fun v s1 ⟨x, H1, I1, r1, l, xs, ex, hq, nd, hz, q1⟩ => PyProof.Rows.args_nil ?_) na) na rfl))) rfl) rfl rfl))
  subst ex
  cases r1
  obtain ⟨its, r, pl, _⟩ := I1.tuple hq
  refine _root_.GS.set_of_texts xs (I1.ok.hd hc) pl (by simpa using strsAre_of r) nd (by unfold scanBound; omega) fun h' tk hS hk => PyProof.Rows.args_nil ?_
  have I2 : Inv X pins σ H1 { s1 with heap := h', toks := tk } := I1.kept hk
  obtain ⟨o, es, ep, t, ho, hex, hd, _, _, _, hf, hn⟩ := hS
  exact call_len_set ho hex hd hf (by rw [hn] <;> omega) ⟨.int (xs.length : Nat), H1, I2.tok _, ⟨_, by rw [hn]⟩, q1⟩
end L2
/-! a set comprehension whose members are ints; sorted of it -/
namespace L2
open PySem PySem.Spec PyProof.Rows PpSet
section
variable {X : Cx}
/-- z.add(y), z a set of ints -/
theorem addI_ok {pins : List (Addr × Obj)} {σ : L2.St} {H : Hp} {s : Shared} {E : Value → Shared → Prop} {z : Addr} {S : Int → Bool} {n : Nat} {y : Int} {tk : Tok} {Q : Value → Shared → Prop} (I : Inv X pins σ H s) (hz : H z = some (SetO X.w z S n)) (room : n + 1 < scanBound)
    (k : ∀ s', Inv X pins σ (upd H z (SetO X.w z (fun j => S j || decide (j = y)) (if S y = true then n else n + 1))) s' → Q .none s') : wpAny (model X.prog X.w) X.A (call (.builtin "set.add") [.ref z, .int y tk]) Q E s :=
  setR_add (setO_get I hz) room fun g sb new => k _ (I.write (e := z) (t' := s.toks + 1) (by rw [hz]; trivial) (.inl rfl) (fun b u ne hu => (sb.2 b ne).trans hu) (let ⟨o, _, _, _, ho, _⟩ := new; ⟨o, ho⟩) (setO_new new))
def tScI (w : World) (wi : TI) (g : TG) (tt : TT) (te : TE) (vs : List Nat) : TE := fun σ H Q => wi σ H fun J Ha => ∀ z, Ha z = none → ∃ W : Nat → Nat → Hp → Prop, (∃ m, W 0 m (upd Ha z (SetO w z (fun _ => false) 0))) ∧ ∀ i m Hb, W i m Hb →
  (J.stop i Hb ∧ Q (.ref z) Hb) ∨ (J.go i Hb ∧ ∃ Nx : Hp → Prop, (∀ Hc, Nx Hc → ∃ m', m' < m ∧ W (i + 1) m' Hc) ∧ ∀ x Hc, J.yld i Hb x Hc → g x (wipe σ vs) Hc fun σ2 Hd => wipe σ2 vs = wipe σ vs ∧ tt σ2 Hd fun b He =>
    if b = true then te σ2 He fun y Hf => ∃ (c : Int) (S : Int → Bool) (n : Nat), y = .int c ∧ Hf z = some (SetO w z S n) ∧ n + 1 < scanBound ∧ Nx (upd Hf z (SetO w z (fun j => S j || decide (j = c)) (if S c = true then n else n + 1))) else Nx He)
theorem pe_scI {elt tg iter : Expr} {ifs : List Expr} {sco : Scope} {own : List (PySem.Str × Nat)} {pos : Pos} {wi : TI} {g : TG} {tt : TT} {te : TE} (hc : X.calm = true) (nd : X.N.Nodup) (hi : PI X tg iter wi) (ok : BlkOk X.N X.env.scope sco own)
    (hg : ∀ (s : Shared) (H : Hp) (C : Addr) (cl : List (PySem.Str × Addr)) (fp : List Addr), PG (X.blk s H sco (compEnvC sco cl C X.env) fp) tg g) (ht : ∀ (s : Shared) (H : Hp) (C : Addr) (cl : List (PySem.Str × Addr)) (fp : List Addr), PTs (X.blk s H sco (compEnvC sco cl C X.env) fp) ifs tt)
    (he : ∀ (s : Shared) (H : Hp) (C : Addr) (cl : List (PySem.Str × Addr)) (fp : List Addr), PE (X.blk s H sco (compEnvC sco cl C X.env) fp) elt te) (hs : ∀ x, foldedSetIterable iter X.env x = pure x := by intro _; rfl) :
    PE X (.SetComp elt [⟨tg, iter, ifs, 0⟩] sco pos) (tScI X.w wi g tt te (own.map (·.2))) := by
  refine ⟨fun pins s σ H Q I h => ?_⟩
  rw [eval_SetComp]
  have frc : ∀ q ∈ sco.names, q.2 = .free → ∃ b, X.env.cells.lookup q.1 = some b := fun q hq e => (ok.free q hq e).elim (fun k => I.ok.has _ (.inl k)) fun k => I.ok.has _ (.inr k)
  refine wpAny_comprehension_free (use := none) rfl hs (closure_ok frc) ok.kind (fun q hq e => by rw [ok.uniq q hq, e]) (thn (hi.run pins s σ H _ I h) fun xv s1 hx => thn hx fun itv s2 h2 => ?_)
  obtain ⟨it, fp, tn, J, Ha, rfl, I2, T, stA, frA, q⟩ := h2
  refine newSet_ok (newEnv_comp ?_)
  generalize ez : s2.heap.objs.size = z
  have zn : Ha z = none := I2.hok.fresh (Nat.le_of_eq ez)
  obtain ⟨W, ⟨m0, w0⟩, turn⟩ := q z zn
  generalize e3 : ({ s2 with heap := s2.heap.push { cls := .type "set", dict := none, data := .set #[] 0 (.fresh 0 0 (!X.w.params.followText "set-order")) } } : Shared) = s3
  have g3 : s3.heap = s2.heap.push { cls := .type "set", dict := none, data := .set #[] 0 (.fresh 0 0 (!X.w.params.followText "set-order")) } := by rw [← e3]
  have I3 : Inv X pins σ (upd Ha z (SetO X.w z (fun _ => false) 0)) s3 := by
    rw [← e3, ← ez]
    exact I2.laid (t' := s2.toks) (fun b o e => Heap.get?_push_of_some _ e) (Nat.le_refl _) (setO_new (setR_fresh X.w))
  have small : ∀ b ∈ fp, b < s2.heap.objs.size := fun b hb => let ⟨o, e, _⟩ := T.obj _ _ stA b hb; Heap.lt_size e
  have frB : ∀ b ∈ fp, FpOk X pins (upd Ha z (SetO X.w z (fun _ => false) 0)) b ∧ b < s3.heap.objs.size := fun b hb => by
    have lt := small b hb
    refine ⟨⟨by rw [upd_ne (by rw [← ez]; exact Nat.ne_of_lt lt)]; exact (frA b hb).1, (frA b hb).2⟩, ?_⟩
    rw [g3, Heap.size_push]
    exact Nat.lt_succ_of_lt lt
  have stB : tn 0 s3.heap := T.keep _ _ _ stA fun b _ o e => by rw [g3]; exact Heap.get?_push_of_some _ e
  have I4 := block_start I3 ok nd frB
  have pg := hg s3 (upd Ha z (SetO X.w z (fun _ => false) 0)) s3.heap.objs.size (cellsFrom (s3.heap.objs.size + 1) sco.names (cloFrom X.env.cells sco.names [])) fp
  have pt := ht s3 (upd Ha z (SetO X.w z (fun _ => false) 0)) s3.heap.objs.size (cellsFrom (s3.heap.objs.size + 1) sco.names (cloFrom X.env.cells sco.names [])) fp
  have pv := he s3 (upd Ha z (SetO X.w z (fun _ => false) 0)) s3.heap.objs.size (cellsFrom (s3.heap.objs.size + 1) sco.names (cloFrom X.env.cells sco.names [])) fp
  have unt : ∀ b ∈ fp, (upd Ha z (SetO X.w z (fun _ => false) 0)) b = none := fun b hb => (frB b hb).1.1
  show codeAny _ _ (.compStart (.SetComp elt [⟨tg, iter, ifs, 0⟩] sco pos) 0 (.ref it) (.ref z) (compEnvC sco (cellsFrom (s3.heap.objs.size + 1) sco.names (cloFrom X.env.cells sco.names [])) s3.heap.objs.size X.env))
    (compPost (model X.prog X.w) X.A X.xe none (EP X pins σ Q) (.ref z) s3.heap.objs.size) { s3 with heap := pushCells (s3.heap.push { cls := .type "dict", data := .dict #[] }) sco.names }
  generalize ece : compEnvC sco (cellsFrom (s3.heap.objs.size + 1) sco.names (cloFrom X.env.cells sco.names [])) s3.heap.objs.size X.env = ce at I4 pg pt pv ⊢
  have loc : ce.locals = s3.heap.objs.size := by subst ece; rfl
  generalize eh : upd Ha z (SetO X.w z (fun _ => false) 0) = Hs at I3 I4 pg pt pv w0 unt frB
  generalize e4 : ({ s3 with heap := pushCells (s3.heap.push { cls := .type "dict", data := .dict #[] }) sco.names } : Shared) = s4 at I4 ⊢
  have stC : tn 0 s4.heap := T.keep _ _ _ stB fun b _ o e => by rw [← e4]; exact pushCells_keeps _ _ _ _ (Heap.get?_push_of_some _ e)
  have still : ∀ {σ' : L2.St} {H' : Hp} {s' : Shared}, Inv (X.blk s3 Hs sco ce fp) [] σ' H' s' → (∀ b ∈ fp, H' b = none) → ∀ b ∈ fp, FpOk (X.blk s3 Hs sco ce fp) [] H' b := by
    intro σ' H' s' J' hn b hb
    refine ⟨hn b hb, (J'.ok.exf b hb).1, J'.ok.exfs b hb, .inl hb, fun x c e => (J'.ok.exf b hb).2 x c e, fun p hp => ?_⟩
    exact absurd (show p ∈ ([] : List (Addr × Obj)) ++ [] from hp) (by simp)
  have go : codeAny (model X.prog X.w) X.A (.compLoop (.SetComp elt [⟨tg, iter, ifs, 0⟩] sco pos) 0 (.ref it) (.ref z) ce) (compPost (model X.prog X.w) X.A X.xe none (EP X pins σ Q) (.ref z) s3.heap.objs.size) s4 := by
    refine compLoopS_any (fun n s' => ∃ i H', Inv (X.blk s3 Hs sco ce fp) [] (wipe σ (own.map (·.2))) H' s' ∧ tn i s'.heap ∧ (∀ b ∈ fp, H' b = none) ∧ W i n H') ?_ m0 ⟨0, Hs, I4, stC, unt, w0⟩
    rintro n s5 ⟨i, H5, I5, st5, n5, w5⟩
    rcases turn i n H5 w5 with ⟨stp, fin⟩ | ⟨more, Nx, less, step⟩
    · refine thnF (T.done (X.blk s3 Hs sco ce fp) rfl rfl rfl hc i [] s5 _ H5 (fun _ _ => False) I5 (still I5 n5) st5 stp) fun r s6 ⟨er, I6⟩ => ?_
      subst er
      have I7 : Inv X pins σ H5 s6 := I3.call' (ch := fp) I6.os I6.base I6.hok I6.bare fun b hb => ⟨(frB b hb).1.2.2.2.1, (frB b hb).1.2.1, (frB b hb).1.2.2.2.2.1, (frB b hb).1.2.2.2.2.2⟩
      have nL : H5 s3.heap.objs.size = none := by rw [← loc]; exact I6.free
      obtain ⟨m, hn, _⟩ := I6.loc
      have hn : s6.heap.Ns s3.heap.objs.size m := by rw [← loc]; exact hn
      refine ⟨m, hn, fun h'' sb => ?_⟩
      obtain ⟨f0, f1, f2, f3, f4, f5⟩ := I3.fpOk (Nat.le_refl _) nL
      exact ⟨.ref z, H5, I7.turned (t' := s6.toks) (fun b o hb e => (sb.2 b hb).trans e) f0 f1 f3 f4 f5, rfl, fin⟩
    · refine thnF (T.item (X.blk s3 Hs sco ce fp) rfl rfl rfl hc i [] s5 _ H5 (fun _ _ => False) I5 (still I5 n5) st5 more) fun r s6 ⟨u, er, h6⟩ => ?_
      subst er
      refine thnF h6 fun _ s7 ⟨x, H7, I7, r7, y7, st7, n7⟩ => ?_
      refine thnF (pg.run _ s7 _ H7 x u _ (I7.pinned (still I7 n7) (T.obj _ _ st7)) r7 (step x H7 y7)) fun _ s8 ⟨σ8, H8, I8, same8, q8⟩ => ?_
      refine thnF (pt.run _ s8 σ8 H8 _ I8 q8) fun b s9 ⟨H9, I9, q9⟩ => ?_
      have back : ∀ {s' : Shared} {H' : Hp}, Inv (X.blk s3 Hs sco ce fp) ([] ++ pinsAt fp s7.heap) σ8 H' s' → Nx H' → ∃ m, m < n ∧ ∃ i H', Inv (X.blk s3 Hs sco ce fp) [] (wipe σ (own.map (·.2))) H' s' ∧ tn i s'.heap ∧ (∀ b ∈ fp, H' b = none) ∧ W i m H' := by
        intro s' H' J' nx
        obtain ⟨m', lt, w'⟩ := less H' nx
        have pinned : ∀ b ∈ fp, ∀ o, s7.heap.get? b = some o → s'.heap.get? b = some o ∧ H' b = none := fun b hb o e =>
          let y := J'.pin (b, o) (List.mem_append_right _ (List.mem_append_right _ (mem_pinsAt hb e)))
          ⟨y.1, y.2.1⟩
        have len : (wipe σ (own.map (·.2))).length = σ8.length := by rw [← same8, wipe_length]
        refine ⟨m', lt, i + 1, H', (J'.unpinned (pins := [])).weak len (fun j v e => by rw [← same8] at e; exact (wipe_some e).1), T.keep _ _ _ st7 fun b hb o e => (pinned b hb o e).1, fun b hb => ?_, w'⟩
        obtain ⟨o, e, _⟩ := T.obj _ _ st7 b hb
        exact (pinned b hb o e).2
      cases b with
      | false => exact back I9 (by simpa using q9)
      | true =>
        rw [if_pos rfl] at q9
        refine thnF (pv.run _ s9 σ8 H9 _ I9 q9) fun u2 s10 ⟨yv, Ht, I10, r10, c, S0, n0, ey, hz, room, nx⟩ => ?_
        subst ey
        obtain ⟨tk, rfl⟩ : ∃ tk, u2 = .int c tk := r10
        exact addI_ok (X := X.blk s3 Hs sco ce fp) I10 hz room fun s11 I11 => back I11 nx
  exact codeAny_compStart_set go (T.self X.A 0 _ _ _ stC go)
end
section
variable {J : It} {n : Nat} {G : Hp → Prop} {Y : Nat → Hp → V → Hp → Prop}
theorem sci_it {w : World} (wk : Walk J n G Y) {g : TG} {tt : TT} {te : TE} {vs : List Nat} {σ : L2.St} {Ha : Hp} {z : Addr} {Qd : Hp → Prop} (Pv : Nat → Hp → Prop) (h0 : Pv 0 (upd Ha z (SetO w z (fun _ => false) 0))) (hG : ∀ i H, i ≤ n → Pv i H → G H)
    (hs : ∀ i x H H', i < n → Pv i H → Y i H x H' → g x (wipe σ vs) H' fun σ2 H2 => wipe σ2 vs = wipe σ vs ∧ tt σ2 H2 fun b H3 =>
      if b = true then te σ2 H3 fun y H4 => ∃ (c : Int) (S : Int → Bool) (k : Nat), y = .int c ∧ H4 z = some (SetO w z S k) ∧ k + 1 < scanBound ∧ Pv (i + 1) (upd H4 z (SetO w z (fun j => S j || decide (j = c)) (if S c = true then k else k + 1))) else Pv (i + 1) H3) (hd : ∀ H, Pv n H → Qd H) :
    ∃ W : Nat → Nat → Hp → Prop, (∃ m, W 0 m (upd Ha z (SetO w z (fun _ => false) 0))) ∧ ∀ i m Hb, W i m Hb →
      (J.stop i Hb ∧ Qd Hb) ∨ (J.go i Hb ∧ ∃ Nx : Hp → Prop, (∀ Hc, Nx Hc → ∃ m', m' < m ∧ W (i + 1) m' Hc) ∧ ∀ x Hc, J.yld i Hb x Hc → g x (wipe σ vs) Hc fun σ2 Hd => wipe σ2 vs = wipe σ vs ∧ tt σ2 Hd fun b He =>
        if b = true then te σ2 He fun y Hf => ∃ (c : Int) (S : Int → Bool) (k : Nat), y = .int c ∧ Hf z = some (SetO w z S k) ∧ k + 1 < scanBound ∧ Nx (upd Hf z (SetO w z (fun j => S j || decide (j = c)) (if S c = true then k else k + 1))) else Nx He) := by
  refine ⟨fun i m H => m = n - i ∧ i ≤ n ∧ Pv i H, ⟨n, by simp, Nat.zero_le _, h0⟩, ?_⟩
  rintro i m H ⟨rfl, hi, p⟩
  by_cases lt : i < n
  · exact .inr ⟨wk.goes i H lt (hG i H hi p), Pv (i + 1), fun H' p' => ⟨n - (i + 1), by omega, rfl, lt, p'⟩, fun x H' y => hs i x H H' lt p (wk.yields i H x H' lt (hG i H hi p) y)⟩
  · obtain rfl : i = n := by omega
    exact .inl ⟨wk.stops H (hG i H hi p), hd H p⟩
end
theorem pi_enumL (K : PySem.W.Frag) {X : Cx} {e : Expr} {ta : TA} {p pos tpos : Pos} {elts : List Expr} {kk : Nat} (hg : Gl X "enumerate") (hm : X.mg "enumerate" = none) (ha : PA X [e] ta) (hs : starEach [e] X.env = [(false, eval e X.env)] := by rfl) (hK : X.K = K := by rfl) :
    PI X (.Tuple elts kk tpos) (.Call (.Name "enumerate" p) [e] [] pos) (iEnum K ta) := hK ▸ pi_enum hg hm ha hs
theorem sl_seqE {X : Cx} (K : PySem.W.Frag) (hK : X.K = K := by rfl) : SlR X (fun x lo hi H Q => rSlL K x lo hi H Q ∨ rSlE x lo hi H Q) := by subst hK; exact sl_list.or sl_tupE
theorem pe_makeStarK (K : PySem.W.Frag) {X : Cx} {CX : CXT} {k : Nat} {f C : Addr} {sp : Sp} {E : XK} {x : Str} {e : Expr} {te : TE} {p sp_ pos : Pos} (M : Mk X.K C f) (F : FnR X.prog X.w X.K X.mg X.base CX k f sp) (hr : Room (k + 1) X.A) (hg : Gl X x) (hm : X.mg x = some (.ref C)) (hx : Passes CX X E) (he : PE X e te) (hd : (x == ("__debug__" : Str)) = false := by decide)
    (hst : starEach [.Starred e sp_] X.env = [(true, eval e X.env)] := by rfl) (hK : X.K = K := by rfl) : PE X (.Call (.Name x p) [.Starred e sp_] [] pos) (tMakeStar K C sp E te) := hK ▸ pe_makeStar M F hr hg hm hx he hd hst
theorem cr_sumK (K : PySem.W.Frag) {X : Cx} (hc : X.calm = true) (hK : X.K = K := by rfl) : CallR X (.builtin "sum") (rSum K) := hK ▸ cr_sum hc
end L2
/-! a lambda with one parameter, the last of four arguments of a def that calls it -/
namespace GL
open PySem PySem.Spec PyProof.Rows L2
/-- its names: the parameter x, else captured ones and globals -/
structure LamP (sc sco : Scope) (x : Str) : Prop where
  kd : sco.kind = .function
  nco : sco.isCoroutine = false
  ngen : sco.isGenerator = false
  noc : ∀ q ∈ sco.names, q.2 ≠ .cell
  own : ∀ q ∈ sco.names, q.2 = .local → q.1 = x
  par : sco.names.lookup x = some .local
  out : ∀ q ∈ sco.names, q.2 = .free → sc.names.lookup q.1 = some .cell ∨ sc.names.lookup q.1 = some .free
  nfree : sco.names.lookup x ≠ some .free
def lamPB (sc sco : Scope) (x : Str) : Bool :=
  decide (sco.kind = .function) && !sco.isCoroutine && !sco.isGenerator && decide (sco.names.lookup x = some .local) &&
    sco.names.all fun q => !decide (q.2 = .cell) && (!decide (q.2 = .local) || decide (q.1 = x)) && (!decide (q.2 = .free) || decide (sc.names.lookup q.1 = some .cell) || decide (sc.names.lookup q.1 = some .free))
theorem lamP_of {sc sco : Scope} {x : Str} (h : lamPB sc sco x = true) : LamP sc sco x := by
  unfold lamPB at h
  simp only [Bool.and_eq_true, Bool.or_eq_true, Bool.not_eq_true', decide_eq_true_eq, decide_eq_false_iff_not, List.all_eq_true] at h
  obtain ⟨⟨⟨⟨a1, a2⟩, a3⟩, a4⟩, a5⟩ := h
  refine ⟨a1, a2, a3, fun q hq => (a5 q hq).1.1, fun q hq e => ?_, a4, fun q hq e => ?_, by rw [a4]; intro z; cases z⟩
  · rcases (a5 q hq).1.2 with z | z
    · exact absurd e z
    · exact z
  · rcases (a5 q hq).2 with (z | z) | z
    · exact absurd e z
    · exact .inl z
    · exact .inr z
theorem LamP.there {X : Cx} {sco : Scope} {x : Str} (L : LamP X.env.scope sco x) (ok : X.Ok) : ∀ q ∈ sco.names, q.2 = .free → ∃ b, X.env.cells.lookup q.1 = some b := fun q hq e =>
  ok.has _ (L.out q hq e)
/-- the context of its body: the maker's slots, and one more for the parameter -/
def lmCx (X : Cx) (A : Around) (ou : List Env) (s : Shared) (H : Hp) (E : XK) (sco : Scope) (f c : Addr) (x : Str) : Cx := { LamX.lamCx X A ou s H E sco f c with N := X.N ++ [x] }
section
variable {X : Cx} {pins : List (Addr × Obj)} {σ : L2.St} {H G : Hp} {s s1 : Shared}
/-- what stands when its body begins -/
theorem lm_start {A : Around} {ou : List Env} {E : XK} {sco : Scope} {f c : Addr} {g : Heap} {tk : Nat} {x : Str} {v : V} {u : Value} (I : Inv X pins σ H s) (L : LamP X.env.scope sco x) (nx : x ∉ X.N) (rv : RelV v u)
    (e0 : Env0 X.prog X.w X.K X.mg X.base A ou s1 G) (hd : A.handled = none) (un : Un (frs X.stack) [] H G s.heap s1.heap) (hn : g.Ns s1.heap.objs.size fun y => ([(x, u)] : List (Str × Value)).reverse.lookup y) (kp : ∀ b o, s1.heap.get? b = some o → g.get? b = some o) :
    Inv (lmCx X A ou s1 G E sco f c x) [] (σ ++ [some v]) G { s1 with heap := g, toks := tk } := by
  have frC := L.there I.ok
  have up : ∀ {y b}, (cloFrom X.env.cells sco.names []).lookup y = some b → X.env.cells.lookup y = some b := by
    intro y b e
    rcases cloFrom_mem (PySem.mem_of_lookup e) with hm | ⟨h1, h2⟩
    · cases hm
    · obtain ⟨b1, hb⟩ := frC _ h1 rfl
      have hb : X.env.cells.lookup y = some b1 := hb
      have e2 : b = b1 := by rw [h2, hb] <;> rfl
      rw [e2]; exact hb
  have dn : ∀ {y}, sco.names.lookup y = some .free → ∃ b, (cloFrom X.env.cells sco.names []).lookup y = some b := fun {y} hl =>
    mem_lookup (cloFrom_has (cells := X.env.cells) (acc := []) (show (y, NameKind.free) ∈ sco.names from PySem.mem_of_lookup hl))
  have ck : ∀ {b : Addr} {z : Option Value}, H b = none → s.heap.IsCell b z → g.IsCell b z := by
    rintro b z n ⟨o, ho, hz⟩
    obtain ⟨sl, q⟩ := un.any ho n (by simp)
    exact ⟨_, kp _ _ q, hz⟩
  have nope : ∀ b : Addr, b ∉ (lmCx X A ou s1 G E sco f c x).ex := fun b z => absurd (show b ∈ ([] : List Addr) from z) (by simp)
  have hN : (lmCx X A ou s1 G E sco f c x).N = X.N ++ [x] := rfl
  constructor
  · exact {
      mod := e0.mod
      kind := L.kd
      glob := rfl
      blt := rfl
      above := Nat.le_refl _
      inj := fun y z b e1 e2 => I.ok.inj y z b (up e1) (up e2)
      has := fun y hy => by
        have hy : sco.names.lookup y = some .cell ∨ sco.names.lookup y = some .free := hy
        rcases hy with hy | hy
        · exact absurd rfl (L.noc _ (PySem.mem_of_lookup hy))
        · exact dn hy
      cab := fun y b z _ => by
        have z : false = true := z
        cases z
      hd := fun _ => hd
      frames := Around.frames_deeper e0.frames
      stk := .inr ⟨rfl, rfl⟩
      exf := fun b z => absurd z (nope b)
      bs := e0.bs
      bsz := e0.bsz
      noex := fun b _ _ => nope b
      exfs := fun b z => absurd z (nope b)
      funs := e0.funs
      frf := e0.frf }
  · rfl
  · exact e0.bare
  · exact Un.kept kp
  · refine ⟨_, hn, fun i y w e1 e2 e3 => ?_⟩
    rw [hN] at e1
    have e3 : Vis sco y := e3
    by_cases hi : i < X.N.length
    · rw [List.getElem?_append_left hi] at e1
      rw [List.getElem?_append_left (by rw [I.len]; exact hi)] at e2
      rcases e3 with k | k | k
      · have : y = x := L.own _ (PySem.mem_of_lookup k) rfl
        exact absurd (by rw [← this]; exact List.mem_of_getElem? e1) nx
      · exact absurd rfl (L.noc _ (PySem.mem_of_lookup k))
      · obtain ⟨m, _, hl⟩ := I.loc
        have hv : Vis X.env.scope y := (L.out _ (PySem.mem_of_lookup k) rfl).elim (fun k => .inr (.inl k)) (fun k => .inr (.inr k))
        obtain ⟨w', r, q⟩ := hl i y w e1 e2 hv
        obtain ⟨b2, h2⟩ := dn k
        refine ⟨w', r, .inr ⟨.inr k, b2, h2, ?_⟩⟩
        have b1 := up h2
        rcases q with ⟨k', _⟩ | ⟨_, b3, e', z⟩
        · have k' : X.env.scope.names.lookup y = some .local := k'
          rcases L.out _ (PySem.mem_of_lookup k) rfl with k2 | k2
          · rw [show X.env.scope.names.lookup y = _ from k2] at k'; cases k'
          · rw [show X.env.scope.names.lookup y = _ from k2] at k'; cases k'
        · rw [b1] at e'
          cases e'
          exact ck (I.freeC y _ b1) z
    · have hl := I.len
      have hix : i = X.N.length := by
        have := (List.getElem?_eq_some_iff.mp e1).1
        rw [List.length_append, List.length_singleton] at this
        omega
      subst hix
      rw [List.getElem?_append_right (Nat.le_refl _), Nat.sub_self] at e1
      rw [List.getElem?_append_right (by omega), show X.N.length - σ.length = 0 by omega] at e2
      cases e1
      cases e2
      exact ⟨u, rv, .inl ⟨L.par, by simp [List.lookup]⟩⟩
  · intro y b e
    obtain ⟨z, hz⟩ := I.cell y b (up e)
    exact ⟨z, ck (I.freeC y b (up e)) hz⟩
  · exact e0.hok.fresh (Nat.le_refl _)
  · intro y b e
    obtain ⟨z, o, ho, _⟩ := I.cell y b (up e)
    exact un.free b o ho (I.freeC y b (up e)) (by simp)
  · exact fun q hq => absurd (show q ∈ ([] : List (Addr × Obj)) ++ [] from hq) (by simp)
  · exact e0.hok.kept kp
  · show (σ ++ [some v]).length = (X.N ++ [x]).length
    rw [List.length_append, List.length_append, I.len]; rfl
end
end GL
namespace GL
open PySem PySem.Spec PyProof.Rows L2
/-- the reading of a call of it by the name in slot i with one argument -/
def tAct (i : Nat) (f c : Addr) (q : Str) (te : TE) (tl : V → Hp → VK → Prop) : TE := fun σ H Q => σ[i]? = some (some (.ref f)) ∧ tCons te tNil σ H fun vs H1 => ∃ v, vs = [v] ∧ H1 c = some (LamX.CodeO c q) ∧ tl v H1 Q
section
variable {X : Cx} {pins : List (Addr × Obj)} {σ : L2.St} {H : Hp} {s : Shared}
theorem lm_act {CXg : CXT} {Eg E : XK} {Ng : List Str} {qg : Str} {sg : Scope} {g f c : Addr} {cdg pm ctv : Value} {prm : Arguments} {bd : Expr} {sco : Scope} {k i : Nat} {a x : Str} {te tb : TE} {e : Expr} {p1 p2 : Pos}
    (I : Inv X pins σ H s) (L : LamP X.env.scope sco x) (nx : x ∉ X.N) (hf : s.heap.get? f = some (PySem.W.kla_obj "<lambda>" (X.env.qual ++ "<lambda>") prm bd sco (cloFrom X.env.cells sco.names []) pm c ctv)) (hfn : H f = none) (hfr : f ∉ frs X.stack)
    (hbi : ∀ u : Value, bindArgs (PySem.W.kla_fn "<lambda>" (X.env.qual ++ "<lambda>") prm bd sco (cloFrom X.env.cells sco.names []) pm (.ref c) ctv) ⟨[u], []⟩ = pure [(x, u)])
    (pas : Passes (L2.CX X.prog X.w) (cxOf CXg X.prog X.w X.K X.mg X.base Ng qg sg g cdg X.A X.stack s H Eg) E) (hr : Room (k + 1) (X.A.deeper (envOfC qg sg s.heap.objs.size g cdg)))
    (hbody : ∀ (A : Around) (ou : List Env) (s : Shared) (H : Hp), Room k (A.deeper (LamX.lamEnv X sco s.heap.objs.size f c)) → PE (lmCx X A ou s H E sco f c x) bd tb)
    (hN : Ng[i]? = some a) (hv : Vis sg a) (he : PE (cxOf CXg X.prog X.w X.K X.mg X.base Ng qg sg g cdg X.A X.stack s H Eg) e te)
    (hd : (a == ("__debug__" : Str)) = false := by decide) (hcd : (a == ("__classdict__" : Str)) = false := by decide)
    (hse : starEach [e] (cxOf CXg X.prog X.w X.K X.mg X.base Ng qg sg g cdg X.A X.stack s H Eg).env = [(false, eval e (cxOf CXg X.prog X.w X.K X.mg X.base Ng qg sg g cdg X.A X.stack s H Eg).env)] := by rfl) :
    PE (cxOf CXg X.prog X.w X.K X.mg X.base Ng qg sg g cdg X.A X.stack s H Eg) (.Call (.Name a p1) [e] [] p2) (tAct i f c (X.env.qual ++ "<lambda>") te fun v H1 Q => tb (σ ++ [some v]) H1 Q) := by
  refine ⟨fun pz sz σz Hz Q Iz h => ?_⟩
  obtain ⟨hs, ht⟩ := h
  refine wpAny_Call_Name_kw (thn ((pe_var (pos := p1) (i := i) hN hv hd hcd).run pz sz σz Hz (fun v H1 => v = .ref f ∧ H1 = Hz) Iz ⟨.ref f, hs, rfl, rfl⟩) fun u s1 ⟨v, H1, I1, r1, q1⟩ => ?_)
  obtain ⟨rfl, rfl⟩ := q1
  obtain rfl : u = Value.ref f := r1
  have look : ∀ {s2 : Shared} {H2 : Hp}, Inv (cxOf CXg X.prog X.w X.K X.mg X.base Ng qg sg g cdg X.A X.stack s H Eg) pz σz H2 s2 → s2.heap.get? f = some (PySem.W.kla_obj "<lambda>" (X.env.qual ++ "<lambda>") prm bd sco (cloFrom X.env.cells sco.names []) pm c ctv) :=
    fun J => J.base.keep f _ hf hfn hfr (fun z => nomatch (show f ∈ ([] : List Addr) from z))
  refine PySem.W.callWith_F (first := []) ⟨_, _, _, _, look I1⟩ (thn ((pa_cons he pa_nil (by rw [hse]; rfl)).run p2 pz s1 σz H1 _ I1 ht) fun us s2 ⟨vs, H2, I2, rv, v, hv1, hc, hb⟩ => ⟨⟨_, _, _, _, look I2⟩, ?_⟩) (by rw [hse]; rfl) (by rfl)
  subst hv1
  obtain ⟨u, rfl, ru⟩ : ∃ u, us = [u] ∧ RelV v u := by
    cases rv with
    | cons r1 r2 => cases r2; exact ⟨_, rfl, r1⟩
  have of2 := look I2
  have un : Un (frs X.stack) [] H H2 s.heap s2.heap := I2.base
  obtain ⟨⟨oc, ws, t, hoc, hdc, hvc⟩, _, _⟩ := I2.hok c _ hc
  have go : codeAny (model X.prog X.w) (X.A.deeper (envOfC qg sg s.heap.objs.size g cdg)) (.call (.ref f) ⟨[u], []⟩) (CR (L2.CX X.prog X.w) (envOfC qg sg s.heap.objs.size g cdg :: X.stack) X.prog X.w H2 s2 Q E) s2 := by
    refine PySem.W.kla_callFunE hr.depth of2 rfl L.nco L.ngen rfl ⟨c, oc, ws, t, rfl, hoc, hdc, hvc⟩ ?_
    rw [hbi u]
    refine wpAny_pure (wpAny_newFunctionEnv L.noc (fun y hy => ?_) (fun g1 hn hsb => ⟨I2.nolimit.fresh _ hsb, ?_⟩) L.kd)
    · rw [List.mem_singleton.mp hy]; exact L.par
    show codeAny _ _ (.expr bd (LamX.lamEnv X sco s2.heap.objs.size f c)) _ _
    have kp : ∀ b o, s2.heap.get? b = some o → g1.get? b = some o := fun b o e => hsb.extBut b o (Nat.ne_of_lt (Heap.lt_size e)) (Heap.get?_push_of_some _ e)
    have J : Inv (lmCx X (X.A.deeper (envOfC qg sg s.heap.objs.size g cdg)) (envOfC qg sg s.heap.objs.size g cdg :: X.stack) s2 H2 E sco f c x) [] (σ ++ [some v]) H2 { s2 with heap := g1, toks := s2.toks + [(x, u)].length } :=
      lm_start I L nx ru I2.env0 hr.hd un hn kp
    refine PySem.W.kla_codeExpr (wpAny_mono ((hbody _ _ s2 H2 (hr.deeper _)).run [] _ _ H2 Q J hb) (fun z s' hq => ?_) fun _ _ hq => hq)
    obtain ⟨w', H', J', r', q⟩ := hq
    exact ⟨w', H', J'.os, J'.bare, J'.base, J'.hok, r', q⟩
  refine wpAny_call (codeAny_mono go fun r s' hq => ?_)
  cases r with
  | error e => exact pas pz σz H2 s2 e s' I2 hq
  | ok fl =>
    cases fl with
    | ret u => exact I2.after hq
    | next => exact False.elim hq
    | brk => exact False.elim hq
    | cont => exact False.elim hq
end
end GL
namespace GL
open PySem PySem.Spec PyProof.Rows L2
/-- what a def of four parameters, the last of them a lambda, makes of the lambda's reading -/
abbrev LTT := (V → Hp → VK → Prop) → List V → Hp → VK → XK → Prop
def Gives (P : Program) (w : World) (K : PySem.W.Frag) (mg : Str → Option Value) (base : Heap) (k : Nat) (Ng : List Str) (qg : Str) (sg : Scope) (g : Addr) (bg : List Stmt) (a : Str) (q : Str) (TT : LTT) : Prop :=
  ∀ (cdg : Value) (A : Around) (ou : List Env) (f c : Addr) (s : Shared) (H : Hp) (vs : List V) (Q : VK) (E : XK) (tl : V → Hp → VK → Prop), Room k (A.deeper (envOfC qg sg s.heap.objs.size g cdg)) →
    (∀ {e : Expr} {te : TE} {p1 p2 : Pos}, PE (cxOf (L2.CX P w) P w K mg base Ng qg sg g cdg A ou s H E) e te →
      starEach [e] (cxOf (L2.CX P w) P w K mg base Ng qg sg g cdg A ou s H E).env = [(false, eval e (cxOf (L2.CX P w) P w K mg base Ng qg sg g cdg A ou s H E).env)] →
      PE (cxOf (L2.CX P w) P w K mg base Ng qg sg g cdg A ou s H E) (.Call (.Name a p1) [e] [] p2) (tAct 3 f c q te tl)) →
    H c = some (LamX.CodeO c q) → TT tl vs H Q E → vs.length = 3 →
    ∃ t, PSs (cxOf (L2.CX P w) P w K mg base Ng qg sg g cdg A ou s H E) bg t ∧ t { nx := fun _ H' => Q .non H', rt := Q } (L2.start Ng (vs ++ [.ref f])) H
def tLam3 (T : List (Addr × Str)) (TT : LTT) (E : XK) (t1 t2 t3 tb : TE) : TE := fun σ H Q => t1 σ H fun v1 H1 => t2 σ H1 fun v2 H2 => t3 σ H2 fun v3 H3 =>
  LamX.Tabs T H3 ∧ ∀ H4, LamX.ExtN H3 H4 → LamX.Tabs T H4 → TT (fun a H' Q' => tb (σ ++ [some a]) H' Q') [v1, v2, v3] H4 Q E
section
variable {X : Cx}
theorem pe_lam3 {T : List (Addr × Str)} {TT : LTT} {E : XK} {x a y : Str} {g c0 P0 : Addr} {k : Nat} {st : Stmt} {fd : FuncData} {Ng ps : List Str} {prm : Arguments} {bd e1 e2 e3 : Expr} {sco : Scope} {t1 t2 t3 tb : TE} {p lpos pos : Pos}
    (F : L2.Fun X.K x x st g fd) (hg : Gl X x) (hm : X.mg x = some (.ref g)) (hk : PySem.W.keepIn X.K (.ref g) = true) (hb : L2.Binds X.K fd ps []) (hps : ps.length = 4) (S : FnScope Ng ps (defScope st)) (hNa : Ng[3]? = some a) (hva : Vis (defScope st) a)
    (G : Gives X.prog X.w X.K X.mg X.base (k + 1) Ng x (defScope st) g (defBody st) a (X.env.qual ++ "<lambda>") TT) (hx : Passes (L2.CX X.prog X.w) X E)
    (TB : LamX.TabB X.base X.mg c0 P0) (hcode : X.env.code = .ref c0) (hmT : (P0, X.env.qual ++ "<lambda>") ∈ T) (hu : ∀ p ∈ T, p.1 = P0 → p.2 = X.env.qual ++ "<lambda>") (hr : Room (k + 2) X.A) (L : LamP X.env.scope sco y) (ny : y ∉ X.N) (hdef : defaultsOf prm X.env = ([], []))
    (hbi : ∀ (q : Str) (cl : List (Str × Addr)) (pm cv ctv u : Value), bindArgs (PySem.W.kla_fn "<lambda>" q prm bd sco cl pm cv ctv) ⟨[u], []⟩ = pure [(y, u)])
    (h1 : PE X e1 t1) (h2 : PE X e2 t2) (h3 : PE X e3 t3)
    (hbody : ∀ (A : Around) (ou : List Env) (s : Shared) (H : Hp) (f c : Addr), Room k (A.deeper (LamX.lamEnv X sco s.heap.objs.size f c)) → PE (lmCx X A ou s H E0 sco f c y) bd tb)
    (hse : starEach [e1, e2, e3, .Lambda prm bd sco lpos] X.env = [(false, eval e1 X.env), (false, eval e2 X.env), (false, eval e3 X.env), (false, eval (.Lambda prm bd sco lpos) X.env)] := by rfl)
    (hs1 : starEach [e1, e2, e3, .Lambda prm bd sco lpos] X.env = (false, eval e1 X.env) :: starEach [e2, e3, .Lambda prm bd sco lpos] X.env := by rfl) (hpl : (backTo pos (starEach [e2, e3, .Lambda prm bd sco lpos] X.env)).any (·.1) = false := by rfl)
    (hdb : (x == ("__debug__" : Str)) = false := by decide) (hd : (a == ("__debug__" : Str)) = false := by decide) (hcd : (a == ("__classdict__" : Str)) = false := by decide) :
    PE X (.Call (.Name x p) [e1, e2, e3, .Lambda prm bd sco lpos] [] pos) (tLam3 T TT E t1 t2 t3 tb) := by
  refine ⟨fun pins s σ H Q I h => ?_⟩
  refine wpAny_Call_Name_kw (ld_glob I hg hm ?_ hdb)
  refine PySem.W.callWith_K (h₀ := X.base) I.ok.mod.kin hk ?_ hs1 hpl
  rw [hse]
  show wpAny _ _ (spliced [(false, eval e1 X.env), (false, eval e2 X.env), (false, eval e3 X.env), (false, eval (.Lambda prm bd sco lpos) X.env)]) _ _ s
  refine Calls.spliced_cons (thn (h1.run pins s σ H _ I h) fun u1 s1 ⟨v1, H1, I1, r1, q1⟩ => ?_)
  refine Calls.spliced_cons (thn (h2.run pins s1 σ H1 _ I1 q1) fun u2 s2 ⟨v2, H2, I2, r2, q2⟩ => ?_)
  refine Calls.spliced_cons (thn (h3.run pins s2 σ H2 _ I2 q2) fun u3 s3 ⟨v3, H3, I3, r3, hT, q3⟩ => ?_)
  refine Calls.spliced_cons (LamX.lam_make2 I3 TB hcode hmT hu hT hdef (L.there I3.ok) fun f c pm ctv H4 s4 I4 eN T4 hf hfn hfr hco => ?_)
  refine Calls.spliced_nil ⟨I4.kIn, ?_⟩
  have q4 := q3 H4 eN T4
  have rv : Vals ([v1, v2, v3] ++ [.ref f]) [u1, u2, u3, .ref f] := .cons r1 (.cons r2 (.cons r3 (.cons rfl .nil)))
  have go : codeAny (model X.prog X.w) X.A (.call (.ref g) ⟨[u1, u2, u3, .ref f], []⟩) (CR (L2.CX X.prog X.w) X.stack X.prog X.w H4 s4 Q E) s4 := by
    obtain ⟨oc, od, kV, doc, pm2, an, cdv, ct, osl, rfl, lk, hcd2⟩ := F.ex
    refine LamX.run_ofS (N := Ng) (ps := ps) lk hcd2 S hr I4.env0 (hb s4 [u1, u2, u3, .ref f] I4.kIn (by rw [hps]; rfl)) rv (by rw [hps]; rfl) fun hr' => ?_
    exact G cdv X.A X.stack f c s4 H4 _ Q E _ hr' (fun he hs => lm_act I4 L ny hf hfn hfr (hbi _ _ _ _ _) passL hr' (fun A ou s H hr2 => hbody A ou s H f c hr2) hNa hva he hd hcd hs) hco q4 rfl
  refine wpAny_call (codeAny_mono go fun r s' hq => ?_)
  cases r with
  | error e => exact hx pins σ H4 s4 e s' I4 hq
  | ok fl =>
    cases fl with
    | ret u => exact I4.after hq
    | next => exact False.elim hq
    | brk => exact False.elim hq
    | cont => exact False.elim hq
end
/-- a def whose code object is told -/
structure FunC (K : PySem.W.Frag) (x qual : Str) (st : Stmt) (f : Addr) (fd : FuncData) (cd : Value) : Prop where
  ex : ∃ (oc : Value) (od : Option Addr) (kV doc pm : Value) (an : Option Addr) (ct : Value) (osl : Array (Option Value)), fd = PySem.W.fnOf x qual (defArgs st) (defBody st) (defScope st) .none kV doc pm an cd ct ∧
    K.lookup f = some ⟨oc, od, .func (PySem.W.fnOf x qual (defArgs st) (defBody st) (defScope st) .none kV doc pm an cd ct), osl⟩ ∧ PySem.W.codeIn K cd qual = true
theorem FunC.okX {P : Program} {w : World} {K : PySem.W.Frag} {mg : Str → Option Value} {base : Heap} {x qual : Str} {st : Stmt} {f : Addr} {fd : FuncData} {cd : Value} {N ps : List Str} {k : Nat} {sp : Sp} (F : FunC K x qual st f fd cd) (S : FnScope N ps (defScope st)) (len : ∀ vs H Q E, sp vs H Q E → vs.length = ps.length)
    (hbody : ∀ (A : Around) (outer : List Env) (s : Shared) (H : Hp) (vs : List V) (Q : VK) (E : XK), Room k (A.deeper (envOfC qual (defScope st) s.heap.objs.size f cd)) → sp vs H Q E →
      ∃ t, PSs (cxOf (L2.CX P w) P w K mg base N qual (defScope st) f cd A outer s H E) (defBody st) t ∧ t { nx := fun _ H' => Q .non H', rt := Q } (start N vs) H) : FnOk P w K mg base (L2.CX P w) (k + 1) f fd ps sp := by
  obtain ⟨oc, od, kV, doc, pm, an, ct, osl, rfl, lk, hcd⟩ := F.ex
  exact fn_of lk hcd S len fun A outer s H vs Q E hr hsp => hbody A outer s H vs Q E hr hsp
/-- the name of a lambda made in the def q -/
def lamQ (q : Str) : Str := (q ++ ".<locals>.") ++ "<lambda>"
example {qual : Str} {scope : Scope} {L f : Addr} {cd : Value} : (envOfC qual scope L f cd).qual ++ "<lambda>" = lamQ qual := rfl
end GL
/-! the end of a law in which some def of the module makes lambdas: its table is empty when the law begins -/
namespace GL
open PySem PySem.Spec PyProof.Rows L2 LamX
/-- the table of the def named r is empty -/
def RecTab (K : PySem.W.Frag) (mg : Str → Option Value) (r : Str) (h : Heap) : Prop := ∀ (f c P : Addr) (o : Obj) (fd : FuncData) (e : Value) (dd : Option Addr) (vs : Array Value) (sl : Array (Option Value)), mg r = some (.ref f) → K.lookup f = some o → o.data = .func fd → fd.code = .ref c →
  K.lookup c = some ⟨e, dd, .fields vs, sl⟩ → vs[11]? = some (.ref P) → h.get? P = some { cls := .none, data := .fields #[] }
theorem walk_ofRec {l : PySem.W.OpenLaw} {n k : Nat} {q : Program} {loose : List Str} {XP : (Str → Option Value) → Heap → Prop} {YP : World → Heap → Prop} {d : DefRec} {K : Params → PySem.W.Frag} {CX : World → CXT} {x : Str} (r : Str) (hrec : ((recsOf q).any fun y => y.name == r) = true)
    (hn : l.most = some n) (hn2 : n ≤ sizeLine) (hdf : d.params.defaults = []) (hr : Room k callerA) (hY : ∀ (w : World) (g : Heap), YP w g → (K w.params).In g)
    (F : ∀ (w : World) (mg : Str → Option Value) (fa : Addr) (g : Heap), YP w g → (K w.params).In g → g.Ns mainGlobals mg → mg d.name = some (.ref fa) → RecTab (K w.params) mg r g → LawAtS l w (K w.params) (CX w) k n x mg fa g)
    (hCX : ∀ (w : World) (J : Hp) (s : Shared) (u : Value) (t : Shared), CX w [] J s (fun _ _ _ => False) u t → False) : PySem.W.WalkO q loose XP YP l.row.toRowW d [] (fun f vs => PySem.call f vs) := by
  refine Att.attach_callB hn hdf fun w p0 p1 mg mb fa ob pm cd doc a us ns G Y ho hd hcd hmg hobj hints hlen hbits hg => ?_
  have KI := hY w _ Y
  have rt : RecTab (K w.params) mg r p1.heap := by
    intro f c P o1 fd1 e dd us1 sl k0 k1 k2 k3 k4 k5
    obtain ⟨dL, hm, hq⟩ := List.any_eq_true.mp hrec
    have hq := beq_iff_eq.mp hq
    obtain ⟨f', o', fd', c', P', g1, g2, g3, g4, _, ⟨⟨o2, vs2, t1, _, t3, t4⟩, tP⟩⟩ := G.T.tab dL hm
    rw [hq, k0] at g1; cases g1
    have z1 := KI _ _ k1
    rw [z1] at g2; cases g2
    rw [k2] at g3; cases g3
    rw [k3] at g4; cases g4
    have z2 := KI _ _ k4
    rw [z2] at t1; cases t1
    cases t3
    rw [k5] at t4; cases t4
    exact tP
  obtain ⟨fd, cs, sp, q1, q2, q3, q4, q5, q6⟩ := F w mg fa _ Y KI G.T.g hmg rt
  refine law_callTs KI G.T.g G.T.b G.T.builtins G.T.nolimit hg q1 q2 q3 G.T.bmain hobj hints (Nat.le_trans hlen hn2) hr q6 q4 (fun J hJ hS => ?_) fun J u t => hCX w J p1 u t
  exact q5 J a ns hlen hbits hJ hS
end GL
namespace GL
open PySem PySem.Spec PyProof.Rows L2 LamX
theorem tabs_nil {H : Hp} {P : Addr} {q : Str} (h : H P = some (.tbl #[])) : Tabs [(P, q)] H := fun p hp => by
  rw [List.mem_singleton.mp hp]
  exact ⟨#[], h, trivial, fun pos cv z => by cases z⟩
theorem tab_at {K : PySem.W.Frag} {h : Heap} {f c P : Addr} {e : Value} {od : Option Addr} {fd : FuncData} {sl : Array (Option Value)} (X : K.In h) (lk : K.lookup f = some ⟨e, od, .func fd, sl⟩) (hq : PySem.W.codeHdIn K c P = true) (hc : fd.code = .ref c)
    (rt : ∀ (o : Obj) (fd : FuncData) (e : Value) (dd : Option Addr) (vs : Array Value) (sl : Array (Option Value)), K.lookup f = some o → o.data = .func fd → fd.code = .ref c → K.lookup c = some ⟨e, dd, .fields vs, sl⟩ → vs[11]? = some (.ref P) → h.get? P = some { cls := .none, data := .fields #[] }) :
    h.get? P = some { cls := .none, data := .fields #[] } := by
  unfold PySem.W.codeHdIn at hq
  split at hq
  · rename_i dd vs sl2 hk
    simp only [Bool.and_eq_true] at hq
    obtain ⟨⟨⟨⟨⟨e1, _⟩, _⟩, _⟩, _⟩, _⟩ := hq
    split at e1
    · rename_i P' hv
      have e1 := beq_iff_eq.mp e1
      subst e1
      exact rt _ fd _ dd vs sl2 lk rfl hc hk hv
    · cases e1
  · cases hq
end GL
/-! enumerate of an object of an own class whose __iter__ gives a tuple's iterator -/
namespace L2
open PySem PySem.Spec PyProof.Rows GE
/-- a tuple's iterator that is done -/
def Spent (h : Heap) (it : Addr) : Prop := ∃ (o : Obj) (v : Value), h.get? it = some o ∧ o.cls = .type "tuple_iterator" ∧ o.data = .fields #[.none, v]
section
variable {prog : Program} {w : World} {A : Around} {E : Value → Shared → Prop} {s : Shared}
theorem spent_done {it : Addr} {Q : Value → Shared → Prop} (hh : A.handled = none) (hs : Spent s.heap it)
    (hE : ∀ h' x, (∀ b o, s.heap.get? b = some o → h'.get? b = some o) → (∃ o, h'.get? x = some o ∧ o.cls = .type "StopIteration") → E (.ref x) { s with heap := h' }) : wpAny (model prog w) A (Builtin.SmallTypes.nextOf (.ref it)) Q E s := by
  obtain ⟨o, v, ho, hc, hd⟩ := hs
  have hT : s.TypeIs (.ref it) "tuple_iterator" := ⟨o, ho, hc⟩
  unfold Builtin.SmallTypes.nextOf
  refine wpAny_bind (wpAny_callSpecial?_slot (name := Str.ofString "__next__") hT F.slot_tuple_iterator_next (wpAny_call_entry F.slot_tuple_iterator_next hT F.entry_tuple_iterator_next ?_ (F.args_tuple_iterator_next_1 _)))
  show wpAny _ _ (field (.ref it) 0 >>= _) _ _ s
  refine wpAny_bind (wpAny_field ho hd (x := .none) rfl ?_)
  show wpAny _ _ (if (Value.none == Value.none) = true then _ else _) _ _ s
  rw [if_pos (show ((Value.none == Value.none) = true) from rfl)]
  refine wpAny_bind (wpAny_rule ?_)
  unfold Builtin.SmallTypes.stopIteration
  show wpAny _ _ ((newExc (.type "StopIteration") [] >>= fun e => raiseNew e) >>= _) _ _ _
  refine wpAny_bind (wpAny_bind ?_)
  simp only [newExc, newTuple]
  refine wpAny_bind (wpAny_newObj_type ?_ (by size_fits))
  refine wpAny_bind (m := firstArgMember _ _) (wpAny_of_eq (a := Value.none) (by first | rfl | (simp only [firstArgMember]; rfl)) ?_)
  refine wpAny_newObj_type ?_ (by size_fits)
  simp only [raiseNew]
  refine wpAny_bind (wpAny_handled ?_)
  first | rw [show A.in1.handled = none from hh] | rw [hh]
  exact wpAny_bind (wpAny_pure (wpAny_throw (hE _ _ (fun b u q => Heap.get?_push_of_some _ (Heap.get?_push_of_some _ q)) ⟨_, Heap.get?_push_size _ rfl, rfl⟩)))
theorem tuple_done {it t : Addr} {i : Nat} {its : Array Value} {Q : Value → Shared → Prop} (hh : A.handled = none) (hi : s.heap.IsTupleIter it t i) (ht : s.heap.IsTuple t its) (hx : its[i]? = none)
    (hE : ∀ h' x, Heap.ExtBut it s.heap h' → Spent h' it → (∃ o, h'.get? x = some o ∧ o.cls = .type "StopIteration") → E (.ref x) { s with heap := h' }) : wpAny (model prog w) A (Builtin.SmallTypes.nextOf (.ref it)) Q E s := by
  obtain ⟨o, ho, hc, hd⟩ := id hi
  obtain ⟨ot, hot, _, nt, hdt⟩ := ht
  unfold Builtin.SmallTypes.nextOf
  refine wpAny_bind (wpAny_callSpecial?_slot (name := Str.ofString "__next__") hi.typeIs F.slot_tuple_iterator_next (wpAny_call_entry F.slot_tuple_iterator_next hi.typeIs F.entry_tuple_iterator_next ?_ (F.args_tuple_iterator_next_1 _)))
  show wpAny _ _ (field (.ref it) 0 >>= _) _ _ s
  refine wpAny_bind (wpAny_field ho hd (x := .ref t) rfl ?_)
  show wpAny _ _ (if (Value.ref t == Value.none) = true then _ else _) _ _ s
  rw [if_neg (show ¬ ((Value.ref t == Value.none) = true) from Bool.false_ne_true)]
  refine wpAny_bind (m := field (.ref it) 1) (wpAny_field ho hd (x := .int i 0) rfl ?_)
  refine wpAny_bind (m := seqItems? (.ref t)) (wpAny_seqItems hot hdt ?_)
  simp only [Int.toNat_natCast, hx]
  refine wpAny_bind (wpAny_rule (wpAny_bind (wpAny_setField ho hd (by simp) ?_)))
  show wpAny _ _ (newExc (.type "StopIteration") [] >>= _) _ _ _
  refine wpAny_bind ?_
  simp only [newExc, newTuple]
  refine wpAny_bind (wpAny_newObj_type ?_ (by size_fits))
  refine wpAny_bind (m := firstArgMember _ _) (wpAny_of_eq (a := Value.none) (by first | rfl | (simp only [firstArgMember]; rfl)) ?_)
  refine wpAny_newObj_type ?_ (by size_fits)
  simp only [raiseNew]
  refine wpAny_bind (wpAny_handled ?_)
  first | rw [show A.in1.handled = none from hh] | rw [hh]
  have fr := Obj.isFreed_of_fields (Obj.data_mapFields hd (·.set! 0 Value.none))
  exact wpAny_bind (wpAny_pure (wpAny_throw (hE _ _ (((Heap.SameBut.update ..).extBut.push _).push _)
    ⟨_, .int i 0, Heap.get?_push_of_some _ (Heap.get?_push_of_some _ (Heap.get?_update_self _ ho fr)), (show (Obj.mapFields (fun x => x.set! 0 Value.none) o).cls = _ from by unfold Obj.mapFields; split <;> exact hc), Obj.data_mapFields hd _⟩ ⟨_, Heap.get?_push_size _ rfl, rfl⟩)))
end
/-- at it an iterator over the tuple at t: the next place is i; behind the last one it may be done -/
def ItU (t it : Addr) (i n : Nat) : HO := .ext fun h => h.IsTupleIter it t i ∨ (i = n ∧ Spent h it)
theorem itU_ok {P : Program} {w : World} {H : Hp} {h : Heap} {t it : Addr} {i n : Nat} (e : h.IsTupleIter it t i ∨ (i = n ∧ Spent h it)) : ObjOk P w H h it (ItU t it i n) := by
  refine ⟨e, ?_, fun h1 h2 q k => ?_⟩
  · rcases e with ⟨o, ho, _⟩ | ⟨_, o, v, ho, _⟩
    · exact ⟨o, ho⟩
    · exact ⟨o, ho⟩
  · rcases q with q | ⟨q1, o, v, ho, q2⟩
    · exact .inl (Heap.IsTupleIter.at q k)
    · exact .inr ⟨q1, o, v, k _ ho, q2⟩
theorem itU_get {X : Cx} {pins : List (Addr × Obj)} {σ : St} {H : Hp} {s : Shared} {t it : Addr} {i n : Nat} (I : Inv X pins σ H s) (e : H it = some (ItU t it i n)) : s.heap.IsTupleIter it t i ∨ (i = n ∧ Spent s.heap it) := (I.hok it _ e).1
section
variable {K : PySem.W.Frag} {t it : Addr} {xs : List V}
end
section
variable {prog : Program} {w : World} {A : Around} {E : Value → Shared → Prop} {s : Shared}
end
section
variable {X : Cx} {k : Nat} {fi C : Addr} {fd : FuncData} {ps : List Str} {sp : Sp}
end
end L2
/-! x op xs: an own object on the left, a list on the right -/
namespace L2
open PySem PySem.Spec PyProof.Rows PySem.W
structure OwnL (K : PySem.W.Frag) (C : Addr) (op : Operator) : Prop where
  r : ∃ rc, PySem.W.findIn K (.ref C) (dunderR op.info.2) = some rc ∧ (rc = none ∨ ∃ g : Addr, rc = some (.ref g))
  i1 : ∃ fo, PySem.W.findIn K (.type "list") (PySem.dunder op.info.2) = some fo
  i2 : ∃ ro, PySem.W.findIn K (.type "list") (dunderR op.info.2) = some ro
  sub : PySem.W.subIn K (.type "list") (.ref C) = some false
section
variable {prog : Program} {w : World} {A : Around} {E : Value → Shared → Prop} {s : Shared} {K : PySem.W.Frag} {h₀ : Heap} {L x C f b : Addr} {ox : Obj} {od : Option Obj} {m : Str → Option Value}
theorem bin_ownL {op : Operator} {fo ro rc : Option Value} {ob : Obj} {Q : Value → Shared → Prop} (F : Fr h₀ L s.heap m) (X₀ : K.In h₀) (I : InstAt s.heap x ox C od) (gb : s.heap.get? b = some ob) (cb : ob.cls = .type "list") (hc : selfFirst K C = true)
    (a1 : findIn K (.ref C) (PySem.dunder op.info.2) = some (some (.ref f))) (a2 : isFn K (.ref f) = true) (a3 : findIn K (.ref C) (dunderR op.info.2) = some rc) (a4 : rc = none ∨ ∃ g : Addr, rc = some (.ref g)) (a5 : findIn K (.type "list") (PySem.dunder op.info.2) = some fo)
    (a6 : findIn K (.type "list") (dunderR op.info.2) = some ro) (a7 : subIn K (.type "list") (.ref C) = some false) (go : wpAny (model prog w) A (call (.ref f) [.ref x, .ref b]) (PySem.W.CmpBack Q) E s) : wpAny (model prog w) A (binaryOp op (.ref x) (.ref b)) Q E s := by
  have KX := X₀.keeps F.keep
  obtain ⟨cd, rest, e1, e2⟩ := ksp_first hc
  rcases ei : op.info with ⟨sg, nm⟩
  rw [ei] at a1 a3 a5 a6
  dsimp only at a1 a3 a5 a6
  have run := ksp_try KX I a1 a2 go
  obtain ⟨g, g1, g2, g3, g4⟩ := s
  have t1 : Looks (model prog w) g (typeOf (.ref x)) (.ref C) := I.type; have t2 : Looks (model prog w) g (typeOf (.ref b)) (.type "list") := fun A Q E s k q => wpAny_typeOf ⟨ob, k _ _ gb, cb⟩ q
  have t3 : Looks (model prog w) g (fillsNumberSlot (.ref C) nm) true := fills_K KX e1 e2 a1; have t4 : Looks (model prog w) g (fillsNumberSlot (.type "list") nm) ((fo.isSome && !isSeqSlot fo) || (ro.isSome && !isSeqSlot ro)) := ksp_fillsT KX a5 a6
  have t5 : Looks (model prog w) g (isSubtype (.type "list") (.ref C)) false := looks_subIn KX a7; have t6 : Looks (model prog w) g (numberSlotInPython (.ref C) nm) true := ksp_inPy KX a1 a3 a4
  have t7 : Looks (model prog w) g (numberSlotInPython (.type "list") nm) false := Looks.of_pure rfl; have t8 : Looks (model prog w) g (typeLookup (.type "list") (dunderR nm)) ro := looks_findIn KX a6
  generalize ((fo.isSome && !isSeqSlot fo) || (ro.isSome && !isSeqSlot ro)) = far at t4
  have ne : (Value.ref C == Value.type "list") = false := Bool.eq_false_iff.mpr fun z => by cases beq_iff_eq.mp z
  simp only [binaryOp, ei]
  refine wpAny_holding (wpAny_bind ?_); unfold binaryOp1
  refine wpAny_bind (t1.at (wpAny_bind (t2.at (wpAny_bind (t3.at ?_))))); simp only [ne, Bool.false_eq_true, if_false]
  cases far
  all_goals
    ksp_lk
    refine wpAny_mono run (fun y s' y2 => ?_) fun _ _ e => e
    obtain ⟨v, rfl, y3⟩ := y2
    ksp_lk
    exact y3
end
section
variable {X : Cx} {CX : CXT} {k : Nat} {f C : Addr} {fd : FuncData} {ps : List Str} {sp : Sp} {E : XK}
def rOwnL (C : Addr) (sp : Sp) (E : XK) : R2 := fun x y H Q => ∃ a dx fs b ys, x = .ref a ∧ H a = some (.ins C dx fs) ∧ y = .ref b ∧ H b = some (.lst ys) ∧ sp [x, y] H Q E
theorem op_ownL {op : Operator} (hm : Meth X.K C (PySem.dunder op.info.2) f) (hc : PySem.W.selfFirst X.K C = true) (hi : OwnL X.K C op) (F : FnOk X.prog X.w X.K X.mg X.base CX k f fd ps sp) (hr : Room k X.A) (hb : Binds X.K fd ps []) (hx : Passes CX X E) :
    OpR X (binaryOp op) (rOwnL C sp E) := by
  intro pins s σ H x y v u Q I rx ry h
  obtain ⟨a, dx, fs, b, ys, rfl, ea, rfl, eb, h⟩ := h
  obtain rfl : v = Value.ref a := rx
  obtain rfl : u = Value.ref b := ry
  obtain ⟨od, J⟩ := I.instAt ea
  obtain ⟨m, fr⟩ := I.fr
  obtain ⟨_, its, n, _, gl⟩ := I.hok b _ eb
  obtain ⟨⟨rc, h1, h2⟩, ⟨fo, h3⟩, ⟨ro, h4⟩, h5⟩ := hi
  refine bin_ownL fr I.ok.mod.kin J gl rfl hc hm.at_ hm.fn h1 h2 h3 h4 h5 (thn (run_fnA (us := [.ref a, .ref b]) (vs := [.ref a, .ref b]) (dvs := []) rfl F hr hb .nil hx I (.cons rfl (.cons rfl .nil)) h) fun w s' q => ?_)
  obtain ⟨v', H', I', rv, q⟩ := q
  exact cmpBack_of rv ⟨v', H', I', rv, q⟩
end
end L2
/-! min(xs, default=d) of a list of triples of ints -/
namespace L2
open PySem PySem.Spec PyProof.Rows
structure T3 where
  a : Int
  b : Int
  c : Int
def T3.lt (x y : T3) : Prop := x.a < y.a ∨ (x.a = y.a ∧ (x.b < y.b ∨ (x.b = y.b ∧ x.c < y.c)))
def T3.l (x : T3) : List Int := [x.a, x.b, x.c]
end L2
/-! list(x) of an own class whose __iter__ gives a tuple's iterator, without __len__ -/
namespace L2
open PySem PySem.Spec PyProof.Rows
theorem gb_hint0 {prog : Program} {w : World} {A : Around} {E : Value → Shared → Prop} {s : Shared} {Q : Bool → Shared → Prop} {K : PySem.W.Frag} {a C : Addr} {ox : Obj} {od : Option Obj} (h1 : PySem.W.findIn K (.ref C) "__len__" = some none) (h2 : PySem.W.findIn K (.ref C) "__length_hint__" = some none) (hK : K.In s.heap)
    (J : PySem.W.InstAt s.heap a ox C od) (q : Q true s) : wpAny (model prog w) A (Builtin.List.listLengthHint (.ref a)) Q E s := by
  unfold Builtin.List.listLengthHint
  refine wpAny_bind (wpAny_bind (J.type.here ((PySem.W.looks_findIn hK h1).here ?_)))
  refine PySem.W.KFB.if_not rfl (PySem.W.KFB.if_not rfl ?_)
  exact wpAny_bind (wpAny_bind (J.type.here ((PySem.W.looks_findIn hK h2).here (wpAny_pure q))))
section
variable {X : Cx} {k : Nat} {fi C : Addr} {fd : FuncData} {ps : List Str} {spI : Sp}
end
end L2
/-! [.., *x]: x a tuple, a list, or an own object whose __iter__ gives a tuple's iterator (without __len__) -/
namespace L2
open PySem PySem.Spec PyProof.Rows
section
variable {X : Cx} {pins : List (Addr × Obj)} {σ : St} {H : Hp} {s : Shared} {t it l : Addr} {i : Nat} {zs : List V}
/-- the loop over a tuple's iterator, the list at l filled; what it gives back is res -/
theorem gb_loopR {A1 : Around} {Rs : Result → Shared → Prop} {res : Value} (hh : A1.handled = none) (hne : it ≠ l) (hT : SqT X.K H t zs) (hz : zs.length < sizeLine) (hlt : H l = none) (hit : H it = none)
    (hdone : ∀ s, Inv X pins σ (upd (upd H l (.lst zs)) it (ItX it)) s → Rs (.ok (.ret res)) s) :
    ∀ (k i : Nat) (s : Shared), zs.length - i = k → i ≤ zs.length → Inv X pins σ (upd (upd H l (.lst (zs.take i))) it (ItT t it i)) s → codeAny (model X.prog X.w) A1 (.builtin "list.extend.loop" ⟨[.ref l, .ref it, res], []⟩) Rs s := by
  have sT : ∀ {o1 o2 : HO}, SqT X.K (upd (upd H l o1) it o2) t zs := fun {o1 o2} => Same.seqT ((same_new hlt).trans (same_new (by rw [upd_ne hne]; exact hit))) hT
  intro k
  induction k with
  | zero =>
    intro i s hk hi I
    have hin : i = zs.length := by omega
    subst hin
    obtain ⟨its, rv, pl, _⟩ := I.tuple (sT (o1 := _) (o2 := _))
    refine codeAny_builtin PySem.F.entry_extend_loop ?_
    rw [Around.under_plainId PySem.F.plain_extend_loop _]
    show wpAny _ A1.in1 (pyNext (.ref it) >>= _) _ _ s
    refine wpAny_bind (gb_tuple_end (A := A1.in1) hh (itT_get I upd_same) (show s.heap.IsTuple t its.toArray from pl) (by have := rv.length; simp; omega) fun h' hb hu => ?_)
    refine wpAny_pure (hdone _ ?_)
    have I2 := I.write (x := it) (e := it) (o := ItX it) (h' := h') (t' := s.toks) (by rw [upd_same]; exact True.intro) (.inl rfl) (fun b u nb z => hb b u nb z) hu (itX_ok hu)
    rw [upd_upd, List.take_length] at I2
    exact I2
  | succ k ih =>
    intro i s hk hi I
    have hlt2 : i < zs.length := by omega
    obtain ⟨its, rv, pl, _⟩ := I.tuple (sT (o1 := _) (o2 := _))
    obtain ⟨u, hu, ru⟩ := rv.get (List.getElem?_eq_getElem hlt2)
    refine codeAny_builtin PySem.F.entry_extend_loop ?_
    rw [Around.under_plainId PySem.F.plain_extend_loop _]
    show wpAny _ A1.in1 (pyNext (.ref it) >>= _) _ _ s
    refine wpAny_bind (wpAny_pyNext_tuple_item (itT_get I upd_same) (show s.heap.IsTuple t its.toArray from pl) (x := u) (by simpa using hu) fun h' hi' sb => ?_)
    have I2 := I.write (x := it) (e := it) (o := ItT t it (i + 1)) (h' := h') (t' := s.toks) (by rw [upd_same]; exact True.intro) (.inl rfl) (fun b o nb z => (sb.2 b nb).trans z) (let ⟨o, ho, _⟩ := hi'; ⟨o, ho⟩) (itT_ok hi')
    rw [upd_upd, upd_swap hne.symm] at I2
    show wpAny _ A1.in1 (updateSeq l (·.push u) >>= _) _ _ _
    obtain ⟨z, its2, c, r2, hl, e⟩ := I2.lstM upd_same
    have hl2 : its2.length = i := by rw [← r2.length, List.length_take]; omega
    refine wpAny_bind (wpAny_updateSeq e rfl (wpAny_pure ⟨plainId_quiet PySem.F.plain_extend_loop _, ?_⟩) (by rw [List.size_toArray]; omega) (by show (its2.toArray.push u).size ≤ sizeLine + 1; rw [Array.size_push, List.size_toArray]; omega))
    have I3 := I2.lset (its' := its2 ++ [u]) (ys := zs.take (i + 1)) (t' := s.toks) (f := (·.push u)) upd_same e (by simp) (by rw [List.take_succ, List.getElem?_eq_getElem hlt2]; exact r2.append (.cons ru .nil)) (by rw [List.length_take]; omega)
    rw [upd_upd, upd_swap hne] at I3
    exact ih (i + 1) _ (by omega) hlt2 I3
end
section
variable {X : Cx} {pins : List (Addr × Obj)} {σ : St} {H : Hp} {s : Shared} {k : Nat} {fi C a dx t : Addr} {fd : FuncData} {ps : List Str} {spI : Sp} {fs : List (Str × V)} {zs : List V}
theorem star_own {E : Value → Shared → Prop} {Q : List Value → Shared → Prop} (hmI : Meth X.K C "__iter__" fi) (n1 : PySem.W.findIn X.K (.ref C) "__len__" = some none) (n2 : PySem.W.findIn X.K (.ref C) "__length_hint__" = some none) (FI : FnOk X.prog X.w X.K X.mg X.base CX0 k fi fd ps spI)
    (bI : Binds X.K fd ps []) (hr : Room (k + 1) X.A) (I : Inv X pins σ H s) (ha : H a = some (.ins C dx fs)) (hT : SqT X.K H t zs) (hz : zs.length < 1000)
    (q1 : ∀ l, H l = none → spI [.ref a] (upd H l (.lst [])) (fun v H' => ∃ it, v = .ref it ∧ upd H l (.lst []) it = none ∧ H' = upd (upd H l (.lst [])) it (ItT t it 0)) (fun _ _ _ => False))
    (hQ : ∀ l it us s', H l = none → H it = none → it ≠ l → Inv X pins σ (upd (upd H l (.lst zs)) it (ItX it)) s' → Vals zs us → Q us s') : PySem.W.StarOf (model X.prog X.w) X.A E (.ref a) Q s := by
  have col : wpAny (model X.prog X.w) X.A (collect (.ref a)) Q E s := by
    unfold collect
    refine wpAny_bind (wpAny_runValue (codeAny_builtin PySem.F.entry_proto_collect ?_))
    rw [Around.under_plainId PySem.F.plain_proto_collect _]
    show wpAny _ X.A.in1 (newList [] >>= fun l => again (.builtin "list.__iadd__" ⟨[l, .ref a], []⟩)) _ _ s
    refine wpAny_bind (wpAny_newObj_type ?_)
    refine wpAny_pure ⟨plainId_quiet PySem.F.plain_list_iadd _, codeAny_builtin PySem.F.entry_list_iadd ?_⟩
    rw [Around.under_plainId PySem.F.plain_list_iadd _]
    have fr : H s.heap.objs.size = none := I.hok.fresh (Nat.le_refl _)
    have q := q1 _ fr
    have I2 : Inv X pins σ (upd H s.heap.objs.size (.lst [])) { s with heap := s.heap.push { cls := .type "list", data := .seq #[] } } := I.lnew (its := []) (t' := s.toks) .nil (Nat.zero_le _)
    show wpAny _ X.A.in1 (Builtin.List.listExtendWith (.ref s.heap.objs.size) (.ref a) (.ref s.heap.objs.size)) _ _ _
    have new : (s.heap.push { cls := .type "list", data := .seq #[] }).get? s.heap.objs.size = some { cls := .type "list", data := .seq #[] } := Heap.get?_push_size _ rfl
    generalize hl0 : s.heap.objs.size = l at *
    have hne : a ≠ l := ne_of_none ha fr
    have ha2 : upd H l (.lst []) a = some (.ins C dx fs) := by rw [upd_ne hne]; exact ha
    change wpAny _ X.A.in1 (Builtin.List.listExtendWith (.ref l) (.ref a) (.ref l)) _ _ { s with heap := s.heap.push { cls := .type "list", data := .seq #[] } }
    generalize ({ s with heap := s.heap.push { cls := .type "list", data := .seq #[] } } : Shared) = s2 at I2 ⊢
    obtain ⟨od, J⟩ := I2.instAt ha2
    obtain ⟨m0, hF⟩ := I2.fr
    unfold Builtin.List.listExtendWith
    refine wpAny_bind (J.type.here ?_)
    have c1 : Builtin.List.listSameRef (.ref l) (.ref a) = false := by simp [Builtin.List.listSameRef, hne.symm]
    have c2 : (Value.ref C == Value.type "list") = false := rfl
    have c3 : (Value.ref C == Value.type "tuple") = false := rfl
    simp only [c1, c2, c3, Bool.or_false, Bool.false_eq_true, if_false]
    refine wpAny_bind (PySem.W.owit_iter hF I2.ok.mod.kin J hmI.at_ hmI.fn ?_)
    refine wpAny_mono (run_fnA (X := X.nox) (us := [.ref a]) (vs := [.ref a]) (dvs := []) rfl FI hr.in1 bI .nil pass0 (I2.wish _) (.cons rfl .nil) q) (fun v s3 q => ?_) (fun _ _ z => z.elim)
    obtain ⟨v', H', I3, rv', it, rfl, hit, rfl⟩ := q
    obtain rfl : v = Value.ref it := rv'
    replace I3 := I3.unwish
    have hil : it ≠ l := fun z => by rw [z, upd_same] at hit; cases hit
    have hitH : H it = none := by rw [upd_ne hil] at hit; exact hit
    have gi := itT_get I3 upd_same
    show wpAny (model X.prog X.w) _ (specialOf (.ref it) "__next__") _ _ _
    refine wpAny_specialOf gi.typeIs PySem.F.slot_tuple_iterator_next.lookup ?_
    have ha3 : upd (upd H l (.lst [])) it (ItT t it 0) a = some (.ins C dx fs) := by rw [upd_ne (ne_of_none ha2 hit)]; exact ha2
    obtain ⟨od3, J3⟩ := I3.instAt ha3
    refine wpAny_bind (wpAny_holding (gb_hint0 n1 n2 I3.kIn J3 ?_))
    have hzl : zs.length < sizeLine := by rw [sizeLine_eq]; omega
    have fin : ∀ s6, Inv X pins σ (upd (upd H l (.lst zs)) it (ItX it)) s6 → wpAny (model X.prog X.w) X.A (match Value.ref l with
        | Value.ref a => do
          match (← load a).data with
            | Data.seq xs _ => pure xs.toList
            | _ => unsupported "internal:collect"
        | _ => unsupported "internal:collect") Q E s6 := fun s6 I6 => by
      have e6 : upd (upd H l (.lst zs)) it (ItX it) l = some (.lst zs) := by rw [upd_ne hil.symm, upd_same]
      obtain ⟨z6, its6, k6, r6, hl6, e6'⟩ := I6.lstM e6
      show wpAny _ X.A (load l >>= _) _ _ s6
      refine wpAny_bind (wpAny_load e6' ?_)
      refine wpAny_pure ?_
      show Q its6.toArray.toList s6
      rw [show its6.toArray.toList = its6 by simp]
      exact hQ l it its6 s6 fr hitH hil I6 r6
    refine wpAny_ite_split (fun _ => ?_) (fun _ => wpAny_pure ⟨plainId_quiet PySem.F.plain_extend_loop _, gb_loopR (A1 := X.A) (zs := zs) (show X.A.handled = none from hr.hd) hil hT hzl fr hitH (fun s6 I6 => fin s6 I6) zs.length 0 s3 rfl (Nat.zero_le _) I3⟩)
    have hql : upd (upd H l (.lst [])) it (ItT t it 0) l = some (.lst []) := by rw [upd_ne hil.symm, upd_same]
    obtain ⟨z, its, k4, r3, hl3, e3⟩ := I3.lstM hql
    cases r3
    refine wpAny_bind (wpAny_rule (wpAny_bind ?_))
    show wpAny (model X.prog X.w) _ (updateSeq l (·.push .none) >>= fun _ => updateSeq l (·.pop)) _ _ _
    refine wpAny_bind (wpAny_updateSeq e3 rfl ?_)
    have I5 := I3.lset (f := (·.push Value.none)) (its' := [Value.none]) (ys := [.non]) (t' := s3.toks) hql e3 (by simp) (.cons rfl .nil) (by rw [List.length_singleton, sizeLine_eq]; decide)
    obtain ⟨z4, its4, k5, r4, hl4, e4⟩ := I5.lstM upd_same
    obtain ⟨u4, rfl, ru4⟩ := r4.one
    refine wpAny_updateSeq e4 rfl ?_ (by show 1 ≤ sizeLine; rw [sizeLine_eq]; decide) (by show 0 ≤ sizeLine + 1; exact Nat.zero_le _)
    have I6 := I5.lset (f := (·.pop)) (its := [u4]) (its' := []) (ys := []) (t' := s3.toks) upd_same e4 (by rfl) .nil (Nat.zero_le _)
    rw [upd_upd] at I6
    have hH : upd (upd (upd H l (.lst [])) it (ItT t it 0)) l (.lst []) = upd (upd H l (.lst [])) it (ItT t it 0) := by rw [upd_swap hil, upd_upd]
    rw [hH] at I6
    exact wpAny_pure ⟨plainId_quiet PySem.F.plain_extend_loop _, gb_loopR (A1 := X.A) (zs := zs) (show X.A.handled = none from hr.hd) hil hT hzl fr hitH (fun s6 I6 => fin s6 I6) zs.length 0 _ rfl (Nat.zero_le _) I6⟩
  unfold PySem.W.StarOf notIterableAtAll
  obtain ⟨od, J⟩ := I.instAt ha
  exact wpAny_bind (wpAny_bind (J.type.here ((PySem.W.looks_findIn I.kIn hmI.at_).here (wpAny_pure ⟨rfl, col⟩))))
/-- *e in a display: a tuple, a list, or an own object with __iter__ -/
def tStarE (K : PySem.W.Frag) (C : Addr) (spI : Sp) (te : TE) (t : TA) : TA := fun σ H Q => te σ H fun x H1 => (∃ p xs, x = V.ref p ∧ (SqT K H1 p xs ∨ SqL K H1 p xs) ∧ t σ H1 fun ys H2 => Q (xs ++ ys) H2) ∨
  ∃ (a dx t0 : Addr) (fs : List (Str × V)) (zs : List V), x = .ref a ∧ H1 a = some (.ins C dx fs) ∧ SqT K H1 t0 zs ∧ zs.length < 1000 ∧
    (∀ l, H1 l = none → spI [.ref a] (upd H1 l (.lst [])) (fun v H' => ∃ it, v = .ref it ∧ upd H1 l (.lst []) it = none ∧ H' = upd (upd H1 l (.lst [])) it (ItT t0 it 0)) (fun _ _ _ => False)) ∧
    ∀ l it, H1 l = none → H1 it = none → it ≠ l → t σ (upd (upd H1 l (.lst zs)) it (ItX it)) fun ys H2 => Q (zs ++ ys) H2
theorem pa_starE {e : Expr} {es : List Expr} {te : TE} {tt : TA} {p : Pos} (hmI : Meth X.K C "__iter__" fi) (n1 : PySem.W.findIn X.K (.ref C) "__len__" = some none) (n2 : PySem.W.findIn X.K (.ref C) "__length_hint__" = some none) (FI : FnOk X.prog X.w X.K X.mg X.base CX0 k fi fd ps spI)
    (bI : Binds X.K fd ps []) (hrm : Room (k + 1) X.A) (he : PE X e te) (hr : PA X es tt) (hs : starEach (.Starred e p :: es) X.env = (true, eval e X.env) :: starEach es X.env := by rfl) : PA X (.Starred e p :: es) (tStarE X.K C spI te tt) := by
  refine ⟨fun pos pins s σ H Q I h => ?_⟩
  refine PySem.W.items_star (thn (he.run pins s σ H _ I h) fun v s1 ⟨y, H1, I1, ry, q0⟩ => ?_) hs
  rcases q0 with ⟨a, xs, ey, hx, q⟩ | ⟨a, dx, t0, fs, zs, ey, ha, hT, hz, q1, q⟩
  · subst ey
    obtain rfl : v = Value.ref a := ry
    refine StX.star_any I1 hx fun us s2 I2 rv => ?_
    exact thn (hr.run pos pins s2 σ H1 _ I2 q) fun ws s3 ⟨vs, H3, I3, r3, q3⟩ => ⟨xs ++ vs, H3, I3, rv.append r3, q3⟩
  · subst ey
    obtain rfl : v = Value.ref a := ry
    refine star_own hmI n1 n2 FI bI hrm I1 ha hT hz q1 fun l it us s2 f1 f2 hne I2 rv => ?_
    exact thn (hr.run pos pins s2 σ _ _ I2 (q l it f1 f2 hne)) fun ws s3 ⟨vs, H3, I3, r3, q3⟩ => ⟨zs ++ vs, H3, I3, rv.append r3, q3⟩
theorem pa_starEK (K : PySem.W.Frag) {e : Expr} {es : List Expr} {te : TE} {tt : TA} {p : Pos} (hmI : Meth X.K C "__iter__" fi) (n1 : PySem.W.findIn X.K (.ref C) "__len__" = some none) (n2 : PySem.W.findIn X.K (.ref C) "__length_hint__" = some none) (FI : FnOk X.prog X.w X.K X.mg X.base CX0 k fi fd ps spI)
    (bI : Binds X.K fd ps []) (hrm : Room (k + 1) X.A) (he : PE X e te) (hr : PA X es tt) (hK : X.K = K := by rfl) (hs : starEach (.Starred e p :: es) X.env = (true, eval e X.env) :: starEach es X.env := by rfl) : PA X (.Starred e p :: es) (tStarE K C spI te tt) := hK ▸ pa_starE hmI n1 n2 FI bI hrm he hr hs
end
end L2
/-! == of two lists of the same things, and of a thing with itself: nested tuples and lists of ints, texts, None -/
namespace L2
open PySem PySem.Spec PyProof.Rows
structure EqD (K : PySem.W.Frag) (H : Hp) (v : V) (n : Nat) : Prop where
  ex : ∃ d, Dp K H v d ∧ d.canLay0 = true ∧ d.depth ≤ n ∧ PyData.eqv d d = true
structure EqDs (K : PySem.W.Frag) (H : Hp) (vs : List V) (n : Nat) : Prop where
  ex : ∃ ds, DpAll K H vs ds ∧ PyData.canLayAll0 ds = true ∧ PyData.depthAll ds ≤ n ∧ PyData.eqvAll ds ds = true
section
variable {K : PySem.W.Frag} {H : Hp} {n : Nat}
theorem EqD.int (i : Int) : EqD K H (.int i) n := ⟨_, .int i, by simp [PyData.canLay0], by simp [PyData.depth], by simp [PyData.eqv]⟩
theorem EqD.bl (b : Bool) : EqD K H (.bl b) n := ⟨_, .bl b, by simp [PyData.canLay0], by simp [PyData.depth], by simp [PyData.eqv]⟩
theorem EqD.non : EqD K H .non n := ⟨_, .non, by simp [PyData.canLay0], by simp [PyData.depth], by simp [PyData.eqv]⟩
theorem EqD.str {z : Str} (h : PyData.strOk z = true) : EqD K H (.str z) n := ⟨_, .str z, by simp [PyData.canLay0, h], by simp [PyData.depth], by simp [PyData.eqv]⟩
theorem EqDs.nil : EqDs K H [] n := ⟨_, .nil, by simp [PyData.canLayAll0], by simp [PyData.depthAll], by simp [PyData.eqvAll]⟩
theorem EqDs.cons {v : V} {vs : List V} (h : EqD K H v n) (g : EqDs K H vs n) : EqDs K H (v :: vs) n := by
  obtain ⟨d, a1, a2, a3, a4⟩ := h.ex
  obtain ⟨ds, b1, b2, b3, b4⟩ := g.ex
  refine ⟨_, .cons a1 b1, by simp [PyData.canLayAll0, a2, b2], ?_, by simp [PyData.eqvAll, a4, b4]⟩
  simp only [PyData.depthAll]
  omega
theorem EqDs.map {α : Type} {f : α → V} : ∀ {l : List α}, (∀ x ∈ l, EqD K H (f x) n) → EqDs K H (l.map f) n
  | [], _ => .nil
  | x :: l, h => .cons (h x List.mem_cons_self) (EqDs.map fun y hy => h y (List.mem_cons_of_mem _ hy))
theorem EqDs.ints (l : List Int) : EqDs K H (l.map V.int) n := .map fun x _ => .int x
theorem EqD.tup {a : Addr} {xs : List V} (h : SqT K H a xs) (g : EqDs K H xs n) : EqD K H (.ref a) (n + 1) := by
  obtain ⟨ds, b1, b2, b3, b4⟩ := g.ex
  refine ⟨_, .tup h b1, by simp [PyData.canLay0, b2], ?_, by simp [PyData.eqv, b4]⟩
  simp only [PyData.depth]
  omega
end
end L2
/-! list(zip(a, b)) of two tuples of one length: each pair that came out stays in the list, so that the next one is new -/
namespace GZ
open PySem
section
variable {prog : Program} {w : World} {A : Around} {E : Value → Shared → Prop} {s : Shared} {z TI TO T j1 j2 a b : Addr} {f : Bool} {oT : Obj} {n1 n2 : Nat} {xs ys : Array Value} {x y : Value}
theorem held_item {Q : Value → Shared → Prop} (D : ZipApart z TI TO j1 j2 a b) (hZ : IsZipHeld s.heap z TI TO T f) (hT : s.heap.get? T = some oT) (hP : IsPair s.heap TI (.ref j1) (.ref j2))
    (it1 : s.heap.IsTupleIter j1 a n1) (it2 : s.heap.IsTupleIter j2 b n2) (ta : s.heap.IsTuple a xs) (tb : s.heap.IsTuple b ys) (ex : xs[n1]? = some x) (ey : ys[n2]? = some y)
    (q : ∀ h', IsZipHeld h' z TI TO T true → h'.IsTupleIter j1 a (n1 + 1) → h'.IsTupleIter j2 b (n2 + 1) → IsPair h' s.heap.objs.size x y → (∀ c o, c ≠ z → c ≠ j1 → c ≠ j2 → s.heap.get? c = some o → h'.get? c = some o) →
      Q (.ref s.heap.objs.size) { s with heap := h' }) :
    wpAny (model prog w) A (Builtin.«zip.__next__» ⟨[.ref z], []⟩) (fun fin s' => ∃ v, fin = .done (.ret v) ∧ Q v s') E s := by
  show wpAny (model prog w) A (field (.ref z) 2 >>= _) _ _ _
  refine wpAny_bind (wpAny_field (x := .bool false) hZ rfl rfl ?_)
  show wpAny (model prog w) A (field (.ref z) 3 >>= _) _ _ _
  refine wpAny_bind (wpAny_field (x := .ref TI) hZ rfl rfl (wpAny_bind (wpAny_seqItems hP rfl ?_)))
  show wpAny (model prog w) A (Builtin.SmallTypes.ownedTupleIsFree (.ref z) >>= _) _ _ _
  refine wpAny_bind (wpAny_tupleHeld_zip hZ hT fun u1 Z1 b1 => ?_)
  simp only [Bool.false_eq_true, if_false]
  refine wpAny_bind ?_
  rw [← Array.forIn_toList]
  simp only [List.forIn_cons, List.forIn_nil]
  refine wpAny_bind (wpAny_bind (wpAny_holding ?_))
  show wpAny (model prog w) A (Builtin.SmallTypes.nextOf (.ref j1) >>= _) _ _ _
  have e1 := b1.extBut
  refine wpAny_bind (RZ.nextOf_tuple_item (s := { s with heap := u1 }) (it1.extBut e1 D.i1z) (ta.extBut e1 D.l1z) ex fun u2 I2 b2 => wpAny_pure (wpAny_pure ?_))
  have e2 := b2.extBut
  refine wpAny_bind (wpAny_bind (wpAny_holding ?_))
  show wpAny (model prog w) A (Builtin.SmallTypes.nextOf (.ref j2) >>= _) _ _ _
  refine wpAny_bind (RZ.nextOf_tuple_item (s := { s with heap := u2 }) ((it2.extBut e1 D.i2z).extBut e2 D.i12.symm) ((tb.extBut e1 D.l2z).extBut e2 D.l2i1) ey fun u3 I3 b3 => wpAny_pure (wpAny_pure (wpAny_pure ?_)))
  have e3 := b3.extBut
  show wpAny (model prog w) A (newTuple [x, y] >>= _) _ _ _
  refine wpAny_bind (wpAny_newTuple ?_)
  have sz : u3.objs.size = s.heap.objs.size := (b3.1.trans b2.1).trans b1.1
  have up : ∀ c o, c ≠ z → c ≠ j1 → c ≠ j2 → s.heap.get? c = some o → u3.get? c = some o := fun c o c1 c2 c3 e => e3 _ _ c3 (e2 _ _ c2 (e1 _ _ c1 e))
  refine wpAny_pure ⟨_, rfl, ?_⟩
  show Q (.ref u3.objs.size) _
  have new : IsPair (u3.push { cls := .type "tuple", data := .seq #[x, y] }) u3.objs.size x y := Heap.get?_push_size _ rfl
  rw [sz] at new ⊢
  exact q _ (Heap.get?_push_of_some _ (e3 _ _ D.i2z.symm (e2 _ _ D.i1z.symm Z1))) ((I2.extBut e3 D.i12).at fun o e => Heap.get?_push_of_some _ e) (I3.at fun o e => Heap.get?_push_of_some _ e) new
    fun c o c1 c2 c3 e => Heap.get?_push_of_some _ (up c o c1 c2 c3 e)
end
end GZ
namespace L2
open PySem PySem.Spec PyProof.Rows StX
/-- a zip at z over the tuples at a and b, i pairs of which have come out -/
def ZSt (H : Hp) (h : Heap) (z TI TO j1 j2 a b : Addr) (i : Nat) : Prop := IsPair h TI (.ref j1) (.ref j2) ∧ h.IsTupleIter j1 a i ∧ h.IsTupleIter j2 b i ∧ (∃ o, h.get? TO = some o) ∧ ((IsZip h z TI TO .none ∧ ∃ x y, IsPair h TO x y) ∨ ∃ T f p, IsZipHeld h z TI TO T f ∧ H T = some (.tup p))
section
variable {X : Cx} {pins : List (Addr × Obj)} {σ : L2.St} {H : Hp} {s : Shared} {z TI TO j1 j2 a b q : Addr} {i : Nat} {xs ys : List V} {x y : V} {A : Around}
theorem ZSt.keep {H' : Hp} {h h' : Heap} (st : ZSt H h z TI TO j1 j2 a b i) (k : ∀ c ∈ [z, TI, TO, j1, j2], ∀ o, h.get? c = some o → h'.get? c = some o) (t : ∀ T p, H T = some (.tup p) → H' T = some (.tup p)) : ZSt H' h' z TI TO j1 j2 a b i := by
  obtain ⟨c1, c2, c3, ⟨o0, c0⟩, c4⟩ := st
  refine ⟨k TI (by simp) _ c1, c2.at fun o e => k j1 (by simp) o e, c3.at fun o e => k j2 (by simp) o e, ⟨o0, k TO (by simp) _ c0⟩, ?_⟩
  rcases c4 with ⟨e, u, v, e2⟩ | ⟨T, f, p, e, e2⟩
  · exact .inl ⟨k z (by simp) _ e, u, v, k TO (by simp) _ e2⟩
  · exact .inr ⟨T, f, p, k z (by simp) _ e, t T p e2⟩
end
end L2
/-! enumerate(zip(a, b)) of two tuples -/
namespace GE
open PySem
section
variable {prog : Program} {w : World} {A : Around} {E : Value → Shared → Prop} {s : Shared} {z e it : Addr}
/-- what zip hands out, as next(..) of it sees it -/
theorem nextOf_zip {Q : Value → Shared → Prop} (ty : s.TypeIs (.ref z) "zip") (h : wpAny (model prog w) A.in1 (Builtin.«zip.__next__» ⟨[.ref z], []⟩) (fun fin s' => ∃ v, fin = .done (.ret v) ∧ Q v s') E s) : wpAny (model prog w) A (Builtin.SmallTypes.nextOf (.ref z)) Q E s := by
  unfold Builtin.SmallTypes.nextOf
  refine wpAny_bind (wpAny_callSpecial?_slot (name := Str.ofString "__next__") ty F.slot_zip_next (wpAny_call_entry F.slot_zip_next ty F.entry_zip_next (wpAny_mono h (fun fin s' hq => ?_) fun _ _ q => q) (F.args_zip_next_1 _)))
  obtain ⟨v, hv, q⟩ := hq
  exact ⟨v, hv, wpAny_pure q⟩
/-- one turn of enumerate over whatever hands x out -/
theorem enum_item {i : Nat} {x old : Value} {Pr : Heap → Prop} {Q : Value → Shared → Prop} (he : IsEnum s.heap e it i old)
    (hn : ∀ Q' : Value → Shared → Prop, (∀ h1, Pr h1 → Q' x { s with heap := h1 }) → wpAny (model prog w) A (Builtin.SmallTypes.nextOf (.ref it)) Q' E s) (hp : ∀ h1, Pr h1 → h1.get? e = s.heap.get? e)
    (q : ∀ h1 h', Pr h1 → IsEnumOut h' e it ((i : Int) + 1) x h1.objs.size → h'.get? h1.objs.size = some { cls := .type "tuple", data := .seq #[.int i s.toks, x] } → h'.objs.size = h1.objs.size + 1 → (∀ b o, b ≠ e → h1.get? b = some o → h'.get? b = some o) →
      Q (.ref h1.objs.size) { s with heap := h', toks := s.toks + 1 }) :
    wpAny (model prog w) A (Builtin.«enumerate.__next__» ⟨[.ref e], []⟩) (fun fin s' => ∃ v, fin = .done (.ret v) ∧ Q v s') E s := by
  obtain ⟨hp0, g, d, tk, os⟩ := s
  show wpAny (model prog w) A (field (.ref e) 2 >>= _) _ _ _
  refine wpAny_bind (wpAny_field he rfl (x := .ref it) rfl (wpAny_bind (hn _ fun u1 p1 => ?_)))
  have e1 : IsEnum u1 e it i old := (hp u1 p1).trans he
  show wpAny (model prog w) A (field (.ref e) 3 >>= _) _ _ _
  refine wpAny_bind (wpAny_field e1 rfl (x := rawInt i) rfl ?_)
  show wpAny (model prog w) A (field (.ref e) 4 >>= _) _ _ _
  refine wpAny_bind (wpAny_field e1 rfl (x := .none) rfl ?_)
  show wpAny (model prog w) A (mkInt i >>= _) _ _ _
  refine wpAny_bind (wpAny_mkInt ?_)
  show wpAny (model prog w) A (setField (.ref e) 3 (rawInt ((i : Int) + 1)) >>= _) _ _ _
  refine wpAny_bind (wpAny_setField_rec e1 (by simp) fun u2 e2 b2 => ?_)
  have e2 : IsEnum u2 e it ((i : Int) + 1) old := e2
  have b2 : Heap.SameBut e u1 u2 := b2
  show wpAny (model prog w) A (setField (.ref e) 4 .none >>= _) _ _ _
  refine wpAny_bind (wpAny_setField_rec e2 (by simp) fun u3 e3 b3 => ?_)
  have e3 : IsEnum u3 e it ((i : Int) + 1) old := e3
  have b3 : Heap.SameBut e u2 u3 := b3
  show wpAny (model prog w) A (newTuple [.int i tk, x] >>= _) _ _ _
  refine wpAny_bind (wpAny_newTuple ?_)
  have z3 : u3.objs.size = u1.objs.size := b3.1.trans b2.1
  have el : e < u3.objs.size := Heap.lt_size e3
  have e4 : IsEnum (u3.push { cls := .type "tuple", data := .seq #[.int i tk, x] }) e it ((i : Int) + 1) old := Heap.get?_push_of_some _ e3
  have t4 : (u3.push { cls := .type "tuple", data := .seq #[.int i tk, x] }).get? u3.objs.size = some { cls := .type "tuple", data := .seq #[.int i tk, x] } := Heap.get?_push_size _ rfl
  have z4 : (u3.push { cls := .type "tuple", data := .seq #[.int i tk, x] }).objs.size = u3.objs.size + 1 := Heap.size_push _ _
  have k4 : ∀ b o, b ≠ e → u1.get? b = some o → (u3.push { cls := .type "tuple", data := .seq #[.int i tk, x] }).get? b = some o := fun b o hb ho => Heap.get?_push_of_some _ (b3.extBut b o hb (b2.extBut b o hb ho))
  show wpAny (model prog w) A (Builtin.SmallTypes.ownedTupleIsFree (.ref e) >>= _) _ _ ⟨u3.push { cls := .type "tuple", data := .seq #[.int i tk, x] }, g, d, tk + 1, os⟩
  generalize u3.push { cls := .type "tuple", data := .seq #[.int i tk, x] } = u4 at e4 t4 z4 k4 ⊢
  refine wpAny_bind ?_
  unfold Builtin.SmallTypes.ownedTupleIsFree
  refine wpAny_bind (wpAny_field e4 rfl (x := .none) rfl (wpAny_pure ?_))
  rw [if_pos rfl]
  refine wpAny_bind (wpAny_rule (wpAny_bind (wpAny_field e4 rfl (x := old) rfl (wpAny_bind (wpAny_setField_rec e4 (by simp) fun u5 e5 b5 => ?_)))))
  have e5 : IsEnum u5 e it ((i : Int) + 1) x := e5
  have b5 : Heap.SameBut e u4 u5 := b5
  show wpAny (model prog w) A (Builtin.SmallTypes.ownedTupleHandOut (.ref e) (.ref u3.objs.size) >>= _) _ _ _
  refine wpAny_bind ?_
  unfold Builtin.SmallTypes.ownedTupleHandOut
  refine wpAny_bind (wpAny_setField_rec e5 (by simp) fun u6 e6 b6 => ?_)
  have e6 : IsEnumOut u6 e it ((i : Int) + 1) x u3.objs.size := e6
  have b6 : Heap.SameBut e u5 u6 := b6
  refine wpAny_setField_rec e6 (by simp) fun u7 e7 b7 => ?_
  have e7 : IsEnumOut u7 e it ((i : Int) + 1) x u3.objs.size := e7
  have b7 : Heap.SameBut e u6 u7 := b7
  refine wpAny_bind (wpAny_letGo (wpAny_pure ⟨_, rfl, ?_⟩))
  have ne : u3.objs.size ≠ e := Nat.ne_of_gt el
  show Q (.ref u3.objs.size) _
  rw [z3] at e7 t4 z4 ne ⊢
  exact q u1 u7 p1 e7 (b7.extBut _ _ ne (b6.extBut _ _ ne (b5.extBut _ _ ne t4))) (by rw [b7.1, b6.1, b5.1, z4]) fun b o hb ho => b7.extBut b o hb (b6.extBut b o hb (b5.extBut b o hb (k4 b o hb ho)))
theorem py_enum_item {i : Nat} {x old : Value} {Pr : Heap → Prop} {Q : Option Value → Shared → Prop} (he : IsEnum s.heap e it i old)
    (hn : ∀ (E' : Value → Shared → Prop) (Q' : Value → Shared → Prop), (∀ h1, Pr h1 → Q' x { s with heap := h1 }) → wpAny (model prog w) A.in1 (Builtin.SmallTypes.nextOf (.ref it)) Q' E' s) (hp : ∀ h1, Pr h1 → h1.get? e = s.heap.get? e)
    (q : ∀ h1 h', Pr h1 → IsEnumOut h' e it ((i : Int) + 1) x h1.objs.size → h'.get? h1.objs.size = some { cls := .type "tuple", data := .seq #[.int i s.toks, x] } → h'.objs.size = h1.objs.size + 1 → (∀ b o, b ≠ e → h1.get? b = some o → h'.get? b = some o) →
      Q (some (.ref h1.objs.size)) { s with heap := h', toks := s.toks + 1 }) : wpAny (model prog w) A (pyNext (.ref e)) Q E s := by
  have ty : s.TypeIs (.ref e) "enumerate" := ⟨_, he, rfl⟩
  unfold pyNext
  exact wpAny_bind (wpAny_attempt (wpAny_callSpecial?_slot (name := Str.ofString "__next__") ty F.slot_enumerate_next (wpAny_call_entry F.slot_enumerate_next ty F.entry_enumerate_next (enum_item (Pr := Pr) he (fun Q' h => hn _ Q' h) hp fun h1 h' a b c d k => wpAny_pure (q h1 h' a b c d k)) (F.args_enumerate_next_1 _))))
theorem py_enum_end {i : Nat} {old : Value} {Pr : Heap → Prop} {Q : Option Value → Shared → Prop} (he : IsEnum s.heap e it i old)
    (hn : ∀ (E' : Value → Shared → Prop) (Q' : Value → Shared → Prop), (∀ h1 x, Pr h1 → (∃ o, h1.get? x = some o ∧ o.cls = .type "StopIteration") → E' (.ref x) { s with heap := h1 }) → wpAny (model prog w) A.in1 (Builtin.SmallTypes.nextOf (.ref it)) Q' E' s)
    (q : ∀ h1, Pr h1 → Q none { s with heap := h1 }) : wpAny (model prog w) A (pyNext (.ref e)) Q E s := by
  have ty : s.TypeIs (.ref e) "enumerate" := ⟨_, he, rfl⟩
  unfold pyNext
  refine wpAny_bind (wpAny_attempt (wpAny_callSpecial?_slot (name := Str.ofString "__next__") ty F.slot_enumerate_next (wpAny_call_entry F.slot_enumerate_next ty F.entry_enumerate_next ?_ (F.args_enumerate_next_1 _))))
  show wpAny (model prog w) A.in1 (field (.ref e) 2 >>= _) _ _ _
  refine wpAny_bind (wpAny_field he rfl (x := .ref it) rfl (wpAny_bind (hn _ _ fun u1 x p1 hx => ?_)))
  obtain ⟨o, ho, hc⟩ := hx
  exact wpAny_bind (wpAny_isInstance (T := "StopIteration") (b := true) ⟨o, ho, hc⟩ isSubtype_stop (wpAny_pure (q u1 p1)))
/-- a zip whose first field is v -/
abbrev ZO (h : Heap) (z TI TO : Addr) (v : Value) (f : Bool) : Prop := h.get? z = some { cls := .type "zip", dict := none, data := .fields #[v, .bool f, .bool false, .ref TI, .ref TO], slots := #[] }
theorem gone {a : Addr} {Q : Option Obj → Shared → Prop} (ho : s.heap.get? a = none) (h : Q none s) : wpAny (model prog w) A (loadIfAlive a) Q E s := by
  have h' : Q (s.heap.get? a) s := by rw [ho]; exact h
  exact fun _ _ _ => h'
/-- its pair is lost: it may be filled again -/
theorem lost_free {TI TO T : Addr} {f : Bool} {Q : Bool → Shared → Prop} (hZ : ZO s.heap z TI TO (rawInt T) f) (hT : s.heap.get? T = none) (h : Q true s) : wpAny (model prog w) A (Builtin.SmallTypes.ownedTupleIsFree (.ref z)) Q E s := by
  unfold Builtin.SmallTypes.ownedTupleIsFree
  refine wpAny_bind (wpAny_field hZ rfl (x := rawInt T) rfl ?_)
  show wpAny (model prog w) A (loadIfAlive ((T : Int).toNat) >>= _) _ _ _
  rw [Int.toNat_natCast]
  refine wpAny_bind (gone hT ?_)
  simp only [Option.isNone_none, if_true]
  exact wpAny_pure h
section
variable {TI TO T j1 j2 a b : Addr} {f : Bool} {n1 n2 : Nat} {xs ys : Array Value} {x y p0 q0 : Value}
theorem lost_item {Q : Value → Shared → Prop} (D : ZipApart z TI TO j1 j2 a b) (hZ : ZO s.heap z TI TO (rawInt T) f) (hT : s.heap.get? T = none) (hP : IsPair s.heap TI (.ref j1) (.ref j2)) (hO : IsPair s.heap TO p0 q0)
    (it1 : s.heap.IsTupleIter j1 a n1) (it2 : s.heap.IsTupleIter j2 b n2) (ta : s.heap.IsTuple a xs) (tb : s.heap.IsTuple b ys) (ex : xs[n1]? = some x) (ey : ys[n2]? = some y)
    (q : ∀ h', ZO h' z TI TO (rawInt s.heap.objs.size) false → IsPair h' TO x y → h'.IsTupleIter j1 a (n1 + 1) → h'.IsTupleIter j2 b (n2 + 1) → IsPair h' s.heap.objs.size x y → h'.objs.size = s.heap.objs.size + 1 →
      (∀ c o, c ≠ z → c ≠ TO → c ≠ j1 → c ≠ j2 → s.heap.get? c = some o → h'.get? c = some o) → Q (.ref s.heap.objs.size) { s with heap := h' }) :
    wpAny (model prog w) A (Builtin.«zip.__next__» ⟨[.ref z], []⟩) (fun fin s' => ∃ v, fin = .done (.ret v) ∧ Q v s') E s := by
  show wpAny (model prog w) A (field (.ref z) 2 >>= _) _ _ _
  refine wpAny_bind (wpAny_field hZ rfl (x := .bool false) rfl ?_)
  show wpAny (model prog w) A (field (.ref z) 3 >>= _) _ _ _
  refine wpAny_bind (wpAny_field hZ rfl (x := .ref TI) rfl (wpAny_bind (wpAny_seqItems hP rfl ?_)))
  show wpAny (model prog w) A (Builtin.SmallTypes.ownedTupleIsFree (.ref z) >>= _) _ _ _
  refine wpAny_bind (lost_free hZ hT ?_)
  rw [if_pos rfl]
  refine wpAny_bind (wpAny_rule (wpAny_bind (wpAny_field hZ rfl (x := .ref TO) rfl (wpAny_bind (wpAny_setField_rec hZ (by simp) fun u1 Z1 b1 => ?_)))))
  have Z1 : ZO u1 z TI TO .ellipsis f := Z1
  have e1 := (show Heap.SameBut z s.heap u1 from b1).extBut
  have g1 := (show Heap.SameBut z s.heap u1 from b1).1
  refine wpAny_bind ?_
  simp only [List.zipIdx_cons, List.zipIdx_nil, List.forIn_cons, List.forIn_nil]
  refine wpAny_bind (wpAny_bind (wpAny_onRaise ?_))
  show wpAny (model prog w) A (Builtin.SmallTypes.nextOf (.ref j1) >>= _) _ _ _
  refine wpAny_bind (RZ.nextOf_tuple_item (s := { s with heap := u1 }) (it1.extBut e1 D.i1z) (ta.extBut e1 D.l1z) ex fun u2 I2 b2 => wpAny_pure ?_)
  have e2 := (show Heap.SameBut j1 u1 u2 from b2).extBut
  have g2 := (show Heap.SameBut j1 u1 u2 from b2).1
  have O2 : IsPair u2 TO p0 q0 := e2 _ _ D.TOi1 (e1 _ _ D.TOz hO)
  refine wpAny_bind (wpAny_seqItems O2 rfl (wpAny_bind (wpAny_updateSeq_pair O2 fun u3 O3 b3 => wpAny_bind (wpAny_letGo (wpAny_pure ?_)))))
  have O3 : IsPair u3 TO x q0 := O3
  have e3 := (show Heap.SameBut TO u2 u3 from b3).extBut
  have g3 := (show Heap.SameBut TO u2 u3 from b3).1
  refine wpAny_bind (wpAny_bind (wpAny_onRaise ?_))
  show wpAny (model prog w) A (Builtin.SmallTypes.nextOf (.ref j2) >>= _) _ _ _
  refine wpAny_bind (RZ.nextOf_tuple_item (s := { s with heap := u3 }) (((it2.extBut e1 D.i2z).extBut e2 D.i12.symm).extBut e3 D.TOi2.symm) (((tb.extBut e1 D.l2z).extBut e2 D.l2i1).extBut e3 D.l2TO) ey fun u4 I4 b4 => wpAny_pure ?_)
  have e4 := (show Heap.SameBut j2 u3 u4 from b4).extBut
  have g4 := (show Heap.SameBut j2 u3 u4 from b4).1
  have O4 : IsPair u4 TO x q0 := e4 _ _ D.TOi2 O3
  refine wpAny_bind (wpAny_seqItems O4 rfl (wpAny_bind (wpAny_updateSeq_pair O4 fun u5 O5 b5 => wpAny_bind (wpAny_letGo (wpAny_pure (wpAny_pure ?_))))))
  have O5 : IsPair u5 TO x y := O5
  have e5 := (show Heap.SameBut TO u4 u5 from b5).extBut
  have g5 := (show Heap.SameBut TO u4 u5 from b5).1
  refine wpAny_bind (wpAny_seqItems O5 rfl (wpAny_bind (wpAny_newTuple ?_)))
  have sz : u5.objs.size = s.heap.objs.size := g5.trans (g4.trans (g3.trans (g2.trans g1)))
  have Z5 : ZO u5 z TI TO .ellipsis f := e5 _ _ D.TOz.symm (e4 _ _ D.i2z.symm (e3 _ _ D.TOz.symm (e2 _ _ D.i1z.symm Z1)))
  have up5 : ∀ c o, c ≠ z → c ≠ TO → c ≠ j1 → c ≠ j2 → s.heap.get? c = some o → u5.get? c = some o := fun c o c1 c2 c3 c4 k => e5 _ _ c2 (e4 _ _ c4 (e3 _ _ c2 (e2 _ _ c3 (e1 _ _ c1 k))))
  have J1 : u5.IsTupleIter j1 a (n1 + 1) := ((I2.extBut e3 D.TOi1.symm).extBut e4 D.i12).extBut e5 D.TOi1.symm
  have J2 : u5.IsTupleIter j2 b (n2 + 1) := I4.extBut e5 D.TOi2.symm
  have zl : u5.objs.size ≠ z := Nat.ne_of_gt (Heap.lt_size Z5)
  show wpAny (model prog w) A (Builtin.SmallTypes.ownedTupleHandOut (.ref z) (.ref u5.objs.size) >>= _) _ _ _
  refine wpAny_bind ?_
  unfold Builtin.SmallTypes.ownedTupleHandOut
  have Z6 : ZO (u5.push { cls := .type "tuple", data := .seq #[x, y] }) z TI TO .ellipsis f := Heap.get?_push_of_some _ Z5
  refine wpAny_bind (wpAny_setField_rec Z6 (by simp) fun u7 Z7 b7 => ?_)
  have Z7 : ZO u7 z TI TO (rawInt u5.objs.size) f := Z7
  refine wpAny_setField_rec Z7 (by simp) fun u8 Z8 b8 => ?_
  have Z8 : ZO u8 z TI TO (rawInt u5.objs.size) false := Z8
  have e7 := (show Heap.SameBut z _ u7 from b7).extBut
  have e8 := (show Heap.SameBut z u7 u8 from b8).extBut
  have up : ∀ c o, c ≠ z → u5.get? c = some o → u8.get? c = some o := fun c o c1 k => e8 _ _ c1 (e7 _ _ c1 (Heap.get?_push_of_some _ k))
  have P8 : IsPair u8 u5.objs.size x y := e8 _ _ zl (e7 _ _ zl (Heap.get?_push_size _ rfl))
  have z8 : u8.objs.size = u5.objs.size + 1 := by
    rw [(show Heap.SameBut z u7 u8 from b8).1, (show Heap.SameBut z _ u7 from b7).1, Heap.size_push]
  refine wpAny_pure ⟨_, rfl, ?_⟩
  show Q (.ref u5.objs.size) _
  rw [sz] at Z8 P8 z8 ⊢
  exact q u8 Z8 (up _ _ D.TOz O5) (J1.at fun o k => up _ o D.i1z k) (J2.at fun o k => up _ o D.i2z k) P8 z8 fun c o c1 c2 c3 c4 k => up c o c1 (up5 c o c1 c2 c3 c4 k)
end
end
end GE
namespace GE
open PySem
/-- a zip at z over the tuples at a and b, i pairs of which have come out; nothing is said of its last pair -/
def ZS (h : Heap) (z TI TO j1 j2 a b : Addr) (i : Nat) : Prop := IsPair h TI (.ref j1) (.ref j2) ∧ (∃ p q, IsPair h TO p q) ∧ h.IsTupleIter j1 a i ∧ h.IsTupleIter j2 b i ∧ (ZO h z TI TO .none false ∨ ∃ (T : Addr) (f : Bool), ZO h z TI TO (rawInt T) f)
theorem ZS.keep {h h' : Heap} {z TI TO j1 j2 a b : Addr} {i : Nat} (st : ZS h z TI TO j1 j2 a b i) (k : ∀ c ∈ [z, TI, TO, j1, j2], ∀ o, h.get? c = some o → h'.get? c = some o) : ZS h' z TI TO j1 j2 a b i := by
  obtain ⟨c1, ⟨p, q, c2⟩, c3, c4, c5⟩ := st
  refine ⟨k TI (by simp) _ c1, ⟨p, q, k TO (by simp) _ c2⟩, c3.at fun o e => k j1 (by simp) o e, c4.at fun o e => k j2 (by simp) o e, ?_⟩
  rcases c5 with e | ⟨T, f, e⟩
  · exact .inl (k z (by simp) _ e)
  · exact .inr ⟨T, f, k z (by simp) _ e⟩
theorem ZS.type {s : Shared} {z TI TO j1 j2 a b : Addr} {i : Nat} (st : ZS s.heap z TI TO j1 j2 a b i) : s.TypeIs (.ref z) "zip" := by
  obtain ⟨_, _, _, _, e | ⟨T, f, e⟩⟩ := st
  · exact ⟨_, e, rfl⟩
  · exact ⟨_, e, rfl⟩
section
variable {prog : Program} {w : World} {A : Around} {E : Value → Shared → Prop} {s : Shared} {z TI TO j1 j2 a b : Addr} {i : Nat} {xs ys : Array Value} {x y : Value}
theorem any_item {Q : Value → Shared → Prop} (D : ZipApart z TI TO j1 j2 a b) (st : ZS s.heap z TI TO j1 j2 a b i) (ta : s.heap.IsTuple a xs) (tb : s.heap.IsTuple b ys) (ex : xs[i]? = some x) (ey : ys[i]? = some y)
    (q : ∀ h', ZS h' z TI TO j1 j2 a b (i + 1) → IsPair h' s.heap.objs.size x y → (∀ c o, c ∉ [z, TI, TO, j1, j2] → s.heap.get? c = some o → h'.get? c = some o) → Q (.ref s.heap.objs.size) { s with heap := h' }) :
    wpAny (model prog w) A (Builtin.«zip.__next__» ⟨[.ref z], []⟩) (fun fin s' => ∃ v, fin = .done (.ret v) ∧ Q v s') E s := by
  obtain ⟨P1, ⟨p, r, P2⟩, t1, t2, c5⟩ := st
  rcases c5 with Z | ⟨T, f, Z⟩
  · exact RZ.zipT_next_item D Z P1 P2 t1 t2 ta tb ex ey fun h' Z' P2' t1' t2' e _ kp => q h' ⟨kp _ _ D.TIz D.TITO D.TIi1 D.TIi2 P1, ⟨_, _, P2'⟩, t1', t2', .inr ⟨_, false, Z'⟩⟩ e fun c o hc => kp c o (fun w => hc (by simp [w])) (fun w => hc (by simp [w])) (fun w => hc (by simp [w])) fun w => hc (by simp [w])
  · cases hT : s.heap.get? T with
    | none => exact lost_item D Z hT P1 P2 t1 t2 ta tb ex ey fun h' Z' P2' t1' t2' e _ kp => q h' ⟨kp _ _ D.TIz D.TITO D.TIi1 D.TIi2 P1, ⟨_, _, P2'⟩, t1', t2', .inr ⟨_, false, Z'⟩⟩ e fun c o hc => kp c o (fun w => hc (by simp [w])) (fun w => hc (by simp [w])) (fun w => hc (by simp [w])) fun w => hc (by simp [w])
    | some oT => exact GZ.held_item D Z hT P1 t1 t2 ta tb ex ey fun h' Z' t1' t2' e kp => q h' ⟨kp _ _ D.TIz D.TIi1 D.TIi2 P1, ⟨p, r, kp _ _ D.TOz D.TOi1 D.TOi2 P2⟩, t1', t2', .inr ⟨T, true, Z'⟩⟩ e fun c o hc => kp c o (fun w => hc (by simp [w])) (fun w => hc (by simp [w])) fun w => hc (by simp [w])
end
/-- enumerate(z) of a new zip -/
theorem meets_enum_zip (z TI TO : Addr) : Meets (Builtin.«enumerate.__new__» ⟨[.type "enumerate", .ref z], []⟩) (fun _ R s => IsZip s.heap z TI TO .none ∧
    R (.ok (.ret (.ref s.heap.objs.size))) { s with heap := s.heap.push { cls := .type "enumerate", data := .fields #[.none, .bool false, .ref z, rawInt 0, .none, .none] } }) :=
  .of_wp fun prog w A R s h => by
    obtain ⟨hp, g, d, tk, os⟩ := s
    obtain ⟨hz, h⟩ := h
    have hsub := sub_enumerate
    have hZ : IsZip (Shared.heap ⟨hp, g, d, tk, os⟩) z TI TO .none := hz
    wp_walk using AutoSeq1.wpAny_loadPart' hz
    refine wpAny_stack_any fun st => wpAny_pure ?_
    split
    · rename_i c _ _ _ _ _
      cases (c == Value.type "enumerate") <;> (wp_walk using AutoSeq1.wpAny_loadPart' hz, wpAny_pyIter_zip hZ; exact ⟨_, rfl, h⟩)
    · wp_walk using AutoSeq1.wpAny_loadPart' hz, wpAny_pyIter_zip hZ
      exact ⟨_, rfl, h⟩
theorem call_enum_zip {prog : Program} {w : World} {A : Around} {E : Value → Shared → Prop} {s : Shared} {z TI TO : Addr} {Q : Value → Shared → Prop} (hz : IsZip s.heap z TI TO .none)
    (h : ∀ h', IsEnum h' s.heap.objs.size z 0 .none → h'.objs.size = s.heap.objs.size + 1 → (∀ b o, s.heap.get? b = some o → h'.get? b = some o) → Q (.ref s.heap.objs.size) { s with heap := h' }) : wpAny (model prog w) A (call (.type "enumerate") [.ref z]) Q E s := by
  refine callType_new F.called_enumerate (by decide) (F.typeCall_enumerate_1 _) (F.newCall_enumerate_1 _) (fun obj => F.args_object_init_2 obj _) F.entry_enumerate_new (meets_enum_zip z TI TO) ⟨hz, ?_⟩
  have e : IsEnum (s.heap.push { cls := .type "enumerate", data := .fields #[.none, .bool false, .ref z, rawInt 0, .none, .none] }) s.heap.objs.size z 0 .none := Heap.get?_push_size _ rfl
  exact ⟨⟨_, e, rfl⟩, h _ e (Heap.size_push _ _) fun b o k => Heap.get?_push_of_some _ k⟩
end GE
namespace L2
open PySem PySem.Spec PyProof.Rows GE
end L2
/-! enumerate(zip(x, y)) of two objects of own classes whose __iter__ gives a tuple's iterator -/
namespace L2
open PySem PySem.Spec PyProof.Rows GE
section
variable {prog : Program} {w : World} {A : Around} {E : Value → Shared → Prop} {s : Shared}
/-- zip(v, u), the calls of iter being told -/
theorem call_zipV {v u : Value} {Q : Value → Shared → Prop} (hit : wpAny (model prog w) A.in1.in1 (pyIter v) (fun r s1 => ∃ j1, r = .ref j1 ∧ wpAny (model prog w) A.in1.in1 (pyIter u) (fun r2 s2 => ∃ j2, r2 = .ref j2 ∧
      ∀ h', IsZip h' (s2.heap.objs.size + 2) s2.heap.objs.size (s2.heap.objs.size + 1) .none → IsPair h' s2.heap.objs.size (.ref j1) (.ref j2) → IsPair h' (s2.heap.objs.size + 1) .none .none → h'.objs.size = s2.heap.objs.size + 3 →
        (∀ b o, s2.heap.get? b = some o → h'.get? b = some o) → Q (.ref (s2.heap.objs.size + 2)) { s2 with heap := h' }) E s1) E s) : wpAny (model prog w) A (call (.type "zip") [v, u]) Q E s := by
  refine callType_codes (Q₁ := fun obj s1 => s1.TypeIs obj "zip" ∧ Q obj s1) F.called_zip (F.typeCall_zip_2 _ _) F.entry_object_init ?_ fun obj s1 h1 => ?_
  · refine codeAny_call_builtin F.called_zip.plain F.entry_zip_new (wpAny_of_eq (F.newCall_zip_2 _ _) ?_)
    have hsub := sub_zip
    have q1 : ∀ {E' : Value → Shared → Prop} {Q' : Value → Shared → Prop}, (∀ r s1, (∃ j1, r = .ref j1 ∧ wpAny (model prog w) A.in1.in1 (pyIter u) (fun r2 s2 => ∃ j2, r2 = .ref j2 ∧
      ∀ h', IsZip h' (s2.heap.objs.size + 2) s2.heap.objs.size (s2.heap.objs.size + 1) .none → IsPair h' s2.heap.objs.size (.ref j1) (.ref j2) → IsPair h' (s2.heap.objs.size + 1) .none .none → h'.objs.size = s2.heap.objs.size + 3 →
        (∀ b o, s2.heap.get? b = some o → h'.get? b = some o) → Q (.ref (s2.heap.objs.size + 2)) { s2 with heap := h' }) E s1) → Q' r s1) → (∀ e s1, E e s1 → E' e s1) → wpAny (model prog w) A.in1.in1 (pyIter v) Q' E' s :=
      fun f g => wpAny_mono hit f g
    wp_walk using q1
    all_goals first | exact fun e s1 h => h | skip
    rintro r s1 ⟨j1, rfl, h2⟩
    have q2 : ∀ {E' : Value → Shared → Prop} {Q' : Value → Shared → Prop}, (∀ r2 s2, (∃ j2, r2 = .ref j2 ∧
      ∀ h', IsZip h' (s2.heap.objs.size + 2) s2.heap.objs.size (s2.heap.objs.size + 1) .none → IsPair h' s2.heap.objs.size (.ref j1) (.ref j2) → IsPair h' (s2.heap.objs.size + 1) .none .none → h'.objs.size = s2.heap.objs.size + 3 →
        (∀ b o, s2.heap.get? b = some o → h'.get? b = some o) → Q (.ref (s2.heap.objs.size + 2)) { s2 with heap := h' }) → Q' r2 s2) → (∀ e s1, E e s1 → E' e s1) → wpAny (model prog w) A.in1.in1 (pyIter u) Q' E' s1 :=
      fun f g => wpAny_mono h2 f g
    wp_walk using q2
    all_goals first | exact fun e s1 h => h | skip
    rintro r2 s2 ⟨j2, rfl, hq⟩
    obtain ⟨hp, g, d, tk, os⟩ := s2
    wp_walk
    have key : ∀ (T1 T2 T3 : Obj), T1.isFreed = false → T2.isFreed = false → T3.isFreed = false →
        (((hp.push T1).push T2).push T3).get? (hp.objs.size + 2) = some T3 ∧ (((hp.push T1).push T2).push T3).get? (hp.objs.size + 1) = some T2 ∧ (((hp.push T1).push T2).push T3).get? hp.objs.size = some T1 ∧ (((hp.push T1).push T2).push T3).objs.size = hp.objs.size + 3 ∧ ((hp.push T1).push T2).objs.size = hp.objs.size + 2 ∧ (hp.push T1).objs.size = hp.objs.size + 1 := by
      intro T1 T2 T3 f1 f2 f3
      have z1 : (hp.push T1).objs.size = hp.objs.size + 1 := Heap.size_push ..
      have z2 : ((hp.push T1).push T2).objs.size = hp.objs.size + 2 := by rw [Heap.size_push, z1]
      have z3 : (((hp.push T1).push T2).push T3).objs.size = hp.objs.size + 3 := by rw [Heap.size_push, z2]
      have g3 := Heap.get?_push_size ((hp.push T1).push T2) f3
      have g2 := Heap.get?_push_of_some T3 (Heap.get?_push_size (hp.push T1) f2)
      have g1 := Heap.get?_push_of_some T3 (Heap.get?_push_of_some T2 (Heap.get?_push_size hp f1))
      rw [z2] at g3
      rw [z1] at g2
      exact ⟨g3, g2, g1, z3, z2, z1⟩
    obtain ⟨g3, g2, g1, z3, z2, z1⟩ := key { cls := .type "tuple", data := .seq #[.ref j1, .ref j2] } { cls := .type "tuple", data := .seq #[.none, .none] } { cls := .type "zip", data := .fields #[.none, .bool false, .bool false, .ref hp.objs.size, .ref (hp.objs.size + 1)] } rfl rfl rfl
    have kp : ∀ (T1 T2 T3 : Obj) (b : Addr) (o : Obj), hp.get? b = some o → (((hp.push T1).push T2).push T3).get? b = some o := fun T1 T2 T3 b o e => Heap.get?_push_of_some _ (Heap.get?_push_of_some _ (Heap.get?_push_of_some _ e))
    have fin := hq _ g3 g1 g2 z3 (kp _ _ _)
    have go : ∀ n1 n2 : Nat, n1 = hp.objs.size + 1 → n2 = hp.objs.size + 2 →
        Shared.TypeIs { heap := ((hp.push { cls := .type "tuple", data := .seq #[.ref j1, .ref j2] }).push { cls := .type "tuple", data := .seq #[.none, .none] }).push { cls := .type "zip", data := .fields #[.none, .bool false, .bool false, .ref hp.objs.size, .ref n1] }, gens := g, drawn := d, toks := tk, os := os } (.ref n2) "zip" ∧
          Q (.ref n2) { heap := ((hp.push { cls := .type "tuple", data := .seq #[.ref j1, .ref j2] }).push { cls := .type "tuple", data := .seq #[.none, .none] }).push { cls := .type "zip", data := .fields #[.none, .bool false, .bool false, .ref hp.objs.size, .ref n1] }, gens := g, drawn := d, toks := tk, os := os } := by
      rintro n1 n2 rfl rfl
      exact ⟨⟨_, g3, rfl⟩, fin⟩
    exact go _ _ z1 z2
  · exact ⟨h1.1, F.args_object_init_3 obj _ _, object_init_meets F.called_zip.init.lookup F.called_zip.made (by decide) prog w A.in1 _ s1 ⟨h1.1, rfl, h1.2⟩⟩
end
theorem Spent.at {h h' : Heap} {it : Addr} (q : Spent h it) (k : ∀ o, h.get? it = some o → h'.get? it = some o) : Spent h' it := let ⟨o, v, a, b, c⟩ := q; ⟨o, v, k o a, b, c⟩
section
variable {prog : Program} {w : World} {A : Around} {E : Value → Shared → Prop} {s : Shared} {z TI TO j1 j2 a b T : Addr} {f : Bool} {i : Nat} {xs : Array Value} {oT : Obj}
theorem lostU_end {Q : Fin → Shared → Prop} (hh : A.handled = none) (D : ZipApart z TI TO j1 j2 a b) (hZ : ZO s.heap z TI TO (rawInt T) f) (hT : s.heap.get? T = none) (hP : IsPair s.heap TI (.ref j1) (.ref j2))
    (hd : ∀ (u : Heap) (Q' : Value → Shared → Prop) (E' : Value → Shared → Prop), (∀ c o, c ≠ z → s.heap.get? c = some o → u.get? c = some o) → (∀ h' x, (∀ c o, c ≠ j1 → u.get? c = some o → h'.get? c = some o) → Spent h' j1 → (∃ o, h'.get? x = some o ∧ o.cls = .type "StopIteration") → E' (.ref x) { s with heap := h' }) →
      wpAny (model prog w) A (Builtin.SmallTypes.nextOf (.ref j1)) Q' E' { s with heap := u })
    (q : ∀ h' r, (∀ c o, c ≠ z → c ≠ j1 → s.heap.get? c = some o → h'.get? c = some o) → Spent h' j1 → (∃ o, h'.get? r = some o ∧ o.cls = .type "StopIteration") → E (.ref r) { s with heap := h' }) :
    wpAny (model prog w) A (Builtin.«zip.__next__» ⟨[.ref z], []⟩) Q E s := by
  show wpAny (model prog w) A (field (.ref z) 2 >>= _) _ _ _
  refine wpAny_bind (wpAny_field hZ rfl (x := .bool false) rfl ?_)
  show wpAny (model prog w) A (field (.ref z) 3 >>= _) _ _ _
  refine wpAny_bind (wpAny_field hZ rfl (x := .ref TI) rfl (wpAny_bind (wpAny_seqItems hP rfl ?_)))
  show wpAny (model prog w) A (Builtin.SmallTypes.ownedTupleIsFree (.ref z) >>= _) _ _ _
  refine wpAny_bind (lost_free hZ hT ?_)
  rw [if_pos rfl]
  refine wpAny_bind (wpAny_rule (wpAny_bind (wpAny_field hZ rfl (x := .ref TO) rfl (wpAny_bind (wpAny_setField_rec hZ (by simp) fun u1 Z1 b1 => ?_)))))
  have Z1 : ZO u1 z TI TO .ellipsis f := Z1
  have e1 := (show Heap.SameBut z s.heap u1 from b1).extBut
  refine wpAny_bind ?_
  simp only [List.zipIdx_cons, List.zipIdx_nil, List.forIn_cons, List.forIn_nil]
  refine wpAny_bind (wpAny_bind (wpAny_onRaise ?_))
  show wpAny (model prog w) A (Builtin.SmallTypes.nextOf (.ref j1) >>= _) _ _ _
  refine wpAny_bind (hd u1 _ _ (fun c o c1 k => e1 _ _ c1 k) fun u2 r b2 sp he => ?_)
  obtain ⟨o, ho, hc⟩ := he
  have Z2 : ZO u2 z TI TO .ellipsis f := b2 _ _ D.i1z.symm Z1
  have rz : r ≠ z := fun k => by subst k; rw [Z2] at ho; cases ho; simp at hc
  exact wpAny_setField_rec Z2 (by simp) fun u3 _ b3 => q u3 r (fun c o c1 c3 k => (show Heap.SameBut z u2 u3 from b3).extBut _ _ c1 (b2 _ _ c3 (e1 _ _ c1 k))) (sp.at fun o k => (show Heap.SameBut z u2 u3 from b3).extBut _ _ D.i1z k) ⟨o, (show Heap.SameBut z u2 u3 from b3).extBut _ _ rz ho, hc⟩
theorem noneU_end {Q : Fin → Shared → Prop} (hh : A.handled = none) (D : ZipApart z TI TO j1 j2 a b) (hZ : ZO s.heap z TI TO .none false) (hP : IsPair s.heap TI (.ref j1) (.ref j2))
    (hd : ∀ (u : Heap) (Q' : Value → Shared → Prop) (E' : Value → Shared → Prop), (∀ c o, c ≠ z → s.heap.get? c = some o → u.get? c = some o) → (∀ h' x, (∀ c o, c ≠ j1 → u.get? c = some o → h'.get? c = some o) → Spent h' j1 → (∃ o, h'.get? x = some o ∧ o.cls = .type "StopIteration") → E' (.ref x) { s with heap := h' }) →
      wpAny (model prog w) A (Builtin.SmallTypes.nextOf (.ref j1)) Q' E' { s with heap := u })
    (q : ∀ h' r, (∀ c o, c ≠ z → c ≠ j1 → s.heap.get? c = some o → h'.get? c = some o) → Spent h' j1 → (∃ o, h'.get? r = some o ∧ o.cls = .type "StopIteration") → E (.ref r) { s with heap := h' }) :
    wpAny (model prog w) A (Builtin.«zip.__next__» ⟨[.ref z], []⟩) Q E s := by
  show wpAny (model prog w) A (field (.ref z) 2 >>= _) _ _ _
  refine wpAny_bind (wpAny_field hZ rfl (x := .bool false) rfl ?_)
  show wpAny (model prog w) A (field (.ref z) 3 >>= _) _ _ _
  refine wpAny_bind (wpAny_field hZ rfl (x := .ref TI) rfl (wpAny_bind (wpAny_seqItems hP rfl ?_)))
  show wpAny (model prog w) A (Builtin.SmallTypes.ownedTupleIsFree (.ref z) >>= _) _ _ _
  refine wpAny_bind ?_
  unfold Builtin.SmallTypes.ownedTupleIsFree
  refine wpAny_bind (wpAny_field hZ rfl (x := .none) rfl (wpAny_pure ?_))
  rw [if_pos rfl]
  refine wpAny_bind (wpAny_rule (wpAny_bind (wpAny_field hZ rfl (x := .ref TO) rfl (wpAny_bind (wpAny_setField_rec hZ (by simp) fun u1 Z1 b1 => ?_)))))
  have Z1 : ZO u1 z TI TO .ellipsis false := Z1
  have e1 := (show Heap.SameBut z s.heap u1 from b1).extBut
  refine wpAny_bind ?_
  simp only [List.zipIdx_cons, List.zipIdx_nil, List.forIn_cons, List.forIn_nil]
  refine wpAny_bind (wpAny_bind (wpAny_onRaise ?_))
  show wpAny (model prog w) A (Builtin.SmallTypes.nextOf (.ref j1) >>= _) _ _ _
  refine wpAny_bind (hd u1 _ _ (fun c o c1 k => e1 _ _ c1 k) fun u2 r b2 sp he => ?_)
  obtain ⟨o, ho, hc⟩ := he
  have Z2 : ZO u2 z TI TO .ellipsis false := b2 _ _ D.i1z.symm Z1
  have rz : r ≠ z := fun k => by subst k; rw [Z2] at ho; cases ho; simp at hc
  exact wpAny_setField_rec Z2 (by simp) fun u3 _ b3 => q u3 r (fun c o c1 c3 k => (show Heap.SameBut z u2 u3 from b3).extBut _ _ c1 (b2 _ _ c3 (e1 _ _ c1 k))) (sp.at fun o k => (show Heap.SameBut z u2 u3 from b3).extBut _ _ D.i1z k) ⟨o, (show Heap.SameBut z u2 u3 from b3).extBut _ _ rz ho, hc⟩
theorem heldU_end {Q : Fin → Shared → Prop} (hh : A.handled = none) (D : ZipApart z TI TO j1 j2 a b) (hZ : ZO s.heap z TI TO (rawInt T) f) (hT : s.heap.get? T = some oT) (hP : IsPair s.heap TI (.ref j1) (.ref j2))
    (hd : ∀ (u : Heap) (Q' : Value → Shared → Prop) (E' : Value → Shared → Prop), (∀ c o, c ≠ z → s.heap.get? c = some o → u.get? c = some o) → (∀ h' x, (∀ c o, c ≠ j1 → u.get? c = some o → h'.get? c = some o) → Spent h' j1 → (∃ o, h'.get? x = some o ∧ o.cls = .type "StopIteration") → E' (.ref x) { s with heap := h' }) →
      wpAny (model prog w) A (Builtin.SmallTypes.nextOf (.ref j1)) Q' E' { s with heap := u })
    (q : ∀ h' r, (∀ c o, c ≠ z → c ≠ j1 → s.heap.get? c = some o → h'.get? c = some o) → Spent h' j1 → (∃ o, h'.get? r = some o ∧ o.cls = .type "StopIteration") → E (.ref r) { s with heap := h' }) :
    wpAny (model prog w) A (Builtin.«zip.__next__» ⟨[.ref z], []⟩) Q E s := by
  show wpAny (model prog w) A (field (.ref z) 2 >>= _) _ _ _
  refine wpAny_bind (wpAny_field (x := .bool false) hZ rfl rfl ?_)
  show wpAny (model prog w) A (field (.ref z) 3 >>= _) _ _ _
  refine wpAny_bind (wpAny_field (x := .ref TI) hZ rfl rfl (wpAny_bind (wpAny_seqItems hP rfl ?_)))
  show wpAny (model prog w) A (Builtin.SmallTypes.ownedTupleIsFree (.ref z) >>= _) _ _ _
  refine wpAny_bind (PySem.wpAny_tupleHeld_zip hZ hT fun u1 Z1 b1 => ?_)
  simp only [Bool.false_eq_true, if_false]
  refine wpAny_bind ?_
  rw [← Array.forIn_toList]
  simp only [List.forIn_cons, List.forIn_nil]
  refine wpAny_bind (wpAny_bind (wpAny_holding ?_))
  show wpAny (model prog w) A (Builtin.SmallTypes.nextOf (.ref j1) >>= _) _ _ _
  have e1 := b1.extBut
  exact wpAny_bind (hd u1 _ _ (fun c o c1 k => e1 _ _ c1 k) fun u2 r b2 sp he => q u2 r (fun c o c1 c2 k => b2 _ _ c2 (e1 _ _ c1 k)) sp he)
/-- a zip at z over the iterators at j1 and j2; nothing is said of its last pair -/
def ZW (h : Heap) (z TI TO j1 j2 : Addr) : Prop := IsPair h TI (.ref j1) (.ref j2) ∧ (∃ p q, IsPair h TO p q) ∧ (ZO h z TI TO .none false ∨ ∃ (T : Addr) (f : Bool), ZO h z TI TO (rawInt T) f)
theorem ZW.keep {h h' : Heap} {z TI TO j1 j2 : Addr} (st : ZW h z TI TO j1 j2) (k : ∀ c ∈ [z, TI, TO], ∀ o, h.get? c = some o → h'.get? c = some o) : ZW h' z TI TO j1 j2 := by
  obtain ⟨c1, ⟨p, q, c2⟩, c5⟩ := st
  refine ⟨k TI (by simp) _ c1, ⟨p, q, k TO (by simp) _ c2⟩, ?_⟩
  rcases c5 with e | ⟨T, f, e⟩
  · exact .inl (k z (by simp) _ e)
  · exact .inr ⟨T, f, k z (by simp) _ e⟩
theorem ZW.type {s : Shared} {z TI TO j1 j2 : Addr} (st : ZW s.heap z TI TO j1 j2) : s.TypeIs (.ref z) "zip" := by
  obtain ⟨_, _, e | ⟨T, f, e⟩⟩ := st
  · exact ⟨_, e, rfl⟩
  · exact ⟨_, e, rfl⟩
theorem anyU_end {Q : Fin → Shared → Prop} (hh : A.handled = none) (D : ZipApart z TI TO j1 j2 a b) (st : ZW s.heap z TI TO j1 j2) (it1 : s.heap.IsTupleIter j1 a i ∨ Spent s.heap j1) (ta : s.heap.IsTuple a xs) (ex : xs[i]? = none)
    (q : ∀ h' r, (∀ c o, c ≠ z → c ≠ j1 → s.heap.get? c = some o → h'.get? c = some o) → Spent h' j1 → (∃ o, h'.get? r = some o ∧ o.cls = .type "StopIteration") → E (.ref r) { s with heap := h' }) :
    wpAny (model prog w) A (Builtin.«zip.__next__» ⟨[.ref z], []⟩) Q E s := by
  obtain ⟨P1, ⟨p, r, P2⟩, c5⟩ := st
  have hd : ∀ (u : Heap) (Q' : Value → Shared → Prop) (E' : Value → Shared → Prop), (∀ c o, c ≠ z → s.heap.get? c = some o → u.get? c = some o) → (∀ h' x, (∀ c o, c ≠ j1 → u.get? c = some o → h'.get? c = some o) → Spent h' j1 → (∃ o, h'.get? x = some o ∧ o.cls = .type "StopIteration") → E' (.ref x) { s with heap := h' }) →
      wpAny (model prog w) A (Builtin.SmallTypes.nextOf (.ref j1)) Q' E' { s with heap := u } := by
    intro u Q' E' ku k
    rcases it1 with it1 | sp
    · refine tuple_done (s := { s with heap := u }) hh (it1.at fun o e => ku _ o D.i1z e) (let ⟨o, e, c⟩ := ta; ⟨o, ku _ o D.l1z e, c⟩) ex fun h' x b2 sp he => k h' x (fun c o c1 e => b2 _ _ c1 e) sp he
    · have sp := sp.at fun o e => ku _ o D.i1z e
      exact spent_done (s := { s with heap := u }) hh sp fun h' x b2 he => k h' x (fun c o _ e => b2 _ _ e) (sp.at fun o e => b2 _ _ e) he
  rcases c5 with Z | ⟨T, f, Z⟩
  · exact noneU_end hh D Z P1 hd q
  · cases hT : s.heap.get? T with
    | none => exact lostU_end hh D Z hT P1 hd q
    | some oT => exact heldU_end hh D Z hT P1 hd q
end
/-- the items of the tuples at t and u in new pairs behind their numbers; at it and jt the iterators -/
def ItEZU (K : PySem.W.Frag) (t u it jt : Addr) (n : Nat) : It :=
  ⟨fun i H => H it = some (ItU t it i n) ∧ H jt = some (ItU u jt i n) ∧ i < n ∧ ∃ (xs ys : List V) (x y : V), SqT K H t xs ∧ SqT K H u ys ∧ xs[i]? = some x ∧ ys[i]? = some y,
    fun i H v H' => ∃ (T0 T : Addr) (x y : V), v = .ref T ∧ H T0 = none ∧ upd (upd (upd H it (ItU t it (i + 1) n)) jt (ItU u jt (i + 1) n)) T0 (.tup [x, y]) T = none ∧
      H' = upd (upd (upd (upd H it (ItU t it (i + 1) n)) jt (ItU u jt (i + 1) n)) T0 (.tup [x, y])) T (.tup [.int (i : Nat), .ref T0]) ∧ (∀ xs, SqT K H t xs → xs[i]? = some x) ∧ ∀ ys, SqT K H u ys → ys[i]? = some y,
    fun i H => H it = some (ItU t it i n) ∧ H jt = some (ItU u jt i n) ∧ i = n ∧ ∃ xs : List V, SqT K H t xs ∧ i = xs.length⟩
theorem turn_EZU {P : Program} {w : World} {K : PySem.W.Frag} {elts : List Expr} {kk : Nat} {tpos : Pos} {t u e z TI TO it jt : Addr} {n : Nat} (D : ZipApart z TI TO it jt t u) (ne : e ∉ [z, TI, TO]) (ei : e ≠ it) (ej : e ≠ jt) :
    Turn P w K (.Tuple elts kk tpos) (ItEZU K t u it jt n) [e, z, TI, TO] e (fun i h => (∃ old, IsEnum h e z ((i : Nat) : Int) old) ∧ ZW h z TI TO it jt) where
  mem := by simp
  obj := fun i h st c hc => by
    obtain ⟨⟨old, he⟩, P1, ⟨p, q, P2⟩, c5⟩ := st
    simp only [List.mem_cons, List.not_mem_nil, or_false] at hc
    rcases hc with r | r | r | r <;> rw [r]
    · exact ⟨_, he, fun v k => nomatch k⟩
    · rcases c5 with Z | ⟨T, f, Z⟩
      · exact ⟨_, Z, fun v k => nomatch k⟩
      · exact ⟨_, Z, fun v k => nomatch k⟩
    · exact ⟨_, P1, fun v k => nomatch k⟩
    · exact ⟨_, P2, fun v k => nomatch k⟩
  keep := fun i h h' st k => ⟨let ⟨old, he⟩ := st.1; ⟨old, k e (by simp) _ he⟩, st.2.keep fun c hc o x => k c (List.mem_cons_of_mem _ hc) o x⟩
  item := by
    intro X hP hw hK hc i pins s σ H E I hf st hg
    subst hP hw hK
    obtain ⟨⟨old, he⟩, hZ⟩ := st
    obtain ⟨hI, hJ, hin, xs, ys, x, y, qa, qb, ex, ey⟩ := hg
    have hi : s.heap.IsTupleIter it t i := (itU_get I hI).elim id fun z => absurd z.1 (Nat.ne_of_lt hin)
    have hj : s.heap.IsTupleIter jt u i := (itU_get I hJ).elim id fun z => absurd z.1 (Nat.ne_of_lt hin)
    obtain ⟨us, rv, pa, _⟩ := I.tuple qa
    obtain ⟨ws, rw_, pb, _⟩ := I.tuple qb
    obtain ⟨a1, hu, ru⟩ := rv.get ex
    obtain ⟨b1, hv, rw2⟩ := rw_.get ey
    have fr : H s.heap.objs.size = none := I.hok.fresh (Nat.le_refl _)
    have hZS : ZS s.heap z TI TO it jt t u i := ⟨hZ.1, hZ.2.1, hi, hj, hZ.2.2⟩
    refine py_enum_item (x := .ref s.heap.objs.size) (Pr := fun h1 => ZS h1 z TI TO it jt t u (i + 1) ∧ IsPair h1 s.heap.objs.size a1 b1 ∧ ∀ c o, c ∉ [z, TI, TO, it, jt] → s.heap.get? c = some o → h1.get? c = some o) he
      (fun E' Q' k => nextOf_zip hZ.type (any_item D hZS pa pb (x := a1) (y := b1) (by simpa using hu) (by simpa using hv) fun h1 c1 c2 c3 => k h1 ⟨c1, c2, c3⟩)) (fun h1 hp => by
        have ne5 : e ∉ [z, TI, TO, it, jt] := fun q => by
          simp only [List.mem_cons, List.not_mem_nil, or_false] at q ne
          rcases q with q | q | q | q | q
          · exact ne (.inl q)
          · exact ne (.inr (.inl q))
          · exact ne (.inr (.inr q))
          · exact ei q
          · exact ej q
        rw [hp.2.2 e _ ne5 he]; exact he.symm) ?_
    rintro h1 h2 ⟨c1, c2, c3⟩ eo eT esz kp
    have l1 : s.heap.objs.size < h1.objs.size := Heap.lt_size c2
    have el : e < s.heap.objs.size := Heap.lt_size he
    refine ⟨_, rfl, wpAny_letOwnedTupleGo_enum (s := { s with heap := h2, toks := s.toks + 1 }) eo fun h3 e3 sb => ?_⟩
    have k3 : ∀ c o, c ≠ e → h1.get? c = some o → h3.get? c = some o := fun c o hc k => (sb.2 c hc).trans (kp c o hc k)
    obtain ⟨c11, c12, ti1, tj1, c15⟩ := c1
    obtain ⟨oi, hoi, hci, hdi⟩ := id ti1
    obtain ⟨oj, hoj, hcj, hdj⟩ := id tj1
    obtain ⟨oi0, hoi0, _, _⟩ := id hi
    obtain ⟨oj0, hoj0, _, _⟩ := id hj
    have nij : it ≠ jt := D.i12
    -- the iterators turn first
    have hs1 : (s.heap.update it (fun _ => oi)).get? it = some oi := Heap.get?_update_self _ hoi0 (Obj.isFreed_of_fields hdi)
    have I1 := I.write (x := it) (e := it) (o := ItU t it (i + 1) n) (h' := s.heap.update it (fun _ => oi)) (t' := s.toks) (by rw [hI]; exact True.intro) (.inl rfl)
      (fun b o nb z => (Heap.get?_update_ne _ _ _ _ nb).trans z) ⟨_, hs1⟩ (itU_ok (.inl ⟨oi, hs1, hci, hdi⟩))
    have hJ1 : upd H it (ItU t it (i + 1) n) jt = some (ItU u jt i n) := by rw [upd_ne nij.symm]; exact hJ
    have hoj1 : (s.heap.update it (fun _ => oi)).get? jt = some oj0 := (Heap.get?_update_ne _ _ _ _ nij.symm).trans hoj0
    have hs2 : ((s.heap.update it (fun _ => oi)).update jt (fun _ => oj)).get? jt = some oj := Heap.get?_update_self _ hoj1 (Obj.isFreed_of_fields hdj)
    have I2 := I1.write (x := jt) (e := jt) (o := ItU u jt (i + 1) n) (h' := (s.heap.update it (fun _ => oi)).update jt (fun _ => oj)) (t' := s.toks) (by rw [hJ1]; exact True.intro) (.inl rfl)
      (fun b o nb z => (Heap.get?_update_ne _ _ _ _ nb).trans z) ⟨_, hs2⟩ (itU_ok (.inl ⟨oj, hs2, hcj, hdj⟩))
    have hsz : ((s.heap.update it (fun _ => oi)).update jt (fun _ => oj)).objs.size = s.heap.objs.size := by rw [Heap.size_update, Heap.size_update]
    generalize hHH : upd (upd H it (ItU t it (i + 1) n)) jt (ItU u jt (i + 1) n) = HH at I2 ⊢
    have HHn : ∀ c, c ≠ it → c ≠ jt → HH c = H c := fun c c1 c2 => by rw [← hHH, upd_ne c2, upd_ne c1]
    have zfp : ∀ c ∈ [e, z, TI, TO], FpOk X pins HH c := fun c hc => by
      obtain ⟨f0, f1⟩ := hf c hc
      have cn : c ≠ it ∧ c ≠ jt := by
        simp only [List.mem_cons, List.not_mem_nil, or_false] at hc
        rcases hc with r | r | r | r <;> rw [r]
        · exact ⟨ei, ej⟩
        · exact ⟨D.i1z.symm, D.i2z.symm⟩
        · exact ⟨D.TIi1, D.TIi2⟩
        · exact ⟨D.TOi1, D.TOi2⟩
      exact ⟨by rw [HHn c cn.1 cn.2]; exact f0, f1⟩
    have I3 : Inv X pins σ (upd HH s.heap.objs.size (.tup [x, y])) { s with heap := h1 } := I2.turnedNew (t' := s.toks) (ch := [z, TI, TO]) (fun c o hc k => by
        by_cases q1 : c = jt
        · subst q1
          have k : ((s.heap.update it (fun _ => oi)).update c (fun _ => oj)).get? c = some o := k
          rw [hs2] at k; cases k; exact hoj
        · have k : ((s.heap.update it (fun _ => oi)).update jt (fun _ => oj)).get? c = some o := k
          rw [Heap.get?_update_ne _ _ _ _ q1] at k
          by_cases q2 : c = it
          · subst q2; rw [hs1] at k; cases k; exact hoi
          · rw [Heap.get?_update_ne _ _ _ _ q2] at k
            refine c3 c o (fun q => hc ?_) k
            simp only [List.mem_cons, List.not_mem_nil, or_false] at q ⊢
            rcases q with q | q | q | q | q
            · exact .inl q
            · exact .inr (.inl q)
            · exact .inr (.inr q)
            · exact absurd q q2
            · exact absurd q q1) (fun c hc => zfp c (List.mem_cons_of_mem _ hc)) (Nat.le_of_eq hsz) ⟨by show 2 ≤ sizeLine; decide, [a1, b1], .cons ru (.cons rw2 .nil), ⟨_, c2, rfl, _, rfl⟩⟩
    have T3 : h3.get? h1.objs.size = some { cls := .type "tuple", data := .seq #[.int i s.toks, .ref s.heap.objs.size] } := (sb.2 _ (Nat.ne_of_gt (Nat.lt_trans el l1))).trans eT
    have hfe : FpOk X pins (upd HH s.heap.objs.size (.tup [x, y])) e := by
      obtain ⟨f0, f1⟩ := zfp e (by simp)
      exact ⟨by rw [upd_ne (Nat.ne_of_lt el)]; exact f0, f1⟩
    have I4 : Inv X pins σ (upd (upd HH s.heap.objs.size (.tup [x, y])) h1.objs.size (.tup [.int (i : Nat), .ref s.heap.objs.size])) { s with heap := h3, toks := s.toks + 1 } :=
      I3.turnedNew (t' := s.toks + 1) (ch := [e]) (fun c o hc k => k3 c o (fun w => hc (by simp [w])) k) (fun c hc => by rw [List.mem_singleton.mp hc]; exact hfe) (Nat.le_refl _)
        ⟨by show 2 ≤ sizeLine; decide, [.int i s.toks, .ref s.heap.objs.size], .cons ⟨_, rfl⟩ (.cons rfl .nil), ⟨_, T3, rfl, _, rfl⟩⟩
    refine ⟨.ref h1.objs.size, _, I4, rfl, ⟨s.heap.objs.size, h1.objs.size, x, y, rfl, fr, ?_, ?_, fun l hl => by rw [I.tuple_inj hl qa]; exact ex, fun l hl => by rw [I.tuple_inj hl qb]; exact ey⟩, ⟨⟨.ref s.heap.objs.size, ?_⟩, (show ZW h1 z TI TO it jt from ⟨c11, c12, c15⟩).keep fun c hc o k => k3 c o (fun w => ne (w ▸ hc)) k⟩, fun c hc => ?_⟩
    · rw [hHH]; exact I3.hok.fresh (Nat.le_refl _)
    · rw [hHH]
    · have e1 : ((i + 1 : Nat) : Int) = (i : Int) + 1 := by omega
      rw [e1]; exact e3
    · have lt : c < s.heap.objs.size := by
        obtain ⟨P1, ⟨p, q, P2⟩, c5⟩ := hZ
        simp only [List.mem_cons, List.not_mem_nil, or_false] at hc
        rcases hc with r | r | r | r <;> rw [r]
        · exact el
        · rcases c5 with Z | ⟨T, f, Z⟩ <;> exact Heap.lt_size Z
        · exact Heap.lt_size P1
        · exact Heap.lt_size P2
      rw [upd_ne (Nat.ne_of_lt (Nat.lt_trans lt l1)), upd_ne (Nat.ne_of_lt lt)]
      exact (zfp c hc).1
  done := by
    intro X hP hw hK hc i pins s σ H E I hf st hg
    subst hP hw hK
    obtain ⟨⟨old, he⟩, hZ⟩ := st
    obtain ⟨hI, hJ, hin, xs, qa, hx⟩ := hg
    obtain ⟨us, rv, pa, _⟩ := I.tuple qa
    have hl := rv.length
    have h0 : s.heap.IsTupleIter it t i ∨ Spent s.heap it := (itU_get I hI).elim .inl fun z => .inr z.2
    refine py_enum_end (Pr := fun h1 => (∀ c o, c ≠ z → c ≠ it → s.heap.get? c = some o → h1.get? c = some o) ∧ Spent h1 it) he (fun E' Q' k => ?_) fun h1 ⟨p1, sp⟩ => ⟨rfl, ?_⟩
    · unfold Builtin.SmallTypes.nextOf
      exact wpAny_bind (wpAny_callSpecial?_slot (name := Str.ofString "__next__") hZ.type F.slot_zip_next (wpAny_call_entry F.slot_zip_next hZ.type F.entry_zip_next (anyU_end (I.ok.hd hc) D hZ h0 pa (by simp; omega) fun h' r kp sp hr => k h' r ⟨kp, sp⟩ hr) (F.args_zip_next_1 _)))
    · obtain ⟨oi, vi, hoi, hci, hdi⟩ := id sp
      have hex : ∃ o, s.heap.get? it = some o := by
        rcases h0 with ⟨o, a, _⟩ | ⟨o, v, a, _⟩
        · exact ⟨o, a⟩
        · exact ⟨o, a⟩
      obtain ⟨oi0, hoi0⟩ := hex
      have hs1 : (s.heap.update it (fun _ => oi)).get? it = some oi := Heap.get?_update_self _ hoi0 (Obj.isFreed_of_fields hdi)
      have I1 := I.write (x := it) (e := it) (o := ItU t it i n) (h' := s.heap.update it (fun _ => oi)) (t' := s.toks) (by rw [hI]; exact True.intro) (.inl rfl)
        (fun b o nb z => (Heap.get?_update_ne _ _ _ _ nb).trans z) ⟨_, hs1⟩ (itU_ok (.inr ⟨hin, ⟨oi, vi, hs1, hci, hdi⟩⟩))
      have e0 : upd H it (ItU t it i n) = H := by
        funext b
        unfold upd
        split
        · rename_i z; rw [z, hI]
        · rfl
      rw [e0] at I1
      exact Inv.turnedL (s := { s with heap := s.heap.update it (fun _ => oi) }) I1 (t' := s.toks) (ch := [z, TI, TO]) (fun c o hc k => by
        have k : (s.heap.update it (fun _ => oi)).get? c = some o := k
        by_cases q : c = it
        · subst q; rw [hs1] at k; cases k; exact hoi
        · rw [Heap.get?_update_ne _ _ _ _ q] at k
          exact p1 c o (fun w => hc (by simp [w])) q k) fun c hc => hf c (List.mem_cons_of_mem _ hc)
  self := fun A i s Q E st h => let ⟨⟨_, he⟩, _⟩ := st; wpAny_pyIter_enum he h
section
variable {X : Cx} {k : Nat} {fi C : Addr} {fd : FuncData} {ps : List Str} {sp : Sp}
def iEZO (K : PySem.W.Frag) (C : Addr) (sp : Sp) (ta : TA) : TI := fun σ H R => ta σ H fun vs H1 => ∃ (a dx b dy : Addr) (fs gs : List (Str × V)), vs = [.ref a, .ref b] ∧ H1 a = some (.ins C dx fs) ∧ H1 b = some (.ins C dy gs) ∧
  sp [.ref a] H1 (fun v H2 => ∃ (it t : Addr) (xs : List V), v = .ref it ∧ H1 it = none ∧ H2 = upd H1 it (ItT t it 0) ∧ SqT K H1 t xs ∧
    sp [.ref b] H2 (fun v2 H3 => ∃ (jt u : Addr) (ys : List V), v2 = .ref jt ∧ H2 jt = none ∧ H3 = upd H2 jt (ItT u jt 0) ∧ SqT K H1 u ys ∧ xs.length = ys.length ∧ R (ItEZU K t u it jt xs.length) (upd (upd H1 it (ItU t it 0 xs.length)) jt (ItU u jt 0 xs.length))) (fun _ _ _ => False)) (fun _ _ _ => False)
theorem pi_enumZO {e e2 : Expr} {ta : TA} {p p2 pos pos2 tpos : Pos} {elts : List Expr} {kk : Nat} (hmI : Meth X.K C "__iter__" fi) (FI : FnOk X.prog X.w X.K X.mg X.base CX0 k fi fd ps sp) (bI : Binds X.K fd ps []) (hr : Room (k + 2) X.A)
    (hg : Gl X "enumerate") (hm : X.mg "enumerate" = none) (hg2 : Gl X "zip") (hm2 : X.mg "zip" = none) (ha : PA X [e, e2] ta)
    (hs : starEach [e, e2] X.env = (false, eval e X.env) :: starEach [e2] X.env := by rfl) (hpl : (backTo pos2 (starEach [e2] X.env)).any (·.1) = false := by rfl)
    (na : starEach [.Call (.Name "zip" p2) [e, e2] [] pos2] X.env = (false, eval (.Call (.Name "zip" p2) [e, e2] [] pos2) X.env) :: starEach [] X.env := by rfl) :
    PI X (.Tuple elts kk tpos) (.Call (.Name "enumerate" p) [.Call (.Name "zip" p2) [e, e2] [] pos2] [] pos) (iEZO X.K C sp ta) := by
  refine ⟨fun pins s σ H R I h => ?_⟩
  refine Call_ (ld_blt I hg hm boot_enumerate (PyProof.Rows.callWith_type1 (args_cons (Call_ (ld_blt I hg2 hm2 PyProof.Rows.boot_zip (PyProof.Rows.callWith_type1 (thn (ha.run pos2 pins s σ H _ I h) fun us s1 ⟨vs, H1, I1, r1, q1⟩ => ?_) hs hpl))) na) na))
  obtain ⟨a, dx, b, dy, fs, gs, ex, qa, qb, q⟩ := q1
  subst ex
  cases r1 with
  | cons ra rr =>
    cases rr with
    | cons rb rr =>
      cases rr
      cases ra
      cases rb
      obtain ⟨od, J⟩ := I1.instAt qa
      obtain ⟨m0, hF⟩ := I1.fr
      have rI : Room k X.A.in1.in1 := (hr.in1 (k := k + 1)).in1
      refine call_zipV (PySem.W.owit_iter hF I1.ok.mod.kin J hmI.at_ hmI.fn ?_)
      refine wpAny_mono (run_fnA (X := X.nox) (us := [.ref a]) (vs := [.ref a]) (dvs := []) rfl FI rI bI .nil pass0 (I1.wish _) (.cons rfl .nil) q) (fun v s3 q => ?_) (fun _ _ z => z.elim)
      obtain ⟨v', H', I3, rv', it, t, xs, rfl, hit, rfl, hT, q⟩ := q
      obtain rfl : v = Value.ref it := rv'
      replace I3 := I3.unwish
      have gi := itT_get I3 upd_same
      show wpAny _ _ (specialOf (.ref it) "__next__") _ _ _
      refine wpAny_specialOf gi.typeIs PySem.F.slot_tuple_iterator_next.lookup ?_
      refine ⟨it, rfl, ?_⟩
      have qb3 : upd H1 it (ItT t it 0) b = some (.ins C dy gs) := by rw [upd_ne (ne_of_none qb hit)]; exact qb
      obtain ⟨od3, J3⟩ := I3.instAt qb3
      obtain ⟨m3, hF3⟩ := I3.fr
      refine PySem.W.owit_iter hF3 I3.ok.mod.kin J3 hmI.at_ hmI.fn ?_
      refine wpAny_mono (run_fnA (X := X.nox) (us := [.ref b]) (vs := [.ref b]) (dvs := []) rfl FI rI bI .nil pass0 (I3.wish _) (.cons rfl .nil) q) (fun v s4 q => ?_) (fun _ _ z => z.elim)
      obtain ⟨v', H', I4, rv', jt, u, ys, rfl, hjt, rfl, hU, hxy, hR⟩ := q
      obtain rfl : v = Value.ref jt := rv'
      replace I4 := I4.unwish
      have gj := itT_get I4 upd_same
      have nji : it ≠ jt := fun z => by rw [← z, upd_same] at hjt; cases hjt
      have gi4 := itT_get I4 (e := by rw [upd_ne nji, upd_same])
      show wpAny _ _ (specialOf (.ref jt) "__next__") _ _ _
      refine wpAny_specialOf gj.typeIs PySem.F.slot_tuple_iterator_next.lookup ?_
      refine ⟨jt, rfl, fun h' Z P1 P2 z3 kp => args_nil ?_⟩
      refine call_enum_zip (s := { s4 with heap := h' }) Z fun h2 eE z6 kp2 => wpAny_pyIter_enum (s := { s4 with heap := h2 }) eE ?_
      have eE : IsEnum h2 h'.objs.size (s4.heap.objs.size + 2) 0 .none := eE
      have il : it < s4.heap.objs.size := by obtain ⟨_, q, _⟩ := gi4; exact Heap.lt_size q
      have jl : jt < s4.heap.objs.size := by obtain ⟨_, q, _⟩ := gj; exact Heap.lt_size q
      have hT4 : SqT X.K (upd (upd H1 it (ItT t it 0)) jt (ItT u jt 0)) t xs := Same.seqT ((same_new hit).trans (same_new hjt)) hT
      have hU4 : SqT X.K (upd (upd H1 it (ItT t it 0)) jt (ItT u jt 0)) u ys := Same.seqT ((same_new hit).trans (same_new hjt)) hU
      obtain ⟨_, _, pt, _⟩ := I4.tuple hT4
      obtain ⟨_, _, pu, _⟩ := I4.tuple hU4
      have apart : ∀ {a1 b1 c1 : Addr} {i1 : Nat} {its : Array Value}, s4.heap.IsTuple a1 its → s4.heap.IsTupleIter b1 c1 i1 → a1 ≠ b1 := fun p g z => by
        obtain ⟨o, ho, hc, hd⟩ := g
        obtain ⟨o2, ho2, hc2, _⟩ := p
        rw [z, ho] at ho2
        cases ho2
        rw [hc] at hc2
        injection hc2 with hc2
        exact absurd hc2 (by decide)
      have tl : t < s4.heap.objs.size := by obtain ⟨_, q, _⟩ := pt; exact Heap.lt_size q
      have ul : u < s4.heap.objs.size := by obtain ⟨_, q, _⟩ := pu; exact Heap.lt_size q
      have t1 : t ≠ it := apart pt gi4
      have t2 : t ≠ jt := apart pt gj
      have u1 : u ≠ it := apart pu gi4
      have u2 : u ≠ jt := apart pu gj
      have up : ∀ {a : Nat} (m : Nat), a < s4.heap.objs.size → a ≠ s4.heap.objs.size + m := fun m h => Nat.ne_of_lt (Nat.lt_of_lt_of_le h (Nat.le_add_right _ _))
      have D : ZipApart (s4.heap.objs.size + 2) s4.heap.objs.size (s4.heap.objs.size + 1) it jt t u := by
        constructor
        all_goals first
          | exact nji
          | exact t1
          | exact t2
          | exact u1
          | exact u2
          | exact up _ il
          | exact up _ jl
          | exact up _ tl
          | exact up _ ul
          | exact (up 0 il).symm
          | exact (up 0 jl).symm
          | exact (up 1 il).symm
          | exact (up 1 jl).symm
          | exact Nat.ne_of_lt (by omega)
          | exact Nat.ne_of_gt (by omega)
      have ne : h'.objs.size ∉ [s4.heap.objs.size + 2, s4.heap.objs.size, s4.heap.objs.size + 1] := by
        rw [z3]; simp
      have I5 := I4.write (x := jt) (e := jt) (o := ItU u jt 0 xs.length) (h' := s4.heap) (t' := s4.toks) (by rw [upd_same]; exact True.intro) (.inl rfl) (fun b o nb z => z) (let ⟨o, ho, _⟩ := gj; ⟨o, ho⟩) (itU_ok (.inl gj))
      rw [upd_upd] at I5
      have I6 := I5.write (x := it) (e := it) (o := ItU t it 0 xs.length) (h' := s4.heap) (t' := s4.toks) (by rw [upd_ne nji, upd_same]; exact True.intro) (.inl rfl) (fun b o nb z => z) (let ⟨o, ho, _⟩ := gi4; ⟨o, ho⟩) (itU_ok (.inl gi4))
      rw [upd_swap nji.symm, upd_upd] at I6
      have I7 : Inv X pins σ (upd (upd H1 it (ItU t it 0 xs.length)) jt (ItU u jt 0 xs.length)) { s4 with heap := h2 } := I6.kept (t' := s4.toks) fun c o q => kp2 c o (kp c o q)
      refine ⟨h'.objs.size, [h'.objs.size, s4.heap.objs.size + 2, s4.heap.objs.size, s4.heap.objs.size + 1], _, _, _, rfl, I7, turn_EZU D ne (by rw [z3]; exact (up 3 il).symm) (by rw [z3]; exact (up 3 jl).symm), ⟨⟨.none, eE⟩, kp2 _ _ P1, ⟨_, _, kp2 _ _ P2⟩, .inl (kp2 _ _ Z)⟩, fun c hcm => ?_, hR⟩
      have hle : s4.heap.objs.size ≤ c := by
        simp only [List.mem_cons, List.not_mem_nil, or_false] at hcm
        rcases hcm with w | w | w | w <;> rw [w]
        · rw [z3]; exact Nat.le_add_right _ _
        · exact Nat.le_add_right _ _
        · exact Nat.le_refl _
        · exact Nat.le_add_right _ _
      exact I6.fpOk hle (I6.hok.fresh hle)
theorem pi_enumZOK (K : PySem.W.Frag) {e e2 : Expr} {ta : TA} {p p2 pos pos2 tpos : Pos} {elts : List Expr} {kk : Nat} (hmI : Meth X.K C "__iter__" fi) (FI : FnOk X.prog X.w X.K X.mg X.base CX0 k fi fd ps sp) (bI : Binds X.K fd ps []) (hr : Room (k + 2) X.A)
    (hg : Gl X "enumerate") (hm : X.mg "enumerate" = none) (hg2 : Gl X "zip") (hm2 : X.mg "zip" = none) (ha : PA X [e, e2] ta)
    (hs : starEach [e, e2] X.env = (false, eval e X.env) :: starEach [e2] X.env := by rfl) (hpl : (backTo pos2 (starEach [e2] X.env)).any (·.1) = false := by rfl)
    (na : starEach [.Call (.Name "zip" p2) [e, e2] [] pos2] X.env = (false, eval (.Call (.Name "zip" p2) [e, e2] [] pos2) X.env) :: starEach [] X.env := by rfl) (hK : X.K = K := by rfl) :
    PI X (.Tuple elts kk tpos) (.Call (.Name "enumerate" p) [.Call (.Name "zip" p2) [e, e2] [] pos2] [] pos) (iEZO K C sp ta) := hK ▸ pi_enumZO hmI FI bI hr hg hm hg2 hm2 ha hs hpl na
end
end L2
namespace L2
open PySem PySem.Spec PyProof.Rows GE
section
variable {K : PySem.W.Frag} {t u it jt : Addr} {xs ys : List V} {n : Nat}
/-- a comprehension over it -/
theorem lc_EZU {g : TG} {tt : TT} {te : TE} {vs : List Nat} {σ : St} {H1 : Hp} {D : Addr} {Qd : Hp → Prop} (hx : xs.length = n) (hy : ys.length = n) (Pv : Nat → Hp → Prop) (h0 : Pv 0 (upd H1 D (.lst [])))
    (hG : ∀ i H, i ≤ n → Pv i H → SqT K H t xs ∧ SqT K H u ys ∧ H it = some (ItU t it i n) ∧ H jt = some (ItU u jt i n))
    (hs : ∀ i x y T0 T H, xs[i]? = some x → ys[i]? = some y → Pv i H → H T0 = none → upd (upd (upd H it (ItU t it (i + 1) n)) jt (ItU u jt (i + 1) n)) T0 (.tup [x, y]) T = none →
      g (.ref T) (wipe σ vs) (upd (upd (upd (upd H it (ItU t it (i + 1) n)) jt (ItU u jt (i + 1) n)) T0 (.tup [x, y])) T (.tup [.int (i : Nat), .ref T0])) fun σ2 H2 => wipe σ2 vs = wipe σ vs ∧ tt σ2 H2 fun b H3 =>
      if b = true then te σ2 H3 fun y H4 => ∃ acc, H4 D = some (.lst acc) ∧ acc.length < sizeLine ∧ Pv (i + 1) (upd H4 D (.lst (acc ++ [y]))) else Pv (i + 1) H3) (hd : ∀ H, Pv n H → Qd H) :
    ∃ W : Nat → Nat → Hp → Prop, (∃ m, W 0 m (upd H1 D (.lst []))) ∧ ∀ i m H, W i m H →
      ((ItEZU K t u it jt n).stop i H ∧ Qd H) ∨ ((ItEZU K t u it jt n).go i H ∧ ∃ Nx : Hp → Prop, (∀ H', Nx H' → ∃ m', m' < m ∧ W (i + 1) m' H') ∧ ∀ x H', (ItEZU K t u it jt n).yld i H x H' → g x (wipe σ vs) H' fun σ2 H2 => wipe σ2 vs = wipe σ vs ∧ tt σ2 H2 fun b H3 =>
        if b = true then te σ2 H3 fun y H4 => ∃ acc, H4 D = some (.lst acc) ∧ acc.length < sizeLine ∧ Nx (upd H4 D (.lst (acc ++ [y]))) else Nx H3) := by
  refine ⟨fun i m H => m + i = n ∧ Pv i H, ⟨n, rfl, h0⟩, fun i m H ⟨em, p⟩ => ?_⟩
  obtain ⟨q1, q1', q2, q3⟩ := hG i H (by omega) p
  by_cases hlt : i < n
  · refine .inr ⟨⟨q2, q3, hlt, xs, ys, xs[i], ys[i], q1, q1', by simp [hx, hlt], by simp [hy, hlt]⟩, Pv (i + 1), fun H' p' => ⟨m - 1, by omega, by omega, p'⟩, fun x H' y => ?_⟩
    obtain ⟨T0, T, v, v2, rfl, hT0, hT, rfl, hv, hv2⟩ := y
    exact hs i v v2 T0 T H (hv xs q1) (hv2 ys q1') p hT0 hT
  · obtain rfl : i = n := by omega
    exact .inl ⟨⟨q2, q3, rfl, xs, q1, hx.symm⟩, hd H p⟩
end
end L2
/-! min(xs) of a list of pairs of ints that is not empty -/
namespace L2
open PySem PySem.Spec PyProof.Rows
structure T2 where
  a : Int
  b : Int
def T2.lt (x y : T2) : Prop := x.a < y.a ∨ (x.a = y.a ∧ x.b < y.b)
def T2.l (x : T2) : List Int := [x.a, x.b]
def t2at (l : List (Addr × T2)) (i : Nat) : T2 := (l[i]?.map (·.2)).getD ⟨0, 0⟩
theorem t2at_of {l : List (Addr × T2)} {i : Nat} {p : Addr × T2} (h : l[i]? = some p) : t2at l i = p.2 := by unfold t2at; rw [h]; rfl
theorem t2_lex (x y : T2) : (HT.lexLt x.l y.l = true) ↔ x.lt y := by
  obtain ⟨a, b⟩ := x
  obtain ⟨d, e⟩ := y
  show HT.lexLt [a, b] [d, e] = true ↔ (a < d ∨ (a = d ∧ b < e))
  rw [HT.lexLt_cons, HT.lexLt_cons, HT.lexLt_nil_nil]
  by_cases h1 : a = d
  · rw [if_pos h1]
    by_cases h2 : b = e
    · rw [if_pos h2]
      constructor
      · intro z; cases z
      · intro z; omega
    · rw [if_neg h2, decide_eq_true_iff]; omega
  · rw [if_neg h1, decide_eq_true_iff]; omega
theorem t2_trans {x y z : T2} (h : x.lt y) (g : y.lt z) : x.lt z := by unfold T2.lt at *; omega
theorem t2_best (f : Nat → T2) : ∀ k, argBest (fun i j => HT.lexLt (f i).l (f j).l) k ≤ k ∧ ∀ j, j ≤ k → ¬ (f j).lt (f (argBest (fun i j => HT.lexLt (f i).l (f j).l) k))
  | 0 => ⟨Nat.le_refl _, fun j hj => by
    obtain rfl : j = 0 := by omega
    show ¬ (f 0).lt (f 0)
    unfold T2.lt; omega⟩
  | k + 1 => by
    obtain ⟨h1, h2⟩ := t2_best f k
    unfold argBest
    split
    · rename_i h
      have h := (t2_lex _ _).mp h
      refine ⟨Nat.le_refl _, fun j hj z => ?_⟩
      by_cases e : j = k + 1
      · rw [e] at z; unfold T2.lt at z; omega
      · exact h2 j (by omega) (t2_trans z h)
    · rename_i h
      refine ⟨by omega, fun j hj z => ?_⟩
      by_cases e : j = k + 1
      · rw [e] at z; exact h ((t2_lex _ _).mpr z)
      · exact h2 j (by omega) z
def rMinP (K : PySem.W.Frag) : List V → Hp → VK → Prop := fun xs H Q => ∃ (a : Addr) (l : List (Addr × T2)), xs = [.ref a] ∧ SqL K H a (l.map fun p => V.ref p.1) ∧ (∀ p ∈ l, SqT K H p.1 (p.2.l.map V.int)) ∧ l ≠ [] ∧
  ∀ p ∈ l, (∀ q ∈ l, ¬ q.2.lt p.2) → Q (.ref p.1) H
theorem cr_minP {X : Cx} (hc : X.calm = true) (hu : X.A.units + 1 < cLine) : CallR X (.builtin "min") (rMinP X.K) := by
  intro pins s σ H xs us Q I r1 h
  obtain ⟨a, l, rfl, hs, ht, h0, h1⟩ := h
  obtain ⟨its, rl, hl, _⟩ := I.list hs
  rw [Vals.ref1 r1]
  have hlen : its.length = l.length := by rw [← rl.length, List.length_map]
  have val : ∀ (i : Nat) (u : Value), its.toArray[i]? = some u → ∃ p, l[i]? = some p ∧ u = .ref p.1 := fun i u hu => by
    have hu : its[i]? = some u := by simpa using hu
    have hi := (List.getElem?_eq_some_iff.mp hu).1
    obtain ⟨p, hp⟩ : ∃ p, l[i]? = some p := ⟨_, List.getElem?_eq_getElem (by omega)⟩
    obtain ⟨u', hu', ru⟩ := rl.get (show (l.map fun p => V.ref p.1)[i]? = some (.ref p.1) by rw [List.getElem?_map, hp]; rfl)
    rw [hu] at hu'
    cases hu'
    exact ⟨p, hp, ru⟩
  refine call_min_walkH (PySem.W.iter_listW (A := X.A.in1) (I.ok.hd hc) hl.isList fun s2 e W st hfp hw hk => ?_)
  refine ⟨_, _, _, _, _, _, _, s.heap, (fun i j => HT.lexLt (t2at l i).l (t2at l j).l), rfl, W, st, hfp, ?_, hw, hk, fun i j vi vj s3 Q3 E3 hk3 hi hj q3 => ?_, fun u s' hP m => ?_⟩
  · have := List.length_pos_iff.mpr h0
    rw [List.size_toArray]; omega
  · obtain ⟨p, hp1, rfl⟩ := val i vi hi
    obtain ⟨q, hq1, rfl⟩ := val j vj hj
    obtain ⟨ys, ry, py, _⟩ := I.tuple (ht p (List.mem_of_getElem? hp1))
    obtain ⟨zs, rz, pz, _⟩ := I.tuple (ht q (List.mem_of_getElem? hq1))
    have ep : t2at l i = p.2 := t2at_of hp1
    have eq : t2at l j = q.2 := t2at_of hq1
    simp only [ep, eq] at q3
    refine HT.lt_tupInts (A := X.A.in1) (let ⟨o, ho, r⟩ := py; ⟨o, hk3 _ o ho, r⟩) (let ⟨o, ho, r⟩ := pz; ⟨o, hk3 _ o ho, r⟩) (by simpa using ry.ints) (by simpa using rz.ints) (hu) q3
  · obtain ⟨h', tk, rfl, hk'⟩ := PySem.W.moved_old e rfl m
    obtain ⟨b1, b2⟩ := t2_best (t2at l) (its.toArray.size - 1)
    obtain ⟨p, hp1, rfl⟩ := val _ _ hP
    have ep : t2at l (argBest (fun i j => HT.lexLt (t2at l i).l (t2at l j).l) (its.toArray.size - 1)) = p.2 := t2at_of hp1
    refine ⟨.ref p.1, H, I.kept hk', rfl, h1 p (List.mem_of_getElem? hp1) fun q hq => ?_⟩
    obtain ⟨j, hj⟩ := List.mem_iff_getElem?.mp hq
    have hjl := (List.getElem?_eq_some_iff.mp hj).1
    have e2 : t2at l j = q.2 := t2at_of hj
    have := b2 j (by rw [List.size_toArray]; omega)
    rw [← e2, ← ep]
    exact this
theorem cr_minPK (K : PySem.W.Frag) {X : Cx} (hc : X.calm = true) (hu : X.A.units + 1 < cLine) (hK : X.K = K := by rfl) : CallR X (.builtin "min") (rMinP K) := hK ▸ cr_minP hc hu
end L2
/-! list(range(a, b, c)) -/
namespace L2
open PySem PySem.Spec PyProof.Rows
section
variable {X : Cx} {a b c : Expr} {ta : TA}
def tLst3 (ta : TA) : TE := fun σ H Q => ta σ H fun vs H1 => ∃ (i j c : Int) (n : Nat), vs = [.int i, .int j, .int c] ∧ RgC i j c n ∧ n ≤ 2 ^ 24 ∧ ∀ q, H1 q = none → Q (.ref q) (upd H1 q (.lst ((List.range n).map fun k => V.int (i + (k : Nat) * c))))
theorem pe_listRg3 {p p2 pos pos2 : Pos} (hc : X.calm = true) (hg : Gl X "list") (hm : X.mg "list" = none) (hg2 : Gl X "range") (hm2 : X.mg "range" = none) (ha : PA X [a, b, c] ta)
    (hs : starEach [a, b, c] X.env = (false, eval a X.env) :: starEach [b, c] X.env := by rfl) (hpl : (backTo pos2 (starEach [b, c] X.env)).any (·.1) = false := by rfl)
    (na : starEach [.Call (.Name "range" p2) [a, b, c] [] pos2] X.env = (false, eval (.Call (.Name "range" p2) [a, b, c] [] pos2) X.env) :: starEach [] X.env := by rfl) :
    PE X (.Call (.Name "list" p) [.Call (.Name "range" p2) [a, b, c] [] pos2] [] pos) (tLst3 ta) := by
  refine ⟨fun pins s σ H Q I h => ?_⟩
  refine Call_ (ld_blt I hg hm boot_list (PyProof.Rows.callWith_type1 (args_cons (Call_ (ld_blt I hg2 hm2 boot_range (PyProof.Rows.callWith_type1 (thn (ha.run pos2 pins s σ H _ I h) fun us s1 ⟨vs, H1, I1, r1, q1⟩ => ?_) hs hpl))) na) na))
  obtain ⟨i, j, k, n, e, ⟨c0, c1, c2, c3⟩, hn, q⟩ := q1
  subst e
  cases r1 with
  | cons r rr =>
    cases rr with
    | cons r' rr =>
      cases rr with
      | cons r'' rr =>
        cases rr
        obtain ⟨t, rfl⟩ := r
        obtain ⟨t', rfl⟩ := r'
        obtain ⟨t'', rfl⟩ := r''
        refine call_range_3 c0 ?_ (.inl (PyProof.noPylong_small c1))
        refine args_nil ?_
        have I2 : Inv X pins σ H1 { s1 with heap := s1.heap.push { cls := .type "range", data := .fields #[.int i t, .int j t', .int k t''] } } := I1.kept (t' := s1.toks) fun b o e => Heap.get?_push_of_some _ e
        refine call_list_range (s := { s1 with heap := s1.heap.push { cls := .type "range", data := .fields #[.int i t, .int j t', .int k t''] } }) (n := n) (I2.ok.hd hc) (IsRange.new ..) c2 c3 hn fun h' tk acc c' hk e' hi => ?_
        have el : acc.toList.length = n := by rw [Array.length_toList]; exact hi.1
        have hv : Vals ((List.range n).map fun k2 => V.int (i + (k2 : Nat) * k)) acc.toList := by
          rw [← el]
          refine vals_of_get acc.toList _ fun j u hj => ?_
          obtain ⟨t, rfl⟩ := hi.2 j u (by rw [← hj, Array.getElem?_toList])
          exact ⟨t, rfl⟩
        refine ⟨.ref _, upd H1 _ (.lst ((List.range n).map fun k2 => V.int (i + (k2 : Nat) * k))), I2.laid hk (Nat.le_refl _) (show ObjOk X.prog X.w _ _ _ (.lst _) from ⟨?_, acc.toList, c', hv, ?_⟩), rfl, q _ (I2.hok.fresh (Nat.le_refl _))⟩
        · rw [List.length_map, List.length_range, sizeLine_eq]; omega
        · rw [Array.toArray_toList]; exact e'
end
end L2
namespace LW
open PySem PySem.Spec PyProof.Rows L2
def top (i : Nat) : Stmt := PySem.Challenge.pw_gangbooks_k15_bounds_exact.main.body.getD i (.Pass ⟨0, 0, 0, 0⟩)
abbrev s_GangError_init : Stmt := inClass (top 2) 0
abbrev s_refuse_lengths : Stmt := top 17
abbrev s_Amounts_init : Stmt := inClass (top 18) 0
abbrev s_Amounts_add : Stmt := inClass (top 18) 2
abbrev s_Amounts_sub : Stmt := inClass (top 18) 3
abbrev s_Amounts_mul : Stmt := inClass (top 18) 6
abbrev s_Amounts_rmul : Stmt := inClass (top 18) 7
abbrev s_Amounts_and : Stmt := inClass (top 18) 4
abbrev s_Amounts_contains : Stmt := inClass (top 18) 12
abbrev s_Amounts_len : Stmt := inClass (top 18) 16
abbrev s_Amounts_iter : Stmt := inClass (top 18) 17
abbrev s_is_name : Stmt := top 10
abbrev s_names_after : Stmt := top 31
abbrev s_path_of : Stmt := top 32
abbrev s_leaf_names : Stmt := top 33
abbrev s_is_name_new : Stmt := top 36
abbrev s_are_names : Stmt := top 37
abbrev s_amounts_fit : Stmt := top 38
abbrev s_some_amounts_fit : Stmt := top 39
abbrev s_machine_fits : Stmt := top 40
abbrev s_limit_fits : Stmt := top 42
abbrev s_floors_fit : Stmt := top 43
abbrev s_group_fits : Stmt := top 41
abbrev s_stage_fits : Stmt := top 45
abbrev s_wish_fits : Stmt := top 46
abbrev s_template_fits : Stmt := top 44
abbrev s_check_foes : Stmt := top 47
abbrev s_check_part : Stmt := top 35
abbrev s_check_rows : Stmt := top 34
abbrev s_index_of : Stmt := top 49
abbrev s_foes_of : Stmt := top 50
abbrev s_Machine_init : Stmt := inClass (top 51) 0
abbrev s_Group_init : Stmt := inClass (top 52) 0
abbrev s_Stage_init : Stmt := inClass (top 53) 0
abbrev s_Template_init : Stmt := inClass (top 54) 0
abbrev s_Cluster_init : Stmt := inClass (top 55) 0
abbrev s_used_at : Stmt := top 59
abbrev s_Takes_init : Stmt := inClass (top 60) 0
abbrev s_Span_init : Stmt := inClass (top 57) 0
abbrev s_Takes_common : Stmt := inClass (top 60) 1
abbrev s_Takes_free : Stmt := inClass (top 60) 2
abbrev s_Takes_users : Stmt := inClass (top 60) 3
abbrev s_Takes_iter : Stmt := inClass (top 60) 7
abbrev s_Takes_add : Stmt := inClass (top 60) 6
abbrev s_Cluster_stage_of : Stmt := inClass (top 55) 5
abbrev s_room_of : Stmt := top 15
abbrev s_bar_of : Stmt := top 13
abbrev s_bound_of : Stmt := top 14
abbrev s_bounds : Stmt := top 12
abbrev s_seeded : Stmt := top 62
abbrev s_draw : Stmt := top 63
abbrev s_named : Stmt := top 64
abbrev s_few : Stmt := top 65
abbrev s_asks : Stmt := top 66
abbrev s_phase : Stmt := top 67
abbrev s_machine : Stmt := top 68
abbrev s_form : Stmt := top 69
abbrev s_made : Stmt := top 70
abbrev s_built : Stmt := top 71
abbrev s_clock : Stmt := top 72
abbrev s_span : Stmt := top 73
abbrev s_taken : Stmt := top 74
abbrev s_spare : Stmt := top 75
abbrev s_wished : Stmt := top 76
abbrev s_foes : Stmt := top 77
abbrev s_meets : Stmt := top 78
abbrev s_room : Stmt := top 79
abbrev s_cap : Stmt := top 80
abbrev s_limits : Stmt := top 81
abbrev s_pairs : Stmt := top 82
abbrev s_right : Stmt := top 83
abbrev s_gangs : Stmt := top 84
abbrev s_law : Stmt := top 85
theorem sc_GangError_init : FnScope ["self", "subject"] ["self", "subject"] (defScope s_GangError_init) := ⟨rfl, rfl, rfl, by decide +kernel, rfl, by decide +kernel, by decide +kernel⟩
theorem sc_refuse_lengths : FnScope ["left", "right"] ["left", "right"] (defScope s_refuse_lengths) := ⟨rfl, rfl, rfl, by decide +kernel, rfl, by decide +kernel, by decide +kernel⟩
theorem sc_Amounts_init : FnScope ["self", "numbers"] ["self", "numbers"] (defScope s_Amounts_init) := ⟨rfl, rfl, rfl, by decide +kernel, rfl, by decide +kernel, by decide +kernel⟩
theorem sc_Amounts_add : FnScope ["self", "other", "numbers", "one", "two"] ["self", "other"] (defScope s_Amounts_add) := ⟨rfl, rfl, rfl, by decide +kernel, rfl, by decide +kernel, by decide +kernel⟩
theorem sc_Amounts_sub : FnScope ["self", "other", "numbers", "one", "two"] ["self", "other"] (defScope s_Amounts_sub) := ⟨rfl, rfl, rfl, by decide +kernel, rfl, by decide +kernel, by decide +kernel⟩
theorem sc_Amounts_mul : FnScope ["self", "other", "numbers", "number"] ["self", "other"] (defScope s_Amounts_mul) := ⟨rfl, rfl, rfl, by decide +kernel, rfl, by decide +kernel, by decide +kernel⟩
theorem sc_Amounts_rmul : FnScope ["self", "other"] ["self", "other"] (defScope s_Amounts_rmul) := ⟨rfl, rfl, rfl, by decide +kernel, rfl, by decide +kernel, by decide +kernel⟩
theorem sc_Amounts_and : FnScope ["self", "other", "numbers", "one", "two"] ["self", "other"] (defScope s_Amounts_and) := ⟨rfl, rfl, rfl, by decide +kernel, rfl, by decide +kernel, by decide +kernel⟩
theorem sc_Amounts_contains : FnScope ["self", "x", "one", "two"] ["self", "x"] (defScope s_Amounts_contains) := ⟨rfl, rfl, rfl, by decide +kernel, rfl, by decide +kernel, by decide +kernel⟩
theorem sc_Amounts_len : FnScope ["self"] ["self"] (defScope s_Amounts_len) := ⟨rfl, rfl, rfl, by decide +kernel, rfl, by decide +kernel, by decide +kernel⟩
theorem sc_Amounts_iter : FnScope ["self"] ["self"] (defScope s_Amounts_iter) := ⟨rfl, rfl, rfl, by decide +kernel, rfl, by decide +kernel, by decide +kernel⟩
theorem sc_is_name : FnScope ["text", "char"] ["text"] (defScope s_is_name) := ⟨rfl, rfl, rfl, by decide +kernel, rfl, by decide +kernel, by decide +kernel⟩
theorem sc_names_after : FnScope ["word", "wishes", "start", "wish"] ["word", "wishes"] (defScope s_names_after) := ⟨rfl, rfl, rfl, by decide +kernel, rfl, by decide +kernel, by decide +kernel⟩
theorem sc_path_of : FnScope ["groups", "at", "names", "path", "row"] ["groups", "at"] (defScope s_path_of) := ⟨rfl, rfl, rfl, by decide +kernel, rfl, by decide +kernel, by decide +kernel⟩
theorem sc_leaf_names : FnScope ["groups", "parents", "row"] ["groups"] (defScope s_leaf_names) := ⟨rfl, rfl, rfl, by decide +kernel, rfl, by decide +kernel, by decide +kernel⟩
theorem sc_is_name_new : FnScope ["names", "at"] ["names", "at"] (defScope s_is_name_new) := ⟨rfl, rfl, rfl, by decide +kernel, rfl, by decide +kernel, by decide +kernel⟩
theorem sc_are_names : FnScope ["texts", "at"] ["texts"] (defScope s_are_names) := ⟨rfl, rfl, rfl, by decide +kernel, rfl, by decide +kernel, by decide +kernel⟩
theorem sc_amounts_fit : FnScope ["numbers", "many", "number"] ["numbers", "many"] (defScope s_amounts_fit) := ⟨rfl, rfl, rfl, by decide +kernel, rfl, by decide +kernel, by decide +kernel⟩
theorem sc_some_amounts_fit : FnScope ["numbers", "many", "number"] ["numbers", "many"] (defScope s_some_amounts_fit) := ⟨rfl, rfl, rfl, by decide +kernel, rfl, by decide +kernel, by decide +kernel⟩
theorem sc_machine_fits : FnScope ["machines", "at", "many", "_", "zone", "labels", "numbers", "row"] ["machines", "at", "many"] (defScope s_machine_fits) := ⟨rfl, rfl, rfl, by decide +kernel, rfl, by decide +kernel, by decide +kernel⟩
theorem sc_limit_fits : FnScope ["floor", "limit"] ["floor", "limit"] (defScope s_limit_fits) := ⟨rfl, rfl, rfl, by decide +kernel, rfl, by decide +kernel, by decide +kernel⟩
theorem sc_floors_fit : FnScope ["groups", "at", "total", "parent", "above", "floors", "name", "other", "_", "floor"] ["groups", "at", "total"] (defScope s_floors_fit) := ⟨rfl, rfl, rfl, by decide +kernel, rfl, by decide +kernel, by decide +kernel⟩
theorem sc_group_fits : FnScope ["groups", "at", "total", "_", "parent", "weight", "floor", "limit", "names", "row"] ["groups", "at", "total"] (defScope s_group_fits) := ⟨rfl, rfl, rfl, by decide +kernel, rfl, by decide +kernel, by decide +kernel⟩
theorem sc_stage_fits : FnScope ["stage", "many", "tasks", "numbers", "hours"] ["stage", "many"] (defScope s_stage_fits) := ⟨rfl, rfl, rfl, by decide +kernel, rfl, by decide +kernel, by decide +kernel⟩
theorem sc_wish_fits : FnScope ["wish", "word", "_", "name"] ["wish"] (defScope s_wish_fits) := ⟨rfl, rfl, rfl, by decide +kernel, rfl, by decide +kernel, by decide +kernel⟩
theorem sc_template_fits : FnScope ["templates", "at", "leaves", "many", "_", "group", "rank", "every", "stages", "wishes", "wish", "row", "stage"] ["templates", "at", "leaves", "many"] (defScope s_template_fits) := ⟨rfl, rfl, rfl, by decide +kernel, rfl, by decide +kernel, by decide +kernel⟩
theorem sc_check_foes : FnScope ["templates", "names", "at", "row", "name"] ["templates"] (defScope s_check_foes) := ⟨rfl, rfl, rfl, by decide +kernel, rfl, by decide +kernel, by decide +kernel⟩
theorem sc_check_part : FnScope ["part", "entries", "most", "fits", "at"] ["part", "entries", "most", "fits"] (defScope s_check_part) := ⟨rfl, rfl, rfl, by decide +kernel, rfl, by decide +kernel, by decide +kernel⟩
theorem sc_check_rows : FnScope ["resources", "machines", "groups", "templates", "most", "total", "leaves", "k", "row"] ["resources", "machines", "groups", "templates"] (defScope s_check_rows) := ⟨rfl, rfl, rfl, by decide +kernel, rfl, by decide +kernel, by decide +kernel⟩
theorem sc_index_of : FnScope ["rows", "name", "at", "row"] ["rows", "name"] (defScope s_index_of) := ⟨rfl, rfl, rfl, by decide +kernel, rfl, by decide +kernel, by decide +kernel⟩
theorem sc_foes_of : FnScope ["templates", "at", "name", "named", "k", "row"] ["templates", "at"] (defScope s_foes_of) := ⟨rfl, rfl, rfl, by decide +kernel, rfl, by decide +kernel, by decide +kernel⟩
theorem sc_Machine_init : FnScope ["self", "name", "zone", "labels", "numbers"] ["self", "name", "zone", "labels", "numbers"] (defScope s_Machine_init) := ⟨rfl, rfl, rfl, by decide +kernel, rfl, by decide +kernel, by decide +kernel⟩
theorem sc_Group_init : FnScope ["self", "row", "path", "leaf", "name", "_", "weight", "floor", "limit"] ["self", "row", "path", "leaf"] (defScope s_Group_init) := ⟨rfl, rfl, rfl, by decide +kernel, rfl, by decide +kernel, by decide +kernel⟩
theorem sc_Stage_init : FnScope ["self", "tasks", "numbers", "hours"] ["self", "tasks", "numbers", "hours"] (defScope s_Stage_init) := ⟨rfl, rfl, rfl, by decide +kernel, rfl, by decide +kernel, by decide +kernel⟩
theorem sc_Template_init : FnScope ["self", "row", "group", "foes", "name", "_", "rank", "every", "stages", "wishes", "stage"] ["self", "row", "group", "foes"] (defScope s_Template_init) := ⟨rfl, rfl, rfl, by decide +kernel, rfl, by decide +kernel, by decide +kernel⟩
theorem sc_Cluster_init : FnScope ["self", "resources", "machines", "groups", "templates", "leaves", "total", "machine", "row", "at"] ["self", "resources", "machines", "groups", "templates"] (defScope s_Cluster_init) := ⟨rfl, rfl, rfl, by decide +kernel, rfl, by decide +kernel, by decide +kernel⟩
theorem sc_used_at : FnScope ["rows", "hour", "many", "numbers", "k", "row"] ["rows", "hour", "many"] (defScope s_used_at) := ⟨rfl, rfl, rfl, by decide +kernel, rfl, by decide +kernel, by decide +kernel⟩
theorem sc_Takes_init : FnScope ["self", "cluster", "rows"] ["self", "cluster", "rows"] (defScope s_Takes_init) := ⟨rfl, rfl, rfl, by decide +kernel, rfl, by decide +kernel, by decide +kernel⟩
theorem sc_Span_init : FnScope ["self", "start", "end"] ["self", "start", "end"] (defScope s_Span_init) := ⟨rfl, rfl, rfl, by decide +kernel, rfl, by decide +kernel, by decide +kernel⟩
theorem sc_Takes_common : FnScope ["self", "machine", "span", "row"] ["self", "machine", "span"] (defScope s_Takes_common) := ⟨rfl, rfl, rfl, by decide +kernel, rfl, by decide +kernel, by decide +kernel⟩
theorem sc_Takes_free : FnScope ["self", "machine", "span", "amounts", "rows", "least", "hour", "row"] ["self", "machine", "span"] (defScope s_Takes_free) := ⟨rfl, rfl, rfl, by decide +kernel, rfl, by decide +kernel, by decide +kernel⟩
theorem sc_Takes_users : FnScope ["self", "machine", "span", "row"] ["self", "machine", "span"] (defScope s_Takes_users) := ⟨rfl, rfl, rfl, by decide +kernel, rfl, by decide +kernel, by decide +kernel⟩
theorem sc_Takes_iter : FnScope ["self"] ["self"] (defScope s_Takes_iter) := ⟨rfl, rfl, rfl, by decide +kernel, rfl, by decide +kernel, by decide +kernel⟩
theorem sc_Takes_add : FnScope ["self", "other"] ["self", "other"] (defScope s_Takes_add) := ⟨rfl, rfl, rfl, by decide +kernel, rfl, by decide +kernel, by decide +kernel⟩
theorem sc_Cluster_stage_of : FnScope ["self", "gang", "template", "stage"] ["self", "gang"] (defScope s_Cluster_stage_of) := ⟨rfl, rfl, rfl, by decide +kernel, rfl, by decide +kernel, by decide +kernel⟩
theorem sc_room_of : FnScope ["free", "amounts", "have", "k", "need"] ["free", "amounts"] (defScope s_room_of) := ⟨rfl, rfl, rfl, by decide +kernel, rfl, by decide +kernel, by decide +kernel⟩
theorem sc_bar_of : FnScope ["takes", "gang", "span", "barred", "at", "template", "labels", "label", "user"] ["takes", "gang", "span", "barred", "at"] (defScope s_bar_of) := ⟨rfl, rfl, rfl, by decide +kernel, rfl, by decide +kernel, by decide +kernel⟩
theorem sc_bound_of : FnScope ["takes", "gang", "span", "barred", "at", "bar", "count", "reason"] ["takes", "gang", "span", "barred", "at"] (defScope s_bound_of) := ⟨rfl, rfl, rfl, by decide +kernel, rfl, by decide +kernel, by decide +kernel⟩
theorem sc_bounds : FnScope ["takes", "gang", "span", "barred", "at"] ["takes", "gang", "span", "barred"] (defScope s_bounds) := ⟨rfl, rfl, rfl, by decide +kernel, rfl, by decide +kernel, by decide +kernel⟩
theorem sc_seeded : FnScope ["_law_script", "_law_pool", "_law_cell"] ["_law_script"] (defScope s_seeded) := ⟨rfl, rfl, rfl, by decide +kernel, rfl, by decide +kernel, by decide +kernel⟩
theorem sc_draw : FnScope ["_law_pool", "_law_many", "_law_digit"] ["_law_pool", "_law_many"] (defScope s_draw) := ⟨rfl, rfl, rfl, by decide +kernel, rfl, by decide +kernel, by decide +kernel⟩
theorem sc_named : FnScope ["_law_pool", "_law_letters", "_law_stem", "_law_at", "_law_marks", "_law_k", "_law_mark"] ["_law_pool"] (defScope s_named) := ⟨rfl, rfl, rfl, by decide +kernel, rfl, by decide +kernel, by decide +kernel⟩
theorem sc_few : FnScope ["_law_pool", "_law_kinds", "_law_top", "_law_scale", "_law_numbers", "_law_k", "_law_one"] ["_law_pool", "_law_kinds", "_law_top", "_law_scale"] (defScope s_few) := ⟨rfl, rfl, rfl, by decide +kernel, rfl, by decide +kernel, by decide +kernel⟩
theorem sc_asks : FnScope ["_law_pool", "_law_names", "_law_count", "_law_most", "_law_words", "_law_wishes", "_law_k", "_law_wish"] ["_law_pool", "_law_names", "_law_count", "_law_most"] (defScope s_asks) := ⟨rfl, rfl, rfl, by decide +kernel, rfl, by decide +kernel, by decide +kernel⟩
theorem sc_phase : FnScope ["_law_pool", "_law_kinds", "_law_scale", "_law_most", "_law_tasks"] ["_law_pool", "_law_kinds", "_law_scale", "_law_most"] (defScope s_phase) := ⟨rfl, rfl, rfl, by decide +kernel, rfl, by decide +kernel, by decide +kernel⟩
theorem sc_machine : FnScope ["_law_pool", "_law_names", "_law_kinds", "_law_scale", "_law_most", "_law_zone", "_law_labels", "_law_name"] ["_law_pool", "_law_names", "_law_kinds", "_law_scale", "_law_most"] (defScope s_machine) := ⟨rfl, rfl, rfl, by decide +kernel, rfl, by decide +kernel, by decide +kernel⟩
theorem sc_form : FnScope ["_law_pool", "_law_names", "_law_count", "_law_kinds", "_law_scale", "_law_most", "_law_wishes", "_law_many", "_law_stages", "_law_rank", "_law_k"] ["_law_pool", "_law_names", "_law_count", "_law_kinds", "_law_scale", "_law_most"] (defScope s_form) := ⟨rfl, rfl, rfl, by decide +kernel, rfl, by decide +kernel, by decide +kernel⟩
theorem sc_made : FnScope ["_law_pool", "_law_most", "_law_names", "_law_scale", "_law_kinds", "_law_machines", "_law_k", "_law_templates", "_law_count", "_law_groups", "_law_row"] ["_law_pool", "_law_most"] (defScope s_made) := ⟨rfl, rfl, rfl, by decide +kernel, rfl, by decide +kernel, by decide +kernel⟩
theorem sc_built : FnScope ["_law_world"] ["_law_world"] (defScope s_built) := ⟨rfl, rfl, rfl, by decide +kernel, rfl, by decide +kernel, by decide +kernel⟩
theorem sc_clock : FnScope ["_law_pool"] ["_law_pool"] (defScope s_clock) := ⟨rfl, rfl, rfl, by decide +kernel, rfl, by decide +kernel, by decide +kernel⟩
theorem sc_span : FnScope ["_law_pool", "_law_world", "_law_start", "_law_end"] ["_law_pool", "_law_world"] (defScope s_span) := ⟨rfl, rfl, rfl, by decide +kernel, rfl, by decide +kernel, by decide +kernel⟩
theorem sc_taken : FnScope ["_law_pool", "_law_world", "_law_machine_here", "_law_pair", "_law_numbers", "_law_odd", "_law_user"] ["_law_pool", "_law_world"] (defScope s_taken) := ⟨rfl, rfl, rfl, by decide +kernel, rfl, by decide +kernel, by decide +kernel⟩
theorem sc_spare : FnScope ["_law_world", "_law_rows", "_law_machine_here", "_law_hour", "_law_left", "_law_row", "_law_k"] ["_law_world", "_law_rows", "_law_machine_here", "_law_hour"] (defScope s_spare) := ⟨rfl, rfl, rfl, by decide +kernel, rfl, by decide +kernel, by decide +kernel⟩
theorem sc_wished : FnScope ["_law_world", "_law_gang", "_law_word", "_law_size", "_law_wishes", "_law_wish"] ["_law_world", "_law_gang", "_law_word"] (defScope s_wished) := ⟨rfl, rfl, rfl, by decide +kernel, rfl, by decide +kernel, by decide +kernel⟩
theorem sc_foes : FnScope ["_law_world", "_law_gang", "_law_forms", "_law_mine", "_law_foes_here", "_law_named_here", "_law_k"] ["_law_world", "_law_gang"] (defScope s_foes) := ⟨rfl, rfl, rfl, by decide +kernel, rfl, by decide +kernel, by decide +kernel⟩
theorem sc_meets : FnScope ["_law_world", "_law_rows", "_law_gang", "_law_machine_here", "_law_marks", "_law_foes_here", "_law_row", "_law_hour"] ["_law_world", "_law_rows", "_law_gang", "_law_machine_here", "_law_marks"] (defScope s_meets) := ⟨rfl, rfl, rfl, by decide +kernel, rfl, by decide +kernel, by decide +kernel⟩
theorem sc_room : FnScope ["_law_world", "_law_rows", "_law_gang", "_law_machine_here", "_law_marks", "_law_need", "_law_lefts", "_law_best", "_law_k", "_law_count", "_law_hour", "_law_left"] ["_law_world", "_law_rows", "_law_gang", "_law_machine_here", "_law_marks"] (defScope s_room) := ⟨rfl, rfl, rfl, by decide +kernel, rfl, by decide +kernel, by decide +kernel⟩
theorem sc_cap : FnScope ["_law_world", "_law_rows", "_law_gang", "_law_machine_here", "_law_marks", "_law_out", "_law_labels", "_law_needs", "_law_bars", "_law_name"] ["_law_world", "_law_rows", "_law_gang", "_law_machine_here", "_law_marks", "_law_out"] (defScope s_cap) := ⟨rfl, rfl, rfl, by decide +kernel, rfl, by decide +kernel, by decide +kernel⟩
theorem sc_limits : FnScope ["_law_world", "_law_rows", "_law_gang", "_law_pair", "_law_out", "_law_marks", "_law_limits_here", "_law_k"] ["_law_world", "_law_rows", "_law_gang", "_law_pair", "_law_out"] (defScope s_limits) := ⟨rfl, rfl, rfl, by decide +kernel, rfl, by decide +kernel, by decide +kernel⟩
theorem sc_pairs : FnScope ["_law_told", "_law_due", "_law_k", "_law_one"] ["_law_told", "_law_due"] (defScope s_pairs) := ⟨rfl, rfl, rfl, by decide +kernel, rfl, by decide +kernel, by decide +kernel⟩
theorem sc_right : FnScope ["_law_world", "_law_rows", "_law_takes", "_law_gang", "_law_pair", "_law_out", "_law_due", "_law_span_here", "_law_told"] ["_law_world", "_law_rows", "_law_takes", "_law_gang", "_law_pair", "_law_out"] (defScope s_right) := ⟨rfl, rfl, rfl, by decide +kernel, rfl, by decide +kernel, by decide +kernel⟩
theorem sc_gangs : FnScope ["_law_world", "_law_gangs_here", "_law_k", "_law_n"] ["_law_world"] (defScope s_gangs) := ⟨rfl, rfl, rfl, by decide +kernel, rfl, by decide +kernel, by decide +kernel⟩
theorem sc_law : FnScope ["_law_script", "_law_pool", "_law_world", "_law_rows", "_law_extra", "_law_pair", "_law_out", "_law_cluster", "_law_takes", "_law_more", "_law_gang", "_law_k"] ["_law_script"] (defScope s_law) := ⟨rfl, rfl, rfl, by decide +kernel, rfl, by decide +kernel, by decide +kernel⟩
set_option genInjectivity false in
set_option genSizeOf false in
/-- where the top has put what the law uses -/
structure Adr where
  c_Amounts : Addr
  c_Takes : Addr
  c_Machine : Addr
  c_Group : Addr
  c_Stage : Addr
  c_Template : Addr
  c_Cluster : Addr
  c_Span : Addr
  c_GangError : Addr
  c_BadAmounts : Addr
  c_BadRow : Addr
  c_Unknown : Addr
  c_BadSpan : Addr
  tc_PLAIN_WISHES : Addr
  tc_NAMING_WISHES : Addr
  dt0_bounds : Addr
  co_check_rows : Addr
  tb_check_rows : Addr
  f_GangError_init : Addr
  d_GangError_init : FuncData
  f_refuse_lengths : Addr
  d_refuse_lengths : FuncData
  f_Amounts_init : Addr
  d_Amounts_init : FuncData
  f_Amounts_add : Addr
  d_Amounts_add : FuncData
  f_Amounts_sub : Addr
  d_Amounts_sub : FuncData
  f_Amounts_mul : Addr
  d_Amounts_mul : FuncData
  f_Amounts_rmul : Addr
  d_Amounts_rmul : FuncData
  f_Amounts_and : Addr
  d_Amounts_and : FuncData
  f_Amounts_contains : Addr
  d_Amounts_contains : FuncData
  f_Amounts_len : Addr
  d_Amounts_len : FuncData
  f_Amounts_iter : Addr
  d_Amounts_iter : FuncData
  f_is_name : Addr
  d_is_name : FuncData
  f_names_after : Addr
  d_names_after : FuncData
  f_path_of : Addr
  d_path_of : FuncData
  f_leaf_names : Addr
  d_leaf_names : FuncData
  f_is_name_new : Addr
  d_is_name_new : FuncData
  f_are_names : Addr
  d_are_names : FuncData
  f_amounts_fit : Addr
  d_amounts_fit : FuncData
  f_some_amounts_fit : Addr
  d_some_amounts_fit : FuncData
  f_machine_fits : Addr
  d_machine_fits : FuncData
  f_limit_fits : Addr
  d_limit_fits : FuncData
  f_floors_fit : Addr
  d_floors_fit : FuncData
  f_group_fits : Addr
  d_group_fits : FuncData
  f_stage_fits : Addr
  d_stage_fits : FuncData
  f_wish_fits : Addr
  d_wish_fits : FuncData
  f_template_fits : Addr
  d_template_fits : FuncData
  f_check_foes : Addr
  d_check_foes : FuncData
  f_check_part : Addr
  d_check_part : FuncData
  f_check_rows : Addr
  d_check_rows : FuncData
  f_index_of : Addr
  d_index_of : FuncData
  f_foes_of : Addr
  d_foes_of : FuncData
  f_Machine_init : Addr
  d_Machine_init : FuncData
  f_Group_init : Addr
  d_Group_init : FuncData
  f_Stage_init : Addr
  d_Stage_init : FuncData
  f_Template_init : Addr
  d_Template_init : FuncData
  f_Cluster_init : Addr
  d_Cluster_init : FuncData
  f_used_at : Addr
  d_used_at : FuncData
  f_Takes_init : Addr
  d_Takes_init : FuncData
  f_Span_init : Addr
  d_Span_init : FuncData
  f_Takes_common : Addr
  d_Takes_common : FuncData
  f_Takes_free : Addr
  d_Takes_free : FuncData
  f_Takes_users : Addr
  d_Takes_users : FuncData
  f_Takes_iter : Addr
  d_Takes_iter : FuncData
  f_Takes_add : Addr
  d_Takes_add : FuncData
  f_Cluster_stage_of : Addr
  d_Cluster_stage_of : FuncData
  f_room_of : Addr
  d_room_of : FuncData
  f_bar_of : Addr
  d_bar_of : FuncData
  f_bound_of : Addr
  d_bound_of : FuncData
  f_bounds : Addr
  d_bounds : FuncData
  f_seeded : Addr
  d_seeded : FuncData
  f_draw : Addr
  d_draw : FuncData
  f_named : Addr
  d_named : FuncData
  f_few : Addr
  d_few : FuncData
  f_asks : Addr
  d_asks : FuncData
  f_phase : Addr
  d_phase : FuncData
  f_machine : Addr
  d_machine : FuncData
  f_form : Addr
  d_form : FuncData
  f_made : Addr
  d_made : FuncData
  f_built : Addr
  d_built : FuncData
  f_clock : Addr
  d_clock : FuncData
  f_span : Addr
  d_span : FuncData
  f_taken : Addr
  d_taken : FuncData
  f_spare : Addr
  d_spare : FuncData
  f_wished : Addr
  d_wished : FuncData
  f_foes : Addr
  d_foes : FuncData
  f_meets : Addr
  d_meets : FuncData
  f_room : Addr
  d_room : FuncData
  f_cap : Addr
  d_cap : FuncData
  f_limits : Addr
  d_limits : FuncData
  f_pairs : Addr
  d_pairs : FuncData
  f_right : Addr
  d_right : FuncData
  f_gangs : Addr
  d_gangs : FuncData
  f_law : Addr
  d_law : FuncData
structure Txt (K : PySem.W.Frag) (mg : Str → Option Value) (A : Adr) : Prop where
  n_abs : mg "abs" = none
  n_all : mg "all" = none
  n_any : mg "any" = none
  n_bool : mg "bool" = none
  n_enumerate : mg "enumerate" = none
  n_int : mg "int" = none
  n_isinstance : mg "isinstance" = none
  n_iter : mg "iter" = none
  n_len : mg "len" = none
  n_list : mg "list" = none
  n_max : mg "max" = none
  n_min : mg "min" = none
  n_range : mg "range" = none
  n_set : mg "set" = none
  n_sorted : mg "sorted" = none
  n_str : mg "str" = none
  n_sum : mg "sum" = none
  n_tuple : mg "tuple" = none
  n_zip : mg "zip" = none
  g_Amounts : mg "Amounts" = some (.ref A.c_Amounts)
  g_Takes : mg "Takes" = some (.ref A.c_Takes)
  g_Machine : mg "Machine" = some (.ref A.c_Machine)
  g_Group : mg "Group" = some (.ref A.c_Group)
  g_Stage : mg "Stage" = some (.ref A.c_Stage)
  g_Template : mg "Template" = some (.ref A.c_Template)
  g_Cluster : mg "Cluster" = some (.ref A.c_Cluster)
  g_Span : mg "Span" = some (.ref A.c_Span)
  g_GangError : mg "GangError" = some (.ref A.c_GangError)
  g_BadAmounts : mg "BadAmounts" = some (.ref A.c_BadAmounts)
  g_BadRow : mg "BadRow" = some (.ref A.c_BadRow)
  g_Unknown : mg "Unknown" = some (.ref A.c_Unknown)
  g_BadSpan : mg "BadSpan" = some (.ref A.c_BadSpan)
  F_GangError_init : Fun K "__init__" "GangError.__init__" s_GangError_init A.f_GangError_init A.d_GangError_init
  b_GangError_init : Binds K A.d_GangError_init ["self", "subject"] []
  me_GangError_init : Meth K A.c_GangError "__init__" A.f_GangError_init
  F_refuse_lengths : Fun K "refuse_lengths" "refuse_lengths" s_refuse_lengths A.f_refuse_lengths A.d_refuse_lengths
  b_refuse_lengths : Binds K A.d_refuse_lengths ["left", "right"] []
  g_refuse_lengths : mg "refuse_lengths" = some (.ref A.f_refuse_lengths)
  F_Amounts_init : Fun K "__init__" "Amounts.__init__" s_Amounts_init A.f_Amounts_init A.d_Amounts_init
  me_Amounts_init : Meth K A.c_Amounts "__init__" A.f_Amounts_init
  F_Amounts_add : Fun K "__add__" "Amounts.__add__" s_Amounts_add A.f_Amounts_add A.d_Amounts_add
  b_Amounts_add : Binds K A.d_Amounts_add ["self", "other"] []
  me_Amounts_add : Meth K A.c_Amounts "__add__" A.f_Amounts_add
  F_Amounts_sub : Fun K "__sub__" "Amounts.__sub__" s_Amounts_sub A.f_Amounts_sub A.d_Amounts_sub
  b_Amounts_sub : Binds K A.d_Amounts_sub ["self", "other"] []
  me_Amounts_sub : Meth K A.c_Amounts "__sub__" A.f_Amounts_sub
  F_Amounts_mul : Fun K "__mul__" "Amounts.__mul__" s_Amounts_mul A.f_Amounts_mul A.d_Amounts_mul
  b_Amounts_mul : Binds K A.d_Amounts_mul ["self", "other"] []
  me_Amounts_mul : Meth K A.c_Amounts "__mul__" A.f_Amounts_mul
  F_Amounts_rmul : Fun K "__rmul__" "Amounts.__rmul__" s_Amounts_rmul A.f_Amounts_rmul A.d_Amounts_rmul
  b_Amounts_rmul : Binds K A.d_Amounts_rmul ["self", "other"] []
  me_Amounts_rmul : Meth K A.c_Amounts "__rmul__" A.f_Amounts_rmul
  F_Amounts_and : Fun K "__and__" "Amounts.__and__" s_Amounts_and A.f_Amounts_and A.d_Amounts_and
  b_Amounts_and : Binds K A.d_Amounts_and ["self", "other"] []
  me_Amounts_and : Meth K A.c_Amounts "__and__" A.f_Amounts_and
  F_Amounts_contains : Fun K "__contains__" "Amounts.__contains__" s_Amounts_contains A.f_Amounts_contains A.d_Amounts_contains
  b_Amounts_contains : Binds K A.d_Amounts_contains ["self", "x"] []
  me_Amounts_contains : Meth K A.c_Amounts "__contains__" A.f_Amounts_contains
  F_Amounts_len : Fun K "__len__" "Amounts.__len__" s_Amounts_len A.f_Amounts_len A.d_Amounts_len
  b_Amounts_len : Binds K A.d_Amounts_len ["self"] []
  me_Amounts_len : Meth K A.c_Amounts "__len__" A.f_Amounts_len
  F_Amounts_iter : Fun K "__iter__" "Amounts.__iter__" s_Amounts_iter A.f_Amounts_iter A.d_Amounts_iter
  b_Amounts_iter : Binds K A.d_Amounts_iter ["self"] []
  me_Amounts_iter : Meth K A.c_Amounts "__iter__" A.f_Amounts_iter
  F_is_name : Fun K "is_name" "is_name" s_is_name A.f_is_name A.d_is_name
  b_is_name : Binds K A.d_is_name ["text"] []
  g_is_name : mg "is_name" = some (.ref A.f_is_name)
  F_names_after : Fun K "names_after" "names_after" s_names_after A.f_names_after A.d_names_after
  b_names_after : Binds K A.d_names_after ["word", "wishes"] []
  g_names_after : mg "names_after" = some (.ref A.f_names_after)
  F_path_of : Fun K "path_of" "path_of" s_path_of A.f_path_of A.d_path_of
  b_path_of : Binds K A.d_path_of ["groups", "at"] []
  g_path_of : mg "path_of" = some (.ref A.f_path_of)
  F_leaf_names : Fun K "leaf_names" "leaf_names" s_leaf_names A.f_leaf_names A.d_leaf_names
  b_leaf_names : Binds K A.d_leaf_names ["groups"] []
  g_leaf_names : mg "leaf_names" = some (.ref A.f_leaf_names)
  F_is_name_new : Fun K "is_name_new" "is_name_new" s_is_name_new A.f_is_name_new A.d_is_name_new
  b_is_name_new : Binds K A.d_is_name_new ["names", "at"] []
  g_is_name_new : mg "is_name_new" = some (.ref A.f_is_name_new)
  F_are_names : Fun K "are_names" "are_names" s_are_names A.f_are_names A.d_are_names
  b_are_names : Binds K A.d_are_names ["texts"] []
  g_are_names : mg "are_names" = some (.ref A.f_are_names)
  F_amounts_fit : Fun K "amounts_fit" "amounts_fit" s_amounts_fit A.f_amounts_fit A.d_amounts_fit
  b_amounts_fit : Binds K A.d_amounts_fit ["numbers", "many"] []
  g_amounts_fit : mg "amounts_fit" = some (.ref A.f_amounts_fit)
  F_some_amounts_fit : Fun K "some_amounts_fit" "some_amounts_fit" s_some_amounts_fit A.f_some_amounts_fit A.d_some_amounts_fit
  b_some_amounts_fit : Binds K A.d_some_amounts_fit ["numbers", "many"] []
  g_some_amounts_fit : mg "some_amounts_fit" = some (.ref A.f_some_amounts_fit)
  F_machine_fits : Fun K "machine_fits" "machine_fits" s_machine_fits A.f_machine_fits A.d_machine_fits
  b_machine_fits : Binds K A.d_machine_fits ["machines", "at", "many"] []
  g_machine_fits : mg "machine_fits" = some (.ref A.f_machine_fits)
  F_limit_fits : Fun K "limit_fits" "limit_fits" s_limit_fits A.f_limit_fits A.d_limit_fits
  b_limit_fits : Binds K A.d_limit_fits ["floor", "limit"] []
  g_limit_fits : mg "limit_fits" = some (.ref A.f_limit_fits)
  F_floors_fit : Fun K "floors_fit" "floors_fit" s_floors_fit A.f_floors_fit A.d_floors_fit
  b_floors_fit : Binds K A.d_floors_fit ["groups", "at", "total"] []
  g_floors_fit : mg "floors_fit" = some (.ref A.f_floors_fit)
  F_group_fits : Fun K "group_fits" "group_fits" s_group_fits A.f_group_fits A.d_group_fits
  b_group_fits : Binds K A.d_group_fits ["groups", "at", "total"] []
  g_group_fits : mg "group_fits" = some (.ref A.f_group_fits)
  F_stage_fits : Fun K "stage_fits" "stage_fits" s_stage_fits A.f_stage_fits A.d_stage_fits
  b_stage_fits : Binds K A.d_stage_fits ["stage", "many"] []
  g_stage_fits : mg "stage_fits" = some (.ref A.f_stage_fits)
  F_wish_fits : Fun K "wish_fits" "wish_fits" s_wish_fits A.f_wish_fits A.d_wish_fits
  b_wish_fits : Binds K A.d_wish_fits ["wish"] []
  g_wish_fits : mg "wish_fits" = some (.ref A.f_wish_fits)
  F_template_fits : Fun K "template_fits" "template_fits" s_template_fits A.f_template_fits A.d_template_fits
  b_template_fits : Binds K A.d_template_fits ["templates", "at", "leaves", "many"] []
  g_template_fits : mg "template_fits" = some (.ref A.f_template_fits)
  F_check_foes : Fun K "check_foes" "check_foes" s_check_foes A.f_check_foes A.d_check_foes
  b_check_foes : Binds K A.d_check_foes ["templates"] []
  g_check_foes : mg "check_foes" = some (.ref A.f_check_foes)
  F_check_part : Fun K "check_part" "check_part" s_check_part A.f_check_part A.d_check_part
  b_check_part : Binds K A.d_check_part ["part", "entries", "most", "fits"] []
  g_check_part : mg "check_part" = some (.ref A.f_check_part)
  FC_check_rows : GL.FunC K "check_rows" "check_rows" s_check_rows A.f_check_rows A.d_check_rows (.ref A.co_check_rows)
  F_check_rows : Fun K "check_rows" "check_rows" s_check_rows A.f_check_rows A.d_check_rows
  b_check_rows : Binds K A.d_check_rows ["resources", "machines", "groups", "templates"] []
  g_check_rows : mg "check_rows" = some (.ref A.f_check_rows)
  F_index_of : Fun K "index_of" "index_of" s_index_of A.f_index_of A.d_index_of
  b_index_of : Binds K A.d_index_of ["rows", "name"] []
  g_index_of : mg "index_of" = some (.ref A.f_index_of)
  F_foes_of : Fun K "foes_of" "foes_of" s_foes_of A.f_foes_of A.d_foes_of
  b_foes_of : Binds K A.d_foes_of ["templates", "at"] []
  g_foes_of : mg "foes_of" = some (.ref A.f_foes_of)
  F_Machine_init : Fun K "__init__" "Machine.__init__" s_Machine_init A.f_Machine_init A.d_Machine_init
  b_Machine_init : Binds K A.d_Machine_init ["self", "name", "zone", "labels", "numbers"] []
  me_Machine_init : Meth K A.c_Machine "__init__" A.f_Machine_init
  F_Group_init : Fun K "__init__" "Group.__init__" s_Group_init A.f_Group_init A.d_Group_init
  b_Group_init : Binds K A.d_Group_init ["self", "row", "path", "leaf"] []
  me_Group_init : Meth K A.c_Group "__init__" A.f_Group_init
  F_Stage_init : Fun K "__init__" "Stage.__init__" s_Stage_init A.f_Stage_init A.d_Stage_init
  b_Stage_init : Binds K A.d_Stage_init ["self", "tasks", "numbers", "hours"] []
  me_Stage_init : Meth K A.c_Stage "__init__" A.f_Stage_init
  F_Template_init : Fun K "__init__" "Template.__init__" s_Template_init A.f_Template_init A.d_Template_init
  b_Template_init : Binds K A.d_Template_init ["self", "row", "group", "foes"] []
  me_Template_init : Meth K A.c_Template "__init__" A.f_Template_init
  F_Cluster_init : Fun K "__init__" "Cluster.__init__" s_Cluster_init A.f_Cluster_init A.d_Cluster_init
  b_Cluster_init : Binds K A.d_Cluster_init ["self", "resources", "machines", "groups", "templates"] []
  me_Cluster_init : Meth K A.c_Cluster "__init__" A.f_Cluster_init
  F_used_at : Fun K "used_at" "used_at" s_used_at A.f_used_at A.d_used_at
  b_used_at : Binds K A.d_used_at ["rows", "hour", "many"] []
  g_used_at : mg "used_at" = some (.ref A.f_used_at)
  F_Takes_init : Fun K "__init__" "Takes.__init__" s_Takes_init A.f_Takes_init A.d_Takes_init
  b_Takes_init : Binds K A.d_Takes_init ["self", "cluster", "rows"] []
  me_Takes_init : Meth K A.c_Takes "__init__" A.f_Takes_init
  F_Span_init : Fun K "__init__" "Span.__init__" s_Span_init A.f_Span_init A.d_Span_init
  b_Span_init : Binds K A.d_Span_init ["self", "start", "end"] []
  me_Span_init : Meth K A.c_Span "__init__" A.f_Span_init
  F_Takes_common : Fun K "common" "Takes.common" s_Takes_common A.f_Takes_common A.d_Takes_common
  b_Takes_common : Binds K A.d_Takes_common ["self", "machine", "span"] []
  me_Takes_common : Meth K A.c_Takes "common" A.f_Takes_common
  F_Takes_free : Fun K "free" "Takes.free" s_Takes_free A.f_Takes_free A.d_Takes_free
  b_Takes_free : Binds K A.d_Takes_free ["self", "machine", "span"] []
  me_Takes_free : Meth K A.c_Takes "free" A.f_Takes_free
  F_Takes_users : Fun K "users" "Takes.users" s_Takes_users A.f_Takes_users A.d_Takes_users
  b_Takes_users : Binds K A.d_Takes_users ["self", "machine", "span"] []
  me_Takes_users : Meth K A.c_Takes "users" A.f_Takes_users
  F_Takes_iter : Fun K "__iter__" "Takes.__iter__" s_Takes_iter A.f_Takes_iter A.d_Takes_iter
  b_Takes_iter : Binds K A.d_Takes_iter ["self"] []
  me_Takes_iter : Meth K A.c_Takes "__iter__" A.f_Takes_iter
  F_Takes_add : Fun K "__add__" "Takes.__add__" s_Takes_add A.f_Takes_add A.d_Takes_add
  b_Takes_add : Binds K A.d_Takes_add ["self", "other"] []
  me_Takes_add : Meth K A.c_Takes "__add__" A.f_Takes_add
  F_Cluster_stage_of : Fun K "stage_of" "Cluster.stage_of" s_Cluster_stage_of A.f_Cluster_stage_of A.d_Cluster_stage_of
  b_Cluster_stage_of : Binds K A.d_Cluster_stage_of ["self", "gang"] []
  me_Cluster_stage_of : Meth K A.c_Cluster "stage_of" A.f_Cluster_stage_of
  F_room_of : Fun K "room_of" "room_of" s_room_of A.f_room_of A.d_room_of
  b_room_of : Binds K A.d_room_of ["free", "amounts"] []
  g_room_of : mg "room_of" = some (.ref A.f_room_of)
  F_bar_of : Fun K "bar_of" "bar_of" s_bar_of A.f_bar_of A.d_bar_of
  b_bar_of : Binds K A.d_bar_of ["takes", "gang", "span", "barred", "at"] []
  g_bar_of : mg "bar_of" = some (.ref A.f_bar_of)
  F_bound_of : Fun K "bound_of" "bound_of" s_bound_of A.f_bound_of A.d_bound_of
  b_bound_of : Binds K A.d_bound_of ["takes", "gang", "span", "barred", "at"] []
  g_bound_of : mg "bound_of" = some (.ref A.f_bound_of)
  sq_dt0_bounds : ∀ H, SqT K H A.dt0_bounds []
  F_bounds : FunD K "bounds" "bounds" (defArgs s_bounds) (defBody s_bounds) (defScope s_bounds) [.ref A.dt0_bounds] [] A.f_bounds A.d_bounds
  b_bounds : Binds K A.d_bounds ["takes", "gang", "span", "barred"] []
  e_bounds : ∃ ds, Vals [.ref A.dt0_bounds] ds ∧ Binds K A.d_bounds ["takes", "gang", "span", "barred"] ds
  g_bounds : mg "bounds" = some (.ref A.f_bounds)
  F_seeded : Fun K "_law_seeded" "_law_seeded" s_seeded A.f_seeded A.d_seeded
  b_seeded : Binds K A.d_seeded ["_law_script"] []
  g_seeded : mg "_law_seeded" = some (.ref A.f_seeded)
  F_draw : Fun K "_law_draw" "_law_draw" s_draw A.f_draw A.d_draw
  b_draw : Binds K A.d_draw ["_law_pool", "_law_many"] []
  g_draw : mg "_law_draw" = some (.ref A.f_draw)
  F_named : Fun K "_law_named" "_law_named" s_named A.f_named A.d_named
  b_named : Binds K A.d_named ["_law_pool"] []
  g_named : mg "_law_named" = some (.ref A.f_named)
  F_few : Fun K "_law_few" "_law_few" s_few A.f_few A.d_few
  b_few : Binds K A.d_few ["_law_pool", "_law_kinds", "_law_top", "_law_scale"] []
  g_few : mg "_law_few" = some (.ref A.f_few)
  F_asks : Fun K "_law_asks" "_law_asks" s_asks A.f_asks A.d_asks
  b_asks : Binds K A.d_asks ["_law_pool", "_law_names", "_law_count", "_law_most"] []
  g_asks : mg "_law_asks" = some (.ref A.f_asks)
  F_phase : Fun K "_law_phase" "_law_phase" s_phase A.f_phase A.d_phase
  b_phase : Binds K A.d_phase ["_law_pool", "_law_kinds", "_law_scale", "_law_most"] []
  g_phase : mg "_law_phase" = some (.ref A.f_phase)
  F_machine : Fun K "_law_machine" "_law_machine" s_machine A.f_machine A.d_machine
  b_machine : Binds K A.d_machine ["_law_pool", "_law_names", "_law_kinds", "_law_scale", "_law_most"] []
  g_machine : mg "_law_machine" = some (.ref A.f_machine)
  F_form : Fun K "_law_form" "_law_form" s_form A.f_form A.d_form
  b_form : Binds K A.d_form ["_law_pool", "_law_names", "_law_count", "_law_kinds", "_law_scale", "_law_most"] []
  g_form : mg "_law_form" = some (.ref A.f_form)
  F_made : Fun K "_law_made" "_law_made" s_made A.f_made A.d_made
  b_made : Binds K A.d_made ["_law_pool", "_law_most"] []
  g_made : mg "_law_made" = some (.ref A.f_made)
  F_built : Fun K "_law_built" "_law_built" s_built A.f_built A.d_built
  b_built : Binds K A.d_built ["_law_world"] []
  g_built : mg "_law_built" = some (.ref A.f_built)
  F_clock : Fun K "_law_clock" "_law_clock" s_clock A.f_clock A.d_clock
  b_clock : Binds K A.d_clock ["_law_pool"] []
  g_clock : mg "_law_clock" = some (.ref A.f_clock)
  F_span : Fun K "_law_span" "_law_span" s_span A.f_span A.d_span
  b_span : Binds K A.d_span ["_law_pool", "_law_world"] []
  g_span : mg "_law_span" = some (.ref A.f_span)
  F_taken : Fun K "_law_taken" "_law_taken" s_taken A.f_taken A.d_taken
  b_taken : Binds K A.d_taken ["_law_pool", "_law_world"] []
  g_taken : mg "_law_taken" = some (.ref A.f_taken)
  F_spare : Fun K "_law_spare" "_law_spare" s_spare A.f_spare A.d_spare
  b_spare : Binds K A.d_spare ["_law_world", "_law_rows", "_law_machine_here", "_law_hour"] []
  g_spare : mg "_law_spare" = some (.ref A.f_spare)
  F_wished : Fun K "_law_wished" "_law_wished" s_wished A.f_wished A.d_wished
  b_wished : Binds K A.d_wished ["_law_world", "_law_gang", "_law_word"] []
  g_wished : mg "_law_wished" = some (.ref A.f_wished)
  F_foes : Fun K "_law_foes" "_law_foes" s_foes A.f_foes A.d_foes
  b_foes : Binds K A.d_foes ["_law_world", "_law_gang"] []
  g_foes : mg "_law_foes" = some (.ref A.f_foes)
  F_meets : Fun K "_law_meets" "_law_meets" s_meets A.f_meets A.d_meets
  b_meets : Binds K A.d_meets ["_law_world", "_law_rows", "_law_gang", "_law_machine_here", "_law_marks"] []
  g_meets : mg "_law_meets" = some (.ref A.f_meets)
  F_room : Fun K "_law_room" "_law_room" s_room A.f_room A.d_room
  b_room : Binds K A.d_room ["_law_world", "_law_rows", "_law_gang", "_law_machine_here", "_law_marks"] []
  g_room : mg "_law_room" = some (.ref A.f_room)
  F_cap : Fun K "_law_cap" "_law_cap" s_cap A.f_cap A.d_cap
  b_cap : Binds K A.d_cap ["_law_world", "_law_rows", "_law_gang", "_law_machine_here", "_law_marks", "_law_out"] []
  g_cap : mg "_law_cap" = some (.ref A.f_cap)
  F_limits : Fun K "_law_limits" "_law_limits" s_limits A.f_limits A.d_limits
  b_limits : Binds K A.d_limits ["_law_world", "_law_rows", "_law_gang", "_law_pair", "_law_out"] []
  g_limits : mg "_law_limits" = some (.ref A.f_limits)
  F_pairs : Fun K "_law_pairs" "_law_pairs" s_pairs A.f_pairs A.d_pairs
  b_pairs : Binds K A.d_pairs ["_law_told", "_law_due"] []
  g_pairs : mg "_law_pairs" = some (.ref A.f_pairs)
  F_right : Fun K "_law_right" "_law_right" s_right A.f_right A.d_right
  b_right : Binds K A.d_right ["_law_world", "_law_rows", "_law_takes", "_law_gang", "_law_pair", "_law_out"] []
  g_right : mg "_law_right" = some (.ref A.f_right)
  F_gangs : Fun K "_law_gangs" "_law_gangs" s_gangs A.f_gangs A.d_gangs
  b_gangs : Binds K A.d_gangs ["_law_world"] []
  g_gangs : mg "_law_gangs" = some (.ref A.f_gangs)
  F_law : Fun K "law" "law" s_law A.f_law A.d_law
  b_law : Binds K A.d_law ["_law_script"] []
  g_law : mg "law" = some (.ref A.f_law)
  cl_Amounts : Cls K A.c_Amounts
  mk_Amounts : Mk K A.c_Amounts A.f_Amounts_init
  sf_Amounts : PySem.W.selfFirst K A.c_Amounts = true
  k1_Amounts : PySem.W.findIn K (.ref A.c_Amounts) "__class__" = some (some (.builtin "object.__class__"))
  k4_Amounts : PySem.W.mroIn K A.c_Amounts (.type "object") = some true
  no_Amounts_numbers : NoAttr K A.c_Amounts "numbers"
  i_Amounts_mul : OwnI K A.c_Amounts .Mult
  cl_Takes : Cls K A.c_Takes
  mk_Takes : Mk K A.c_Takes A.f_Takes_init
  sf_Takes : PySem.W.selfFirst K A.c_Takes = true
  k1_Takes : PySem.W.findIn K (.ref A.c_Takes) "__class__" = some (some (.builtin "object.__class__"))
  k4_Takes : PySem.W.mroIn K A.c_Takes (.type "object") = some true
  no_Takes_cluster : NoAttr K A.c_Takes "cluster"
  no_Takes_rows : NoAttr K A.c_Takes "rows"
  l_Takes_add : OwnL K A.c_Takes .Add
  cl_Machine : Cls K A.c_Machine
  mk_Machine : Mk K A.c_Machine A.f_Machine_init
  sf_Machine : PySem.W.selfFirst K A.c_Machine = true
  k1_Machine : PySem.W.findIn K (.ref A.c_Machine) "__class__" = some (some (.builtin "object.__class__"))
  k4_Machine : PySem.W.mroIn K A.c_Machine (.type "object") = some true
  no_Machine_name : NoAttr K A.c_Machine "name"
  no_Machine_zone : NoAttr K A.c_Machine "zone"
  no_Machine_labels : NoAttr K A.c_Machine "labels"
  no_Machine_amounts : NoAttr K A.c_Machine "amounts"
  cl_Group : Cls K A.c_Group
  mk_Group : Mk K A.c_Group A.f_Group_init
  sf_Group : PySem.W.selfFirst K A.c_Group = true
  k1_Group : PySem.W.findIn K (.ref A.c_Group) "__class__" = some (some (.builtin "object.__class__"))
  k4_Group : PySem.W.mroIn K A.c_Group (.type "object") = some true
  no_Group_name : NoAttr K A.c_Group "name"
  no_Group_parent : NoAttr K A.c_Group "parent"
  no_Group_weight : NoAttr K A.c_Group "weight"
  no_Group_floor : NoAttr K A.c_Group "floor"
  no_Group_limit : NoAttr K A.c_Group "limit"
  no_Group_path : NoAttr K A.c_Group "path"
  no_Group_leaf : NoAttr K A.c_Group "leaf"
  cl_Stage : Cls K A.c_Stage
  mk_Stage : Mk K A.c_Stage A.f_Stage_init
  sf_Stage : PySem.W.selfFirst K A.c_Stage = true
  k1_Stage : PySem.W.findIn K (.ref A.c_Stage) "__class__" = some (some (.builtin "object.__class__"))
  k4_Stage : PySem.W.mroIn K A.c_Stage (.type "object") = some true
  no_Stage_tasks : NoAttr K A.c_Stage "tasks"
  no_Stage_amounts : NoAttr K A.c_Stage "amounts"
  no_Stage_hours : NoAttr K A.c_Stage "hours"
  no_Stage_total : NoAttr K A.c_Stage "total"
  cl_Template : Cls K A.c_Template
  mk_Template : Mk K A.c_Template A.f_Template_init
  sf_Template : PySem.W.selfFirst K A.c_Template = true
  k1_Template : PySem.W.findIn K (.ref A.c_Template) "__class__" = some (some (.builtin "object.__class__"))
  k4_Template : PySem.W.mroIn K A.c_Template (.type "object") = some true
  no_Template_name : NoAttr K A.c_Template "name"
  no_Template_group : NoAttr K A.c_Template "group"
  no_Template_rank : NoAttr K A.c_Template "rank"
  no_Template_every : NoAttr K A.c_Template "every"
  no_Template_stages : NoAttr K A.c_Template "stages"
  no_Template_wishes : NoAttr K A.c_Template "wishes"
  no_Template_needs : NoAttr K A.c_Template "needs"
  no_Template_bars : NoAttr K A.c_Template "bars"
  no_Template_likes : NoAttr K A.c_Template "likes"
  no_Template_foes : NoAttr K A.c_Template "foes"
  no_Template_near : NoAttr K A.c_Template "near"
  no_Template_apart : NoAttr K A.c_Template "apart"
  cl_Cluster : Cls K A.c_Cluster
  mk_Cluster : Mk K A.c_Cluster A.f_Cluster_init
  sf_Cluster : PySem.W.selfFirst K A.c_Cluster = true
  k1_Cluster : PySem.W.findIn K (.ref A.c_Cluster) "__class__" = some (some (.builtin "object.__class__"))
  k4_Cluster : PySem.W.mroIn K A.c_Cluster (.type "object") = some true
  no_Cluster_parts : NoAttr K A.c_Cluster "parts"
  no_Cluster_resources : NoAttr K A.c_Cluster "resources"
  no_Cluster_machines : NoAttr K A.c_Cluster "machines"
  no_Cluster_groups : NoAttr K A.c_Cluster "groups"
  no_Cluster_templates : NoAttr K A.c_Cluster "templates"
  no_Cluster_total : NoAttr K A.c_Cluster "total"
  cl_Span : Cls K A.c_Span
  mk_Span : Mk K A.c_Span A.f_Span_init
  sf_Span : PySem.W.selfFirst K A.c_Span = true
  k1_Span : PySem.W.findIn K (.ref A.c_Span) "__class__" = some (some (.builtin "object.__class__"))
  k4_Span : PySem.W.mroIn K A.c_Span (.type "object") = some true
  no_Span_start : NoAttr K A.c_Span "start"
  no_Span_end : NoAttr K A.c_Span "end"
  kg : PySem.W.specialIn K (.builtin "object.__class__") "__get__" = some (some (.builtin "getset_descriptor.__get__"))
  kt : PySem.W.takesIn K (.builtin "object.__class__") = some true
  x_GangError : GExc K A.c_GangError A.f_GangError_init
  xf_GangError : XfC K A.c_GangError
  xc_GangError : ExcC K A.c_GangError
  xm_GangError : PySem.W.exmOne K (.ref A.c_GangError) (.ref A.c_GangError) = some true
  x_BadAmounts : GExc K A.c_BadAmounts A.f_GangError_init
  xf_BadAmounts : XfC K A.c_BadAmounts
  xc_BadAmounts : ExcC K A.c_BadAmounts
  xm_BadAmounts : PySem.W.exmOne K (.ref A.c_BadAmounts) (.ref A.c_GangError) = some true
  x_BadRow : GExc K A.c_BadRow A.f_GangError_init
  xf_BadRow : XfC K A.c_BadRow
  xc_BadRow : ExcC K A.c_BadRow
  xm_BadRow : PySem.W.exmOne K (.ref A.c_BadRow) (.ref A.c_GangError) = some true
  x_Unknown : GExc K A.c_Unknown A.f_GangError_init
  xf_Unknown : XfC K A.c_Unknown
  xc_Unknown : ExcC K A.c_Unknown
  xm_Unknown : PySem.W.exmOne K (.ref A.c_Unknown) (.ref A.c_GangError) = some true
  x_BadSpan : GExc K A.c_BadSpan A.f_GangError_init
  xf_BadSpan : XfC K A.c_BadSpan
  xc_BadSpan : ExcC K A.c_BadSpan
  xm_BadSpan : PySem.W.exmOne K (.ref A.c_BadSpan) (.ref A.c_GangError) = some true
  si_Amounts : PySem.W.subIn K (.ref A.c_Amounts) (.type "int") = some false
  st_int_Amounts : PySem.W.subIn K (.type "int") (.ref A.c_Amounts) = some false
  kt_int_Amounts : PySem.W.kitOne K (.type "int") (.ref A.c_Amounts) = some false
  g_PLAIN_WISHES : mg "PLAIN_WISHES" = some (.ref A.tc_PLAIN_WISHES)
  sq_PLAIN_WISHES : ∀ H, SqT K H A.tc_PLAIN_WISHES [V.str (Str.ofString "near"), V.str (Str.ofString "apart")]
  g_NAMING_WISHES : mg "NAMING_WISHES" = some (.ref A.tc_NAMING_WISHES)
  sq_NAMING_WISHES : ∀ H, SqT K H A.tc_NAMING_WISHES [V.str (Str.ofString "needs"), V.str (Str.ofString "bars"), V.str (Str.ofString "likes"), V.str (Str.ofString "never")]
  nl_Takes : PySem.W.findIn K (.ref A.c_Takes) "__len__" = some none
  nh_Takes : PySem.W.findIn K (.ref A.c_Takes) "__length_hint__" = some none
  k_LETTERS : ∃ t, mg "LETTERS" = some (.str (Str.ofString "abcdefghijklmnopqrstuvwxyz") t)
  k_DIGITS : ∃ t, mg "DIGITS" = some (.str (Str.ofString "0123456789") t)
  k_MOST_RESOURCES : ∃ t, mg "MOST_RESOURCES" = some (.int 3 t)
  k_MOST_MACHINES : ∃ t, mg "MOST_MACHINES" = some (.int 6 t)
  k_MOST_GROUPS : ∃ t, mg "MOST_GROUPS" = some (.int 8 t)
  k_MOST_TEMPLATES : ∃ t, mg "MOST_TEMPLATES" = some (.int 8 t)
  k_MOST_LABELS : ∃ t, mg "MOST_LABELS" = some (.int 6 t)
  k_MOST_ABOVE : ∃ t, mg "MOST_ABOVE" = some (.int 3 t)
  k_MOST_STAGES : ∃ t, mg "MOST_STAGES" = some (.int 3 t)
  k_MOST_WISHES : ∃ t, mg "MOST_WISHES" = some (.int 6 t)
  k_GREATEST_AMOUNT : ∃ t, mg "GREATEST_AMOUNT" = some (.int 9999 t)
/-- fewer than n bits -/
def Bits (n : Nat) (x : Int) : Prop := x.natAbs < 2 ^ n
theorem Bits.log {n : Nat} {x : Int} (h : Bits n x) (h0 : 0 < n) : x.natAbs.log2 < n := PySem.Flt.log2_lt_of h0 h
theorem Bits.le {n : Nat} {x y : Int} (h : Bits n y) (e : x.natAbs ≤ y.natAbs) : Bits n x := Nat.lt_of_le_of_lt e h
theorem Bits.up {n m : Nat} {x : Int} (h : Bits n x) (e : n ≤ m) : Bits m x := Nat.lt_of_lt_of_le h (Nat.pow_le_pow_right (by decide) e)
theorem Bits.neg {n : Nat} {x : Int} (h : Bits n x) : Bits n (-x) := by unfold Bits; rw [Int.natAbs_neg]; exact h
theorem Bits.abs {n : Nat} {x : Int} (h : Bits n x) : Bits n (if x < 0 then -x else x) := by split; exact h.neg; exact h
theorem Bits.one {n : Nat} (h : 0 < n) : Bits n 1 := by
  show (1 : Nat) < 2 ^ n
  exact Nat.one_lt_two_pow (by omega)
theorem Bits.ok {n m : Nat} {x y : Int} (h : Bits n x) (h' : Bits m y) (h0 : 0 < n) (h1 : 0 < m) (e : n + m ≤ 1000000) : IntMulOk x y := by
  have a := h.log h0
  have b := h'.log h1
  exact CMulW.ok (by unfold CMulW; omega)
def afl (t : Addr) : List (Str × V) := putF "numbers" (.ref t) []
theorem afl_numbers (t : Addr) : (afl t).lookup ("numbers" : Str) = some (.ref t) := by
  unfold afl; rw [lookup_putF, if_pos rfl]
def AmtAt (A : Adr) (H : Hp) (x : Addr) (xs : List Int) : Prop := ∃ dx t, H x = some (.ins A.c_Amounts dx (afl t)) ∧ H t = some (.tup (xs.map V.int))
theorem AmtAt.mono {A : Adr} {H H' : Hp} {x : Addr} {xs : List Int} (h : AmtAt A H x xs) (k : Same H H') : AmtAt A H' x xs := let ⟨dx, t, a, b⟩ := h; ⟨dx, t, k _ _ a, k _ _ b⟩
def Few {α : Type} (xs : List α) : Prop := 1 ≤ xs.length ∧ xs.length ≤ 3
def NewA (A : Adr) (Q : VK) (H : Hp) (zs : List Int) : Prop := ∀ x H', Same H H' → AmtAt A H' x zs → Q (.ref x) H'
theorem NewA.from {A : Adr} {Q : VK} {H H1 : Hp} {zs : List Int} (k : NewA A Q H zs) (s : Same H H1) : NewA A Q H1 zs := fun x H' s' hx => k x H' (s.trans s') hx
def RefA (A : Adr) (E : XK) (H : Hp) (ys : List Int) : Prop := ∀ t d H', Same H H' → H' t = some (.tup (ys.map V.int)) → H' d = some (.xd [(("subject" : Str), .ref t)]) → E (.ref A.c_BadAmounts) (some d) H'
def spAI (A : Adr) : Sp := fun vs H Q E => ∃ (p t dx : Addr) (ys : List V), vs = [.ref p, .ref t] ∧ H p = some (.ins A.c_Amounts dx []) ∧ H t = some (.tup ys) ∧ (Few ys → Q .non (upd H p (.ins A.c_Amounts dx (afl t)))) ∧ (¬ Few ys → ∀ d H', Same H H' → H' d = some (.xd [(("subject" : Str), .ref t)]) → E (.ref A.c_BadAmounts) (some d) H')
def spRL (A : Adr) : Sp := fun vs H Q E => ∃ (a b : Addr) (xs ys : List Int), vs = [.ref a, .ref b] ∧ AmtAt A H a xs ∧ AmtAt A H b ys ∧ (xs.length = ys.length → Q .non H) ∧ (xs.length ≠ ys.length → RefA A E H ys)
def spBin (A : Adr) (f : Int → Int → Int) : Sp := fun vs H Q E => ∃ (a b : Addr) (xs ys : List Int), vs = [.ref a, .ref b] ∧ AmtAt A H a xs ∧ AmtAt A H b ys ∧ Few xs ∧ (xs.length = ys.length → NewA A Q H (List.zipWith f xs ys)) ∧ (xs.length ≠ ys.length → RefA A E H ys)
def mn (i j : Int) : Int := if j < i then j else i
def wi (ys xs : List Int) : Bool := (List.zipWith (fun i j => decide (i ≤ j)) ys xs).all id
def spIn (A : Adr) : Sp := fun vs H Q E => ∃ (a b : Addr) (xs ys : List Int), vs = [.ref a, .ref b] ∧ AmtAt A H a xs ∧ AmtAt A H b ys ∧ Few xs ∧ (xs.length = ys.length → ∀ H', Same H H' → Q (.bl (wi ys xs)) H') ∧ (xs.length ≠ ys.length → RefA A E H ys)
def spLen (A : Adr) : Sp := fun vs H Q _ => ∃ (a dx t : Addr) (ys : List V), vs = [.ref a] ∧ H a = some (.ins A.c_Amounts dx (afl t)) ∧ H t = some (.tup ys) ∧ Q (.int ys.length) H
def spIter (A : Adr) : Sp := fun vs H Q _ => ∃ (a dx t : Addr) (ys : List V), vs = [.ref a] ∧ H a = some (.ins A.c_Amounts dx (afl t)) ∧ H t = some (.tup ys) ∧ ∀ it, H it = none → Q (.ref it) (upd H it (ItT t it 0))
section
variable {A : Adr} {H : Hp} {Q : VK} {E : XK}
theorem amt_any {ys : List V} (hz : ys.length ≤ 1000) (k1 : Few ys → ∀ x t dx H', Same H H' → H' x = some (.ins A.c_Amounts dx (afl t)) → H' t = some (.tup ys) → Q (.ref x) H')
    (k2 : ¬ Few ys → ∀ t d H', Same H H' → H' t = some (.tup ys) → H' d = some (.xd [(("subject" : Str), .ref t)]) → E (.ref A.c_BadAmounts) (some d) H') :
    ∀ x dx, H x = none → H dx = none → dx ≠ x → spStar 1 (spAI A) (V.ref x :: ys) (upd (upd H dx (.own x)) x (.ins A.c_Amounts dx [])) (fun v H2 => v = .non ∧ Q (.ref x) H2) E := by
  intro x dx hx hd hne
  refine ⟨[.ref x], ys, rfl, rfl, by rw [sizeLine_eq]; omega, fun p hp => ⟨x, p, dx, ys, rfl, ?_, upd_same, fun g => ⟨rfl, k1 g x p dx _ ?_ upd_same ?_⟩, fun g d H' s1 e1 => k2 g p d H' ?_ (s1 _ _ upd_same) e1⟩⟩
  all_goals have npx : x ≠ p := (ne_of_none (H := upd (upd H dx (.own x)) x (.ins A.c_Amounts dx [])) upd_same hp)
  all_goals have s0 : Same H (upd (upd (upd H dx (.own x)) x (.ins A.c_Amounts dx [])) p (.tup ys)) := ((same_new hd).trans (same_new (by rw [upd_ne hne.symm]; exact hx))).trans (same_new hp)
  · rw [upd_ne npx]; exact upd_same
  · exact same_put s0 hx
  · rw [upd_ne npx.symm]; exact upd_same
  · exact s0.trans s1
theorem amt_made {xs : List Int} (hg : Few xs) (k : NewA A Q H xs) :
    ∀ x dx, H x = none → H dx = none → dx ≠ x → spStar 1 (spAI A) (V.ref x :: xs.map V.int) (upd (upd H dx (.own x)) x (.ins A.c_Amounts dx [])) (fun v H2 => v = .non ∧ Q (.ref x) H2) E :=
  amt_any (by rw [List.length_map]; have := hg.2; omega) (fun _ x t dx H' s a b => k x H' s ⟨dx, t, a, b⟩) (fun g => absurd (show Few (xs.map V.int) by unfold Few at *; rw [List.length_map]; exact hg) g)
end

theorem AmtAt.but {A : Adr} {H H' : Hp} {x p : Addr} {xs : List Int} (h : AmtAt A H x xs) (P : PoolAt H p) (s : SameBut p H H') : AmtAt A H' x xs := by
  obtain ⟨dx, t, a, b⟩ := h
  obtain ⟨_, _, _, _, _, e, _, _⟩ := P
  exact ⟨dx, t, s _ _ (ne_of a e (by intro z; cases z)) a, s _ _ (ne_of b e (by intro z; cases z)) b⟩
theorem amt_mono {A : Adr} {H H' : Hp} {x : Addr} {xs : List Int} (s : Same H H') (h : AmtAt A H x xs) : AmtAt A H' x xs := h.mono s
theorem amt_but {A : Adr} {H H' : Hp} {x p : Addr} {xs : List Int} (s : SameBut p H H') (P : PoolAt H p) (h : AmtAt A H x xs) : AmtAt A H' x xs := h.but P s
theorem pool_mono {H H' : Hp} {p : Addr} (s : Same H H') (P : PoolAt H p) : PoolAt H' p := P.mono s
structure Dv (xs ys : List Int) (n : Int) : Prop where
  n0 : 0 ≤ n
  le : ∀ (j : Nat) (a b : Int), xs[j]? = some a → ys[j]? = some b → n * b ≤ a
  ex : ∃ (j : Nat) (a b : Int), xs[j]? = some a ∧ ys[j]? = some b ∧ 0 ≤ a ∧ 0 ≤ b ∧ a < (n + 1) * b
theorem Dv.uniq {xs ys : List Int} {n m : Int} (h : Dv xs ys n) (g : Dv xs ys m) : n = m := by
  have key : ∀ {n m : Int}, Dv xs ys n → Dv xs ys m → m ≤ n := by
    intro n m h g
    obtain ⟨j, a, b, h1, h2, a0, b0, h3⟩ := h.ex
    have q := g.le j a b h1 h2
    have hb : 0 < b := by
      rcases Int.lt_or_le 0 b with c | c
      · exact c
      · have : b = 0 := by omega
        subst this
        rw [Int.mul_zero] at h3
        omega
    have : m * b < (n + 1) * b := by omega
    have := Int.lt_of_mul_lt_mul_right this (by omega)
    omega
  have := key h g
  have := key g h
  omega
theorem Bits.add {n : Nat} {x y : Int} (h : Bits n x) (h' : Bits n y) : Bits (n + 1) (x + y) := by
  unfold Bits at *
  rw [Nat.pow_succ]
  omega
def BitsL (n : Nat) (xs : List Int) : Prop := ∀ x ∈ xs, Bits n x
def spMulA (A : Adr) : Sp := fun vs H Q _ => ∃ (a : Addr) (xs : List Int) (n : Int) (m : Nat), vs = [.ref a, .int n] ∧ AmtAt A H a xs ∧ Few xs ∧ BitsL m xs ∧ Bits m n ∧ 0 < m ∧ m ≤ 10000 ∧ NewA A Q H (xs.map (· * n))
theorem Few.zip {f : Int → Int → Int} {xs ys : List Int} (h : Few xs) (e : xs.length = ys.length) : Few (List.zipWith f xs ys) := by
  unfold Few at *
  rw [List.length_zipWith]
  omega
theorem Few.map {f : Int → Int} {xs : List Int} (h : Few xs) : Few (xs.map f) := by unfold Few at *; rw [List.length_map]; exact h
open SX TL
def lets : List Nat := tl (Str.ofString "abcdefghijklmnopqrstuvwxyz")
def dgs : List Nat := tl (Str.ofString "0123456789")
structure NmT (t : List Nat) : Prop where
  l1 : 1 ≤ t.length
  l8 : t.length ≤ 8
  hd : ∀ c, t[0]? = some c → c ∈ lets
  ch : ∀ c ∈ t, c ∈ lets ∨ c ∈ dgs
structure Nm (z : Str) : Prop where
  ex : ∃ t, z = S t ∧ NmT t
theorem Nm.len {z : Str} (h : Nm z) : 1 ≤ z.length ∧ z.length ≤ 8 := by
  obtain ⟨t, rfl, n⟩ := h.ex
  rw [S_len]
  exact ⟨n.l1, n.l8⟩
theorem Nm.ne {z : Str} (h : Nm z) : ¬ V.str z = V.str (Str.ofString "") := by
  intro e
  injection e with e
  have := h.len.1
  rw [e] at this
  exact absurd this (by decide +kernel)
structure NumOk (k : Nat) (xs : List Int) : Prop where
  len : xs.length = k
  rng : ∀ x ∈ xs, 0 ≤ x ∧ x ≤ 9999
structure MR where
  a : Addr
  la : Addr
  na : Addr
  nm : Str
  zn : Str
  lb : List Str
  xs : List Int
structure GR where
  a : Addr
  fa : Addr
  nm : Str
  n : Nat
structure SR where
  a : Addr
  na : Addr
  tk : Int
  xs : List Int
  hr : Int
structure TR where
  a : Addr
  sa : Addr
  wa : Addr
  nm : Str
  gp : Str
  rk : Int
  ev : Int
  st : List SR
  ws : List Str
/-- tuples stay -/
def Tups (H H' : Hp) : Prop := ∀ a xs, H a = some (.tup xs) → H' a = some (.tup xs)
theorem Same.tups {H H' : Hp} (s : Same H H') : Tups H H' := fun a xs e => s _ _ e
theorem ext_same {H H' : Hp} (s : Same H H') : LamX.ExtN H H' := fun b o h _ => s b o h
theorem ext_nw {H H' : Hp} {a : Addr} {o : HO} (s : LamX.ExtN H H') (h : H' a = none) : LamX.ExtN H (upd H' a o) := s.trans (ext_same (same_new h))
theorem ext_hp {H H' : Hp} {a : Addr} {o : HO} (s : LamX.ExtN H H') (e : H a = some o) (n : ∀ ps, o ≠ .tbl ps) : H' a = some o := s _ _ e n
theorem tabs_same {T : List (Addr × Str)} {H H' : Hp} (s : Same H H') (h : LamX.Tabs T H) : LamX.Tabs T H' := h.ext fun b o e => s b o e
theorem ext_tups {H H' : Hp} (s : LamX.ExtN H H') : Tups H H' := fun a xs e => s _ _ e (fun ps z => by cases z)
structure MRAt (H : Hp) (r : MR) : Prop where
  e : H r.a = some (.tup [.str r.nm, .str r.zn, .ref r.la, .ref r.na])
  l : H r.la = some (.tup (r.lb.map V.str))
  n : H r.na = some (.tup (r.xs.map V.int))
theorem MRAt.mono {H H' : Hp} {r : MR} (h : MRAt H r) (s : Tups H H') : MRAt H' r := ⟨s _ _ h.e, s _ _ h.l, s _ _ h.n⟩
structure GRAt (H : Hp) (r : GR) : Prop where
  e : H r.a = some (.tup [.str r.nm, .str (Str.ofString ""), .int 1, .ref r.fa, .non])
  f : H r.fa = some (.tup ((List.replicate r.n (0 : Int)).map V.int))
theorem GRAt.mono {H H' : Hp} {r : GR} (h : GRAt H r) (s : Tups H H') : GRAt H' r := ⟨s _ _ h.e, s _ _ h.f⟩
structure SRAt (H : Hp) (r : SR) : Prop where
  e : H r.a = some (.tup [.int r.tk, .ref r.na, .int r.hr])
  n : H r.na = some (.tup (r.xs.map V.int))
theorem SRAt.mono {H H' : Hp} {r : SR} (h : SRAt H r) (s : Tups H H') : SRAt H' r := ⟨s _ _ h.e, s _ _ h.n⟩
structure TRAt (H : Hp) (r : TR) : Prop where
  e : H r.a = some (.tup [.str r.nm, .str r.gp, .int r.rk, .int r.ev, .ref r.sa, .ref r.wa])
  s : H r.sa = some (.tup (r.st.map fun q => V.ref q.a))
  ss : ∀ q ∈ r.st, SRAt H q
  w : H r.wa = some (.tup (r.ws.map V.str))
theorem TRAt.mono {H H' : Hp} {r : TR} (h : TRAt H r) (s : Tups H H') : TRAt H' r := ⟨s _ _ h.e, s _ _ h.s, fun q hq => (h.ss q hq).mono s, s _ _ h.w⟩
def MsAt (H : Hp) (l : List MR) : Prop := ∀ r ∈ l, MRAt H r
theorem MsAt.mono {H H' : Hp} {l : List MR} (h : MsAt H l) (s : Tups H H') : MsAt H' l := fun r hr => (h r hr).mono s
def TsAt (H : Hp) (l : List TR) : Prop := ∀ r ∈ l, TRAt H r
theorem TsAt.mono {H H' : Hp} {l : List TR} (h : TsAt H l) (s : Tups H H') : TsAt H' l := fun r hr => (h r hr).mono s
structure MOk (k : Nat) (r : MR) : Prop where
  nm : Nm r.nm
  zn : Nm r.zn
  l6 : r.lb.length ≤ 6
  nd : r.lb.Nodup
  ln : ∀ z ∈ r.lb, Nm z
  num : NumOk k r.xs
  pos : ∃ x ∈ r.xs, 0 < x
structure SOk (k : Nat) (r : SR) : Prop where
  tk : 1 ≤ r.tk ∧ r.tk ≤ 6
  num : NumOk k r.xs
  pos : ∃ x ∈ r.xs, 0 < x
  hr : 1 ≤ r.hr ∧ r.hr ≤ 24
structure WishOk (z : Str) : Prop where
  ok : z = Str.ofString "near" ∨ z = Str.ofString "apart" ∨ ∃ w n : Str, w ∈ [Str.ofString "needs", Str.ofString "bars", Str.ofString "likes", Str.ofString "never"] ∧ Nm n ∧ z = w ++ Str.ofString ":" ++ n
structure TOk (k : Nat) (gn : Str) (r : TR) : Prop where
  nm : Nm r.nm
  gp : r.gp = gn
  rk : 0 ≤ r.rk ∧ r.rk ≤ 99
  ev : 0 ≤ r.ev ∧ r.ev ≤ 24
  s1 : 1 ≤ r.st.length ∧ r.st.length ≤ 3
  st : ∀ q ∈ r.st, SOk k q
  w6 : r.ws.length ≤ 6
  nd : r.ws.Nodup
  ws : ∀ z ∈ r.ws, WishOk z
def spIsNm : Sp := fun vs H Q _ => ∃ z : Str, vs = [.str z] ∧ Nm z ∧ ∀ H', Same H H' → Q (.bl true) H'
def nAft (w : Str) (ws : List Str) : List Str := (ws.filter fun z => Txt.startswith z (w ++ Str.ofString ":")).map fun z => cutS z (some (((w ++ Str.ofString ":").length : Nat) : Int)) none
def spNAft : Sp := fun vs H Q _ => ∃ (w : Str) (a : Addr) (ws : List Str), vs = [.str w, .ref a] ∧ H a = some (.tup (ws.map V.str)) ∧ w.length ≤ 10 ∧ ws.length ≤ 10 ∧ (∀ z ∈ ws, z.length ≤ 20) ∧ ∀ p H', Same H H' → H' p = some (.lst ((nAft w ws).map V.str)) → Q (.ref p) H'
def spPath : Sp := fun vs H Q _ => ∃ (a : Addr) (g : GR), vs = [.ref a, .int 0] ∧ H a = some (.lst [.ref g.a]) ∧ GRAt H g ∧ ∀ p H', Same H H' → H' p = some (.tup [.int 0]) → Q (.ref p) H'
def spLeaf : Sp := fun vs H Q _ => ∃ (a : Addr) (g : GR), vs = [.ref a] ∧ H a = some (.lst [.ref g.a]) ∧ GRAt H g ∧ Nm g.nm ∧ ∀ p H', Same H H' → H' p = some (.lst [.str g.nm]) → Q (.ref p) H'
def spNew : Sp := fun vs H Q _ => ∃ (a : Addr) (l : List Str) (i : Nat), vs = [.ref a, .int (i : Int)] ∧ (H a = some (.lst (l.map V.str)) ∨ H a = some (.tup (l.map V.str))) ∧ i < l.length ∧ l.length ≤ 20 ∧ l.Nodup ∧ (∀ z ∈ l, Nm z) ∧ ∀ H', Same H H' → Q (.bl true) H'
def spAre : Sp := fun vs H Q _ => ∃ (a : Addr) (l : List Str), vs = [.ref a] ∧ H a = some (.tup (l.map V.str)) ∧ l.length ≤ 20 ∧ l.Nodup ∧ (∀ z ∈ l, Nm z) ∧ ∀ H', Same H H' → Q (.bl true) H'
def spAFit : Sp := fun vs H Q _ => ∃ (a : Addr) (xs : List Int) (k : Nat), vs = [.ref a, .int (k : Int)] ∧ H a = some (.tup (xs.map V.int)) ∧ NumOk k xs ∧ k ≤ 3 ∧ ∀ H', Same H H' → Q (.bl true) H'
def spSFit : Sp := fun vs H Q _ => ∃ (a : Addr) (xs : List Int) (k : Nat), vs = [.ref a, .int (k : Int)] ∧ H a = some (.tup (xs.map V.int)) ∧ NumOk k xs ∧ (∃ x ∈ xs, 0 < x) ∧ k ≤ 3 ∧ ∀ H', Same H H' → Q (.bl true) H'
def spMFit : Sp := fun vs H Q _ => ∃ (a : Addr) (ms : List MR) (i k : Nat), vs = [.ref a, .int (i : Int), .int (k : Int)] ∧ H a = some (.lst (ms.map fun r => V.ref r.a)) ∧ MsAt H ms ∧ i < ms.length ∧ ms.length ≤ 8 ∧ (ms.map (·.nm)).Nodup ∧ (∀ r ∈ ms, MOk k r) ∧ k ≤ 3 ∧ ∀ H', Same H H' → Q (.bl true) H'
def spLim : Sp := fun vs H Q _ => ∃ f : Addr, vs = [.ref f, .non] ∧ Q (.bl true) H
def spFloors (A : Adr) : Sp := fun vs H Q _ => ∃ (a t : Addr) (g : GR) (xs : List Int), vs = [.ref a, .int 0, .ref t] ∧ H a = some (.lst [.ref g.a]) ∧ GRAt H g ∧ Nm g.nm ∧ AmtAt A H t xs ∧ xs.length = g.n ∧ Few xs ∧ (∀ x ∈ xs, 0 ≤ x) ∧ BitsL 100 xs ∧ ∀ H', Same H H' → Q (.bl true) H'
def spSt : Sp := fun vs H Q _ => ∃ (q : SR) (k : Nat), vs = [.ref q.a, .int (k : Int)] ∧ SRAt H q ∧ SOk k q ∧ k ≤ 3 ∧ ∀ H', Same H H' → Q (.bl true) H'
def spWish : Sp := fun vs H Q _ => ∃ z : Str, vs = [.str z] ∧ WishOk z ∧ ∀ H', Same H H' → Q (.bl true) H'
def spTFit : Sp := fun vs H Q _ => ∃ (a lv : Addr) (ts : List TR) (gn : Str) (i k : Nat), vs = [.ref a, .int (i : Int), .ref lv, .int (k : Int)] ∧ H a = some (.lst (ts.map fun r => V.ref r.a)) ∧ TsAt H ts ∧ i < ts.length ∧ ts.length ≤ 8 ∧ (ts.map (·.nm)).Nodup ∧ H lv = some (.lst [.str gn]) ∧ (∀ r ∈ ts, TOk k gn r) ∧ k ≤ 3 ∧ ∀ H', Same H H' → Q (.bl true) H'
def NevOk (ts : List TR) : Prop := ∀ r ∈ ts, ∀ n ∈ nAft (Str.ofString "never") r.ws, n ∈ ts.map (·.nm)
def spFoes : Sp := fun vs H Q _ => ∃ (a : Addr) (ts : List TR), vs = [.ref a] ∧ H a = some (.lst (ts.map fun r => V.ref r.a)) ∧ TsAt H ts ∧ ts.length ≤ 8 ∧ NevOk ts ∧ (∀ r ∈ ts, r.ws.length ≤ 6 ∧ ∀ z ∈ r.ws, z.length ≤ 20) ∧ ∀ H', Same H H' → Q .non H'
def ttPart : GL.LTT := fun tl vs H Q _ => ∃ (nm : Str) (a : Addr) (ys : List V) (m : Nat), vs = [.str nm, .ref a, .int (m : Int)] ∧ H a = some (.lst ys) ∧ 1 ≤ ys.length ∧ ys.length ≤ m ∧ m ≤ 20 ∧
  (∀ i : Nat, i < ys.length → ∀ (H1 : Hp) (Q1 : VK), Same H H1 → (∀ H2, Same H1 H2 → Q1 (.bl true) H2) → tl (.int (i : Int)) H1 Q1) ∧ ∀ H', Same H H' → Q .non H'
structure WA where
  ra : Addr
  ma : Addr
  ga : Addr
  ta : Addr
  rs : List Str
  ms : List MR
  g : GR
  ts : List TR
structure WAt (H : Hp) (w : WA) : Prop where
  r : H w.ra = some (.lst (w.rs.map V.str))
  m : H w.ma = some (.lst (w.ms.map fun r => V.ref r.a))
  g : H w.ga = some (.lst [.ref w.g.a])
  t : H w.ta = some (.lst (w.ts.map fun r => V.ref r.a))
  mm : MsAt H w.ms
  gg : GRAt H w.g
  tt : TsAt H w.ts
theorem WAt.ext {H H' : Hp} {w : WA} (h : WAt H w) (s : LamX.ExtN H H') : WAt H' w :=
  ⟨ext_hp s h.r (fun _ z => by cases z), ext_hp s h.m (fun _ z => by cases z), ext_hp s h.g (fun _ z => by cases z), ext_hp s h.t (fun _ z => by cases z), h.mm.mono (ext_tups s), h.gg.mono (ext_tups s), h.tt.mono (ext_tups s)⟩
structure WOk (w : WA) : Prop where
  r1 : 1 ≤ w.rs.length ∧ w.rs.length ≤ 3
  rd : w.rs.Nodup
  rn : ∀ z ∈ w.rs, Nm z
  m1 : 1 ≤ w.ms.length ∧ w.ms.length ≤ 6
  md : (w.ms.map (·.nm)).Nodup
  mo : ∀ r ∈ w.ms, MOk w.rs.length r
  gn : Nm w.g.nm
  gk : w.g.n = w.rs.length
  t1 : 1 ≤ w.ts.length ∧ w.ts.length ≤ 8
  td : (w.ts.map (·.nm)).Nodup
  to : ∀ r ∈ w.ts, TOk w.rs.length w.g.nm r
  nv : NevOk w.ts
def spRows (A : Adr) : Sp := fun vs H Q _ => ∃ w : WA, vs = [.ref w.ra, .ref w.ma, .ref w.ga, .ref w.ta] ∧ WAt H w ∧ WOk w ∧ LamX.Tabs [(A.tb_check_rows, GL.lamQ "check_rows")] H ∧ ∀ H', LamX.ExtN H H' → LamX.Tabs [(A.tb_check_rows, GL.lamQ "check_rows")] H' → Q .non H'
theorem getD_some {l : List Int} {i : Nat} (h : i < l.length) : l[i]? = some (l.getD i 0) := by rw [List.getD_eq_getElem?_getD, List.getElem?_eq_getElem h]; rfl
def tots (w : WA) : List Int := (List.range w.rs.length).map fun k => (w.ms.map fun r => r.xs.getD k 0).sum
theorem sum_rng {M : Int} (hM : 0 ≤ M) : ∀ {l : List Int}, (∀ x ∈ l, 0 ≤ x ∧ x ≤ M) → 0 ≤ l.sum ∧ l.sum ≤ M * (l.length : Int)
  | [], _ => by simp
  | x :: l, h => by
    have ih := sum_rng hM (l := l) (fun y hy => h y (List.mem_cons_of_mem _ hy))
    have h1 := h x List.mem_cons_self
    rw [List.sum_cons, List.length_cons]
    refine ⟨by omega, ?_⟩
    have e : M * ((l.length + 1 : Nat) : Int) = M * (l.length : Int) + M := by rw [Int.natCast_add, Int.mul_add]; simp
    rw [e]
    omega
theorem getD_rng {k : Nat} {xs : List Int} {i : Nat} (h : NumOk k xs) : 0 ≤ xs.getD i 0 ∧ xs.getD i 0 ≤ 9999 := by
  rw [List.getD_eq_getElem?_getD]
  cases e : xs[i]? with
  | none => exact ⟨by decide, by decide⟩
  | some z => exact h.rng z (List.mem_of_getElem? e)
theorem col_rng {k : Nat} {ms : List MR} (h : ∀ r ∈ ms, MOk k r) (i : Nat) : 0 ≤ (ms.map fun r => r.xs.getD i 0).sum ∧ (ms.map fun r => r.xs.getD i 0).sum ≤ 9999 * (ms.length : Int) := by
  have := sum_rng (M := 9999) (by decide) (l := ms.map fun r => r.xs.getD i 0) (fun x hx => by
    obtain ⟨r, hr, rfl⟩ := List.mem_map.mp hx
    exact getD_rng (h r hr).num)
  rwa [List.length_map] at this
theorem num_bits {k : Nat} {xs : List Int} (h : NumOk k xs) : BitsL 100 xs := fun x hx => by
  have := h.rng x hx
  unfold Bits
  have h2 : (2 : Nat) ^ 100 = 1267650600228229401496703205376 := by decide +kernel
  rw [h2]
  omega
theorem tots_len {w : WA} (h : w.g.n = w.rs.length) : (tots w).length = w.g.n := by unfold tots; rw [List.length_map, List.length_range, h]
theorem tots_nn {w : WA} (h : ∀ r ∈ w.ms, MOk w.rs.length r) : ∀ x ∈ tots w, 0 ≤ x := fun x hx => by
  obtain ⟨i, _, rfl⟩ := List.mem_map.mp hx
  exact (col_rng h i).1
theorem tots_bits {w : WA} (h6 : w.ms.length ≤ 6) (h : ∀ r ∈ w.ms, MOk w.rs.length r) : BitsL 100 (tots w) := fun x hx => by
  obtain ⟨i, _, rfl⟩ := List.mem_map.mp hx
  have := col_rng h i
  unfold Bits
  have h2 : (2 : Nat) ^ 100 = 1267650600228229401496703205376 := by decide +kernel
  rw [h2]
  omega
theorem amt_ext {A : Adr} {H H' : Hp} {x : Addr} {xs : List Int} (s : LamX.ExtN H H') (h : AmtAt A H x xs) : AmtAt A H' x xs := let ⟨dx, t, a, b⟩ := h; ⟨dx, t, ext_hp s a (fun _ z => by cases z), ext_hp s b (fun _ z => by cases z)⟩
def mfl (r : MR) (am : Addr) : List (Str × V) := putF "amounts" (.ref am) (putF "labels" (.ref r.la) (putF "zone" (.str r.zn) (putF "name" (.str r.nm) [])))
theorem mfl_name (r : MR) (am : Addr) : (mfl r am).lookup ("name" : Str) = some (.str r.nm) := by
  unfold mfl; rw [lookup_putF, if_neg (by decide +kernel), lookup_putF, if_neg (by decide +kernel), lookup_putF, if_neg (by decide +kernel), lookup_putF, if_pos rfl]
theorem mfl_zone (r : MR) (am : Addr) : (mfl r am).lookup ("zone" : Str) = some (.str r.zn) := by
  unfold mfl; rw [lookup_putF, if_neg (by decide +kernel), lookup_putF, if_neg (by decide +kernel), lookup_putF, if_pos rfl]
theorem mfl_labels (r : MR) (am : Addr) : (mfl r am).lookup ("labels" : Str) = some (.ref r.la) := by
  unfold mfl; rw [lookup_putF, if_neg (by decide +kernel), lookup_putF, if_pos rfl]
theorem mfl_amounts (r : MR) (am : Addr) : (mfl r am).lookup ("amounts" : Str) = some (.ref am) := by
  unfold mfl; rw [lookup_putF, if_pos rfl]
theorem mfl_parts (r : MR) (am : Addr) : (mfl r am).lookup ("parts" : Str) = none := by
  unfold mfl; rw [lookup_putF, if_neg (by decide +kernel), lookup_putF, if_neg (by decide +kernel), lookup_putF, if_neg (by decide +kernel), lookup_putF, if_neg (by decide +kernel)]; rfl
def spMI (A : Adr) : Sp := fun vs H Q _ => ∃ (p dx : Addr) (r : MR), vs = [.ref p, .str r.nm, .str r.zn, .ref r.la, .ref r.na] ∧ H p = some (.ins A.c_Machine dx []) ∧ H r.na = some (.tup (r.xs.map V.int)) ∧ Few r.xs ∧
  ∀ am H', SameBut p H H' → AmtAt A H' am r.xs → H' p = some (.ins A.c_Machine dx (mfl r am)) → Q .non H'
def gfl (g : GR) (fa pa : Addr) : List (Str × V) := putF "leaf" (.bl true) (putF "path" (.ref pa) (putF "limit" (.non) (putF "floor" (.ref fa) (putF "weight" (.int 1) (putF "parent" (.non) (putF "name" (.str g.nm) []))))))
theorem gfl_name (g : GR) (fa pa : Addr) : (gfl g fa pa).lookup ("name" : Str) = some (.str g.nm) := by
  unfold gfl; rw [lookup_putF, if_neg (by decide +kernel), lookup_putF, if_neg (by decide +kernel), lookup_putF, if_neg (by decide +kernel), lookup_putF, if_neg (by decide +kernel), lookup_putF, if_neg (by decide +kernel), lookup_putF, if_neg (by decide +kernel), lookup_putF, if_pos rfl]
theorem gfl_parent (g : GR) (fa pa : Addr) : (gfl g fa pa).lookup ("parent" : Str) = some (.non) := by
  unfold gfl; rw [lookup_putF, if_neg (by decide +kernel), lookup_putF, if_neg (by decide +kernel), lookup_putF, if_neg (by decide +kernel), lookup_putF, if_neg (by decide +kernel), lookup_putF, if_neg (by decide +kernel), lookup_putF, if_pos rfl]
theorem gfl_weight (g : GR) (fa pa : Addr) : (gfl g fa pa).lookup ("weight" : Str) = some (.int 1) := by
  unfold gfl; rw [lookup_putF, if_neg (by decide +kernel), lookup_putF, if_neg (by decide +kernel), lookup_putF, if_neg (by decide +kernel), lookup_putF, if_neg (by decide +kernel), lookup_putF, if_pos rfl]
theorem gfl_floor (g : GR) (fa pa : Addr) : (gfl g fa pa).lookup ("floor" : Str) = some (.ref fa) := by
  unfold gfl; rw [lookup_putF, if_neg (by decide +kernel), lookup_putF, if_neg (by decide +kernel), lookup_putF, if_neg (by decide +kernel), lookup_putF, if_pos rfl]
theorem gfl_limit (g : GR) (fa pa : Addr) : (gfl g fa pa).lookup ("limit" : Str) = some (.non) := by
  unfold gfl; rw [lookup_putF, if_neg (by decide +kernel), lookup_putF, if_neg (by decide +kernel), lookup_putF, if_pos rfl]
theorem gfl_path (g : GR) (fa pa : Addr) : (gfl g fa pa).lookup ("path" : Str) = some (.ref pa) := by
  unfold gfl; rw [lookup_putF, if_neg (by decide +kernel), lookup_putF, if_pos rfl]
theorem gfl_leaf (g : GR) (fa pa : Addr) : (gfl g fa pa).lookup ("leaf" : Str) = some (.bl true) := by
  unfold gfl; rw [lookup_putF, if_pos rfl]
theorem gfl_parts (g : GR) (fa pa : Addr) : (gfl g fa pa).lookup ("parts" : Str) = none := by
  unfold gfl; rw [lookup_putF, if_neg (by decide +kernel), lookup_putF, if_neg (by decide +kernel), lookup_putF, if_neg (by decide +kernel), lookup_putF, if_neg (by decide +kernel), lookup_putF, if_neg (by decide +kernel), lookup_putF, if_neg (by decide +kernel), lookup_putF, if_neg (by decide +kernel)]; rfl
def spGrI (A : Adr) : Sp := fun vs H Q _ => ∃ (p dx pa : Addr) (g : GR), vs = [.ref p, .ref g.a, .ref pa, .bl true] ∧ H p = some (.ins A.c_Group dx []) ∧ GRAt H g ∧ H pa = some (.tup [.int 0]) ∧ 1 ≤ g.n ∧ g.n ≤ 3 ∧
  ∀ fa H', SameBut p H H' → AmtAt A H' fa (List.replicate g.n (0 : Int)) → H' p = some (.ins A.c_Group dx (gfl g fa pa)) → Q .non H'
def stfl (q : SR) (am tt : Addr) : List (Str × V) := putF "total" (.ref tt) (putF "hours" (.int q.hr) (putF "amounts" (.ref am) (putF "tasks" (.int q.tk) [])))
theorem stfl_tasks (q : SR) (am tt : Addr) : (stfl q am tt).lookup ("tasks" : Str) = some (.int q.tk) := by
  unfold stfl; rw [lookup_putF, if_neg (by decide +kernel), lookup_putF, if_neg (by decide +kernel), lookup_putF, if_neg (by decide +kernel), lookup_putF, if_pos rfl]
theorem stfl_amounts (q : SR) (am tt : Addr) : (stfl q am tt).lookup ("amounts" : Str) = some (.ref am) := by
  unfold stfl; rw [lookup_putF, if_neg (by decide +kernel), lookup_putF, if_neg (by decide +kernel), lookup_putF, if_pos rfl]
theorem stfl_hours (q : SR) (am tt : Addr) : (stfl q am tt).lookup ("hours" : Str) = some (.int q.hr) := by
  unfold stfl; rw [lookup_putF, if_neg (by decide +kernel), lookup_putF, if_pos rfl]
theorem stfl_total (q : SR) (am tt : Addr) : (stfl q am tt).lookup ("total" : Str) = some (.ref tt) := by
  unfold stfl; rw [lookup_putF, if_pos rfl]
theorem stfl_parts (q : SR) (am tt : Addr) : (stfl q am tt).lookup ("parts" : Str) = none := by
  unfold stfl; rw [lookup_putF, if_neg (by decide +kernel), lookup_putF, if_neg (by decide +kernel), lookup_putF, if_neg (by decide +kernel), lookup_putF, if_neg (by decide +kernel)]; rfl
def spSgI (A : Adr) : Sp := fun vs H Q _ => ∃ (p dx : Addr) (q : SR) (k : Nat), vs = [.ref p, .int q.tk, .ref q.na, .int q.hr] ∧ H p = some (.ins A.c_Stage dx []) ∧ H q.na = some (.tup (q.xs.map V.int)) ∧ SOk k q ∧ 1 ≤ k ∧ k ≤ 3 ∧
  ∀ am tt H', SameBut p H H' → AmtAt A H' am q.xs → AmtAt A H' tt (q.xs.map (· * q.tk)) → H' p = some (.ins A.c_Stage dx (stfl q am tt)) → Q .non H'
theorem putF_lt {k : Str} {v : V} {n : Nat} {l : List (Str × V)} (h : l.length < n) : (putF k v l).length < n + 1 := Nat.lt_of_le_of_lt (length_putF k v l) (Nat.succ_lt_succ h)
theorem amt_fld {A : Adr} {H : Hp} {x p c d : Addr} {xs : List Int} {k : Str} {v : V} {l : List (Str × V)} {o : HO} (e : H p = some (.ins c d (putF k v l))) (n : k ≠ "numbers") (h : AmtAt A H x xs) : AmtAt A (upd H p o) x xs := by
  obtain ⟨dx, t, a, b⟩ := h
  refine ⟨dx, t, ?_, ?_⟩
  · rw [upd_df a (show x ≠ p from fun z => by
      rw [z, e] at a
      injection a with a
      injection a with _ _ a
      have h1 : (putF k v l).lookup k = some v := by rw [lookup_putF, if_pos rfl]
      rw [a] at h1
      unfold afl at h1
      rw [lookup_putF, if_neg n] at h1
      cases h1)]
  · rw [upd_df b (show t ≠ p from fun z => by rw [z, e] at b; cases b)]
def spIdx (A : Adr) : Sp := fun vs H Q _ => ∃ (rt go dx fa pa : Addr) (g : GR), vs = [.ref rt, .str g.nm] ∧ H rt = some (.tup [.ref go]) ∧ H go = some (.ins A.c_Group dx (gfl g fa pa)) ∧ ∀ H', Same H H' → Q (.int 0) H'
def isFoe (r q : TR) : Bool := decide (q.nm ∈ nAft (Str.ofString "never") r.ws) || decide (r.nm ∈ nAft (Str.ofString "never") q.ws)
def foesN (ts : List TR) (r : TR) (n : Nat) : List Int := ((List.range n).filter fun k => (ts[k]?).any (isFoe r)).map fun k => ((k : Nat) : Int)
theorem foesN_len {ts : List TR} {r : TR} {n : Nat} : (foesN ts r n).length ≤ n := by
  unfold foesN
  rw [List.length_map]
  exact Nat.le_trans (List.length_filter_le _ _) (by rw [List.length_range]; exact Nat.le_refl _)
theorem foesN_succ {ts : List TR} {r q : TR} {n : Nat} (h : ts[n]? = some q) : foesN ts r (n + 1) = foesN ts r n ++ (if isFoe r q = true then [((n : Nat) : Int)] else []) := by
  unfold foesN
  rw [List.range_succ, List.filter_append, List.map_append]
  congr 1
  rw [List.filter_cons, h]
  show List.map _ (if isFoe r q = true then [n] else []) = _
  split <;> rfl
def spFoesOf : Sp := fun vs H Q _ => ∃ (a : Addr) (ts : List TR) (i : Nat) (r : TR), vs = [.ref a, .int (i : Int)] ∧ H a = some (.lst (ts.map fun r => V.ref r.a)) ∧ TsAt H ts ∧ ts[i]? = some r ∧ ts.length ≤ 8 ∧ (∀ r ∈ ts, r.ws.length ≤ 6 ∧ ∀ z ∈ r.ws, z.length ≤ 20) ∧
  ∀ p H', Same H H' → H' p = some (.tup ((foesN ts r ts.length).map V.int)) → Q (.ref p) H'
def tpfl (r : TR) (so wn wb wl fo : Addr) : List (Str × V) := putF "apart" (.bl (inV (.str (Str.ofString "apart")) (r.ws.map V.str))) (putF "near" (.bl (inV (.str (Str.ofString "near")) (r.ws.map V.str))) (putF "foes" (.ref fo) (putF "likes" (.ref wl) (putF "bars" (.ref wb) (putF "needs" (.ref wn) (putF "wishes" (.ref r.wa) (putF "stages" (.ref so) (putF "every" (.int r.ev) (putF "rank" (.int r.rk) (putF "group" (.int 0) (putF "name" (.str r.nm) [])))))))))))
theorem tpfl_name (r : TR) (so wn wb wl fo : Addr) : (tpfl r so wn wb wl fo).lookup ("name" : Str) = some (.str r.nm) := by
  unfold tpfl; rw [lookup_putF, if_neg (by decide +kernel), lookup_putF, if_neg (by decide +kernel), lookup_putF, if_neg (by decide +kernel), lookup_putF, if_neg (by decide +kernel), lookup_putF, if_neg (by decide +kernel), lookup_putF, if_neg (by decide +kernel), lookup_putF, if_neg (by decide +kernel), lookup_putF, if_neg (by decide +kernel), lookup_putF, if_neg (by decide +kernel), lookup_putF, if_neg (by decide +kernel), lookup_putF, if_neg (by decide +kernel), lookup_putF, if_pos rfl]
theorem tpfl_group (r : TR) (so wn wb wl fo : Addr) : (tpfl r so wn wb wl fo).lookup ("group" : Str) = some (.int 0) := by
  unfold tpfl; rw [lookup_putF, if_neg (by decide +kernel), lookup_putF, if_neg (by decide +kernel), lookup_putF, if_neg (by decide +kernel), lookup_putF, if_neg (by decide +kernel), lookup_putF, if_neg (by decide +kernel), lookup_putF, if_neg (by decide +kernel), lookup_putF, if_neg (by decide +kernel), lookup_putF, if_neg (by decide +kernel), lookup_putF, if_neg (by decide +kernel), lookup_putF, if_neg (by decide +kernel), lookup_putF, if_pos rfl]
theorem tpfl_rank (r : TR) (so wn wb wl fo : Addr) : (tpfl r so wn wb wl fo).lookup ("rank" : Str) = some (.int r.rk) := by
  unfold tpfl; rw [lookup_putF, if_neg (by decide +kernel), lookup_putF, if_neg (by decide +kernel), lookup_putF, if_neg (by decide +kernel), lookup_putF, if_neg (by decide +kernel), lookup_putF, if_neg (by decide +kernel), lookup_putF, if_neg (by decide +kernel), lookup_putF, if_neg (by decide +kernel), lookup_putF, if_neg (by decide +kernel), lookup_putF, if_neg (by decide +kernel), lookup_putF, if_pos rfl]
theorem tpfl_every (r : TR) (so wn wb wl fo : Addr) : (tpfl r so wn wb wl fo).lookup ("every" : Str) = some (.int r.ev) := by
  unfold tpfl; rw [lookup_putF, if_neg (by decide +kernel), lookup_putF, if_neg (by decide +kernel), lookup_putF, if_neg (by decide +kernel), lookup_putF, if_neg (by decide +kernel), lookup_putF, if_neg (by decide +kernel), lookup_putF, if_neg (by decide +kernel), lookup_putF, if_neg (by decide +kernel), lookup_putF, if_neg (by decide +kernel), lookup_putF, if_pos rfl]
theorem tpfl_stages (r : TR) (so wn wb wl fo : Addr) : (tpfl r so wn wb wl fo).lookup ("stages" : Str) = some (.ref so) := by
  unfold tpfl; rw [lookup_putF, if_neg (by decide +kernel), lookup_putF, if_neg (by decide +kernel), lookup_putF, if_neg (by decide +kernel), lookup_putF, if_neg (by decide +kernel), lookup_putF, if_neg (by decide +kernel), lookup_putF, if_neg (by decide +kernel), lookup_putF, if_neg (by decide +kernel), lookup_putF, if_pos rfl]
theorem tpfl_wishes (r : TR) (so wn wb wl fo : Addr) : (tpfl r so wn wb wl fo).lookup ("wishes" : Str) = some (.ref r.wa) := by
  unfold tpfl; rw [lookup_putF, if_neg (by decide +kernel), lookup_putF, if_neg (by decide +kernel), lookup_putF, if_neg (by decide +kernel), lookup_putF, if_neg (by decide +kernel), lookup_putF, if_neg (by decide +kernel), lookup_putF, if_neg (by decide +kernel), lookup_putF, if_pos rfl]
theorem tpfl_needs (r : TR) (so wn wb wl fo : Addr) : (tpfl r so wn wb wl fo).lookup ("needs" : Str) = some (.ref wn) := by
  unfold tpfl; rw [lookup_putF, if_neg (by decide +kernel), lookup_putF, if_neg (by decide +kernel), lookup_putF, if_neg (by decide +kernel), lookup_putF, if_neg (by decide +kernel), lookup_putF, if_neg (by decide +kernel), lookup_putF, if_pos rfl]
theorem tpfl_bars (r : TR) (so wn wb wl fo : Addr) : (tpfl r so wn wb wl fo).lookup ("bars" : Str) = some (.ref wb) := by
  unfold tpfl; rw [lookup_putF, if_neg (by decide +kernel), lookup_putF, if_neg (by decide +kernel), lookup_putF, if_neg (by decide +kernel), lookup_putF, if_neg (by decide +kernel), lookup_putF, if_pos rfl]
theorem tpfl_likes (r : TR) (so wn wb wl fo : Addr) : (tpfl r so wn wb wl fo).lookup ("likes" : Str) = some (.ref wl) := by
  unfold tpfl; rw [lookup_putF, if_neg (by decide +kernel), lookup_putF, if_neg (by decide +kernel), lookup_putF, if_neg (by decide +kernel), lookup_putF, if_pos rfl]
theorem tpfl_foes (r : TR) (so wn wb wl fo : Addr) : (tpfl r so wn wb wl fo).lookup ("foes" : Str) = some (.ref fo) := by
  unfold tpfl; rw [lookup_putF, if_neg (by decide +kernel), lookup_putF, if_neg (by decide +kernel), lookup_putF, if_pos rfl]
theorem tpfl_near (r : TR) (so wn wb wl fo : Addr) : (tpfl r so wn wb wl fo).lookup ("near" : Str) = some (.bl (inV (.str (Str.ofString "near")) (r.ws.map V.str))) := by
  unfold tpfl; rw [lookup_putF, if_neg (by decide +kernel), lookup_putF, if_pos rfl]
theorem tpfl_apart (r : TR) (so wn wb wl fo : Addr) : (tpfl r so wn wb wl fo).lookup ("apart" : Str) = some (.bl (inV (.str (Str.ofString "apart")) (r.ws.map V.str))) := by
  unfold tpfl; rw [lookup_putF, if_pos rfl]
theorem tpfl_parts (r : TR) (so wn wb wl fo : Addr) : (tpfl r so wn wb wl fo).lookup ("parts" : Str) = none := by
  unfold tpfl; rw [lookup_putF, if_neg (by decide +kernel), lookup_putF, if_neg (by decide +kernel), lookup_putF, if_neg (by decide +kernel), lookup_putF, if_neg (by decide +kernel), lookup_putF, if_neg (by decide +kernel), lookup_putF, if_neg (by decide +kernel), lookup_putF, if_neg (by decide +kernel), lookup_putF, if_neg (by decide +kernel), lookup_putF, if_neg (by decide +kernel), lookup_putF, if_neg (by decide +kernel), lookup_putF, if_neg (by decide +kernel), lookup_putF, if_neg (by decide +kernel)]; rfl
structure StOb (A : Adr) (H : Hp) (x : Addr) (q : SR) : Prop where
  ex : ∃ dx am tt, H x = some (.ins A.c_Stage dx (stfl q am tt)) ∧ AmtAt A H am q.xs ∧ AmtAt A H tt (q.xs.map (· * q.tk))
theorem StOb.mono {A : Adr} {H H' : Hp} {x : Addr} {q : SR} (h : StOb A H x q) (s : Same H H') : StOb A H' x q := let ⟨dx, am, tt, a, b, c⟩ := h.ex; ⟨dx, am, tt, s _ _ a, b.mono s, c.mono s⟩
theorem amt_sb {A : Adr} {H H' : Hp} {x p c d : Addr} {xs : List Int} {k : Str} {v : V} {l : List (Str × V)} (s : SameBut p H H') (e : H p = some (.ins c d (putF k v l))) (n : k ≠ "numbers") (h : AmtAt A H x xs) : AmtAt A H' x xs := by
  obtain ⟨dx, t, a, b⟩ := h
  refine ⟨dx, t, s _ _ (fun z => ?_) a, s _ _ (fun z => by rw [z, e] at b; cases b) b⟩
  rw [z, e] at a
  injection a with a
  injection a with _ _ a
  have h1 : (putF k v l).lookup k = some v := by rw [lookup_putF, if_pos rfl]
  rw [a] at h1
  unfold afl at h1
  rw [lookup_putF, if_neg n] at h1
  cases h1
theorem StOb.sb {A : Adr} {H H' : Hp} {x p c d : Addr} {q : SR} {k : Str} {v : V} {l : List (Str × V)} (h : StOb A H x q) (s : SameBut p H H') (e : H p = some (.ins c d (putF k v l))) (n : k ≠ "numbers") (hx : x ≠ p) : StOb A H' x q :=
  let ⟨dx, am, tt, a, b, c⟩ := h.ex; ⟨dx, am, tt, s _ _ hx a, amt_sb s e n b, amt_sb s e n c⟩
theorem same_mk {H H' : Hp} {x dx : Addr} {o1 o2 : HO} (hx : H x = none) (hd : H dx = none) (s : SameBut x (upd (upd H dx o1) x o2) H') : Same H H' := fun a o e => by
  have ax : a ≠ x := fun z => by rw [z, hx] at e; cases e
  have ad : a ≠ dx := fun z => by rw [z, hd] at e; cases e
  exact s a o ax (by rw [upd_ne ax, upd_ne ad]; exact e)
theorem sb_tups {H H' : Hp} {p c d : Addr} {fs : List (Str × V)} (s : SameBut p H H') (e : H p = some (.ins c d fs)) : Tups H H' := fun a xs h => s _ _ (fun z => by rw [z, e] at h; cases h) h
theorem tabs_but {T : List (Addr × Str)} {H H' : Hp} {p c d : Addr} {fs : List (Str × V)} (s : SameBut p H H') (e : H p = some (.ins c d fs)) (h : LamX.Tabs T H) : LamX.Tabs T H' := fun q hq => by
  obtain ⟨ps, h1, h2, h3⟩ := h q hq
  refine ⟨ps, s _ _ (fun z => by rw [z, e] at h1; cases h1) h1, h2, fun pos cv hc => ?_⟩
  obtain ⟨c, e1, e2⟩ := h3 pos cv hc
  exact ⟨c, e1, s _ _ (fun z => by rw [z, e] at e2; cases e2) e2⟩
theorem lk0 {k : Str} {v : V} {l : List (Str × V)} : (putF k v l).lookup k = some v := by rw [lookup_putF, if_pos rfl]
theorem lk1 {f g : Str} {v u : V} {l : List (Str × V)} (h : l.lookup g = some u) (n : g ≠ f) : (putF f v l).lookup g = some u := by rw [lookup_putF, if_neg n]; exact h
def totsN (w : WA) (i : Nat) : List Int := (List.range w.rs.length).map fun k => ((w.ms.take i).map fun r => r.xs.getD k 0).sum
theorem totsN_all {w : WA} : totsN w w.ms.length = tots w := by unfold totsN tots; rw [List.take_length]
theorem totsN_zero {w : WA} {xs : List Int} (h : xs.length = w.rs.length) : xs.map (· * 0) = totsN w 0 := by
  unfold totsN
  refine List.ext_getElem (by simp [h]) fun i h1 h2 => ?_
  simp
theorem totsN_succ {w : WA} {i : Nat} {r : MR} (h : w.ms[i]? = some r) (hl : r.xs.length = w.rs.length) : List.zipWith (fun a b => a + b) (totsN w i) r.xs = totsN w (i + 1) := by
  unfold totsN
  refine List.ext_getElem (by simp [hl]) fun j h1 h2 => ?_
  have hj : j < r.xs.length := by simp at h1; omega
  simp only [List.getElem_zipWith, List.getElem_map, List.getElem_range]
  rw [List.take_succ, h, List.map_append, List.sum_append]
  simp [List.getElem?_eq_getElem hj]
theorem totsN_len {w : WA} {i : Nat} : (totsN w i).length = w.rs.length := by unfold totsN; rw [List.length_map, List.length_range]
structure KR where
  a : Addr
  na : Addr
  mc : Int
  bg : Int
  en : Int
  us : Int
  xs : List Int
structure KRAt (H : Hp) (r : KR) : Prop where
  e : H r.a = some (.tup [.int r.mc, .int r.bg, .int r.en, .ref r.na, .int r.us])
  n : H r.na = some (.tup (r.xs.map V.int))
theorem KRAt.mono {H H' : Hp} {r : KR} (h : KRAt H r) (s : Tups H H') : KRAt H' r := ⟨s _ _ h.e, s _ _ h.n⟩
def onAt (h : Int) (r : KR) : Bool := decide (r.bg ≤ h) && decide (h < r.en)
def usedK (l : List KR) (h : Int) (k : Nat) : List Int := (l.filter (onAt h)).map fun r => r.xs.getD k 0
def used (l : List KR) (h : Int) (n : Nat) : List Int := (List.range n).map fun k => (usedK l h k).sum
theorem usedK_succ {l : List KR} {h : Int} {k i : Nat} {r : KR} (e : l[i]? = some r) : usedK (l.take (i + 1)) h k = usedK (l.take i) h k ++ (if onAt h r = true then [r.xs.getD k 0] else []) := by
  unfold usedK
  rw [List.take_succ, e, List.filter_append, List.map_append]
  congr 1
  show List.map _ (List.filter _ [r]) = _
  rw [List.filter_cons]
  split <;> rfl
theorem usedK_len {l : List KR} {h : Int} {k i : Nat} : (usedK (l.take i) h k).length ≤ l.length := by
  unfold usedK
  rw [List.length_map]
  refine Nat.le_trans (List.length_filter_le _ _) ?_
  rw [List.length_take]; omega
def spUsed (A : Adr) : Sp := fun vs H Q _ => ∃ (a : Addr) (l : List KR) (h : Int) (n : Nat), vs = [.ref a, .int h, .int (n : Int)] ∧ H a = some (.lst (l.map fun r => V.ref r.a)) ∧ (∀ r ∈ l, KRAt H r) ∧ (∀ r ∈ l, r.xs.length = n) ∧ l.length ≤ 1000 ∧ 1 ≤ n ∧ n ≤ 3 ∧
  ∀ x H', Same H H' → AmtAt A H' x (used l h n) → Q (.ref x) H'
theorem stage_made {A : Adr} {H : Hp} {R : Addr → Hp → Prop} {E : XK} {q : SR} {k : Nat} (hq : SRAt H q) (ho : SOk k q) (h1 : 1 ≤ k) (h3 : k ≤ 3) (f : ∀ x H', H x = none → Same H H' → StOb A H' x q → R x H') : ∀ x dx, H x = none → H dx = none → dx ≠ x →
    spSgI A (.ref x :: [.int q.tk, .ref q.na, .int q.hr]) (upd (upd H dx (.own x)) x (.ins A.c_Stage dx [])) (fun v H2 => v = .non ∧ R x H2) E := by
  intro x dx hx hd hne
  have go : (upd (upd H dx (.own x)) x (.ins A.c_Stage dx [])) q.na = some (.tup (q.xs.map V.int)) := by
    have e := hq.n
    rw [upd_ne (fun z => by rw [z, hx] at e; cases e), upd_ne (fun z => by rw [z, hd] at e; cases e)]; exact e
  exact ⟨x, dx, q, k, rfl, upd_same, go, ho, h1, h3, fun am tt H' sb a b e => ⟨rfl, f x H' hx (same_mk hx hd sb) ⟨dx, am, tt, e, a, b⟩⟩⟩
/-- the objects of a list of stages -/
structure Sts (A : Adr) (H : Hp) (so : List Addr) (st : List SR) : Prop where
  len : so.length = st.length
  ob : ∀ (i : Nat) (x : Addr) (q : SR), so[i]? = some x → st[i]? = some q → StOb A H x q
structure StN (A : Adr) (H : Hp) (so : List Addr) (st : List SR) (n : Nat) : Prop where
  len : so.length = n
  ob : ∀ (i : Nat) (x : Addr) (q : SR), so[i]? = some x → st[i]? = some q → StOb A H x q
theorem amt_put {A : Adr} {H : Hp} {x D : Addr} {xs : List Int} {ys : List V} {o : HO} (h : AmtAt A H x xs) (e : H D = some (.lst ys)) : AmtAt A (upd H D o) x xs :=
  let ⟨dx, t, a, b⟩ := h
  ⟨dx, t, by rw [upd_ne (fun z => by rw [z, e] at a; cases a)]; exact a, by rw [upd_ne (fun z => by rw [z, e] at b; cases b)]; exact b⟩
theorem StOb.put {A : Adr} {H : Hp} {x D : Addr} {q : SR} {ys : List V} {o : HO} (h : StOb A H x q) (e : H D = some (.lst ys)) : StOb A (upd H D o) x q :=
  let ⟨dx, am, tt, a, b, c⟩ := h.ex
  ⟨dx, am, tt, by rw [upd_ne (fun z => by rw [z, e] at a; cases a)]; exact a, amt_put b e, amt_put c e⟩
theorem StN.next {A : Adr} {H H' : Hp} {so : List Addr} {st : List SR} {n : Nat} {x : Addr} {q : SR} (h : StN A H so st n) (f : ∀ x q, StOb A H x q → StOb A H' x q) (hq : st[n]? = some q) (o : StOb A H' x q) : StN A H' (so ++ [x]) st (n + 1) := by
  refine ⟨by rw [List.length_append, h.len]; rfl, fun i y r hy hr => ?_⟩
  by_cases hi : i < so.length
  · rw [List.getElem?_append_left hi] at hy
    exact f _ _ (h.ob i y r hy hr)
  · rw [List.getElem?_append_right (by omega)] at hy
    obtain ⟨hj, e⟩ := List.getElem?_eq_some_iff.mp hy
    have hl := h.len
    simp at hj
    obtain rfl : i = n := by omega
    rw [hq] at hr
    cases hr
    simp at e
    rw [← e]
    exact o
def spTI (A : Adr) : Sp := fun vs H Q _ => ∃ (p dx fo : Addr) (r : TR) (n : Nat) (gn : Str), vs = [.ref p, .ref r.a, .int 0, .ref fo] ∧ H p = some (.ins A.c_Template dx []) ∧ TRAt H r ∧ TOk n gn r ∧ 1 ≤ n ∧ n ≤ 3 ∧
  ∀ so wn wb wl sl H', SameBut p H H' → H' so = some (.tup (sl.map V.ref)) → Sts A H' sl r.st → H' wn = some (.tup ((nAft (Str.ofString "needs") r.ws).map V.str)) → H' wb = some (.tup ((nAft (Str.ofString "bars") r.ws).map V.str)) →
    H' wl = some (.tup ((nAft (Str.ofString "likes") r.ws).map V.str)) → H' p = some (.ins A.c_Template dx (tpfl r so wn wb wl fo)) → Q .non H'
/-- tuples and own objects other than clusters stay -/
def OkO (o : HO) : Prop := (∃ xs, o = .tup xs) ∨ ∃ c d fs, o = .ins c d fs ∧ fs.lookup ("parts" : Str) = none ∧ fs ≠ []
def Fr (H H' : Hp) : Prop := ∀ b o, H b = some o → OkO o → H' b = some o
theorem Fr.refl (H : Hp) : Fr H H := fun _ _ e _ => e
theorem Fr.trans {H H1 H2 : Hp} (a : Fr H H1) (b : Fr H1 H2) : Fr H H2 := fun x o e k => b x o (a x o e k) k
theorem fr_same {H H' : Hp} (s : Same H H') : Fr H H' := fun _ _ e _ => s _ _ e
theorem fr_but {H H' : Hp} {p c d : Addr} {fs : List (Str × V)} (s : SameBut p H H') (e : H p = some (.ins c d fs)) (n : fs = [] ∨ ∃ v, fs.lookup ("parts" : Str) = some v) : Fr H H' := fun x o h k => s _ _ (fun z => by
  rw [z, e] at h
  cases h
  rcases k with ⟨xs, q⟩ | ⟨c, d, fs', q, q1, q2⟩
  · cases q
  · cases q
    rcases n with n | ⟨v, n⟩
    · exact q2 n
    · rw [n] at q1; cases q1) h
theorem fr_lst {H : Hp} {D : Addr} {ys : List V} {o : HO} (e : H D = some (.lst ys)) : Fr H (upd H D o) := fun x o' h k => by
  rw [upd_ne (fun z => by
    rw [z, e] at h
    cases h
    rcases k with ⟨xs, q⟩ | ⟨c, d, fs, q, _⟩ <;> cases q)]
  exact h
theorem okT {xs : List V} : OkO (.tup xs) := .inl ⟨xs, rfl⟩
theorem okI {c d : Addr} {fs : List (Str × V)} {k : Str} {v : V} (h : fs.lookup ("parts" : Str) = none) (h2 : fs.lookup k = some v) : OkO (.ins c d fs) := .inr ⟨c, d, fs, rfl, h, fun z => by rw [z] at h2; cases h2⟩
theorem AmtAt.fr {A : Adr} {H H' : Hp} {x : Addr} {xs : List Int} (h : AmtAt A H x xs) (s : Fr H H') : AmtAt A H' x xs :=
  let ⟨dx, t, a, b⟩ := h; ⟨dx, t, s _ _ a (okI (by unfold afl; rw [lookup_putF, if_neg (by decide +kernel)]; rfl) (afl_numbers t)), s _ _ b okT⟩
theorem StOb.fr {A : Adr} {H H' : Hp} {x : Addr} {q : SR} (h : StOb A H x q) (s : Fr H H') : StOb A H' x q :=
  let ⟨dx, am, tt, a, b, c⟩ := h.ex; ⟨dx, am, tt, s _ _ a (okI (stfl_parts _ _ _) (stfl_tasks _ _ _)), b.fr s, c.fr s⟩
structure MOb (A : Adr) (H : Hp) (x : Addr) (r : MR) : Prop where
  ex : ∃ dx am, H x = some (.ins A.c_Machine dx (mfl r am)) ∧ AmtAt A H am r.xs
theorem MOb.fr {A : Adr} {H H' : Hp} {x : Addr} {r : MR} (h : MOb A H x r) (s : Fr H H') : MOb A H' x r :=
  let ⟨dx, am, a, b⟩ := h.ex; ⟨dx, am, s _ _ a (okI (mfl_parts _ _) (mfl_name _ _)), b.fr s⟩
structure GOb (A : Adr) (H : Hp) (x : Addr) (g : GR) : Prop where
  ex : ∃ dx fa pa, H x = some (.ins A.c_Group dx (gfl g fa pa)) ∧ AmtAt A H fa (List.replicate g.n (0 : Int)) ∧ H pa = some (.tup [.int 0])
theorem GOb.fr {A : Adr} {H H' : Hp} {x : Addr} {g : GR} (h : GOb A H x g) (s : Fr H H') : GOb A H' x g :=
  let ⟨dx, fa, pa, a, b, c⟩ := h.ex; ⟨dx, fa, pa, s _ _ a (okI (gfl_parts _ _ _) (gfl_name _ _ _)), b.fr s, s _ _ c okT⟩
structure TOb (A : Adr) (H : Hp) (x : Addr) (r : TR) (ts : List TR) : Prop where
  ex : ∃ (dx so wn wb wl fo : Addr) (sl : List Addr), H x = some (.ins A.c_Template dx (tpfl r so wn wb wl fo)) ∧ H so = some (.tup (sl.map V.ref)) ∧ Sts A H sl r.st ∧ H wn = some (.tup ((nAft (Str.ofString "needs") r.ws).map V.str)) ∧
    H wb = some (.tup ((nAft (Str.ofString "bars") r.ws).map V.str)) ∧ H wl = some (.tup ((nAft (Str.ofString "likes") r.ws).map V.str)) ∧ H fo = some (.tup ((foesN ts r ts.length).map V.int))
theorem TOb.fr {A : Adr} {H H' : Hp} {x : Addr} {r : TR} {ts : List TR} (h : TOb A H x r ts) (s : Fr H H') : TOb A H' x r ts :=
  let ⟨dx, so, wn, wb, wl, fo, sl, a, b, c, d, e, f, g⟩ := h.ex
  ⟨dx, so, wn, wb, wl, fo, sl, s _ _ a (okI (tpfl_parts _ _ _ _ _ _) (tpfl_name _ _ _ _ _ _)), s _ _ b okT, ⟨c.len, fun i x q hx hq => (c.ob i x q hx hq).fr s⟩, s _ _ d okT, s _ _ e okT, s _ _ f okT, s _ _ g okT⟩
theorem mach_made {A : Adr} {H : Hp} {R : Addr → Hp → Prop} {E : XK} {r : MR} (hr : MRAt H r) (hf : Few r.xs) (f : ∀ x H', H x = none → Same H H' → MOb A H' x r → R x H') : ∀ x dx, H x = none → H dx = none → dx ≠ x →
    spMI A (.ref x :: [.str r.nm, .str r.zn, .ref r.la, .ref r.na]) (upd (upd H dx (.own x)) x (.ins A.c_Machine dx [])) (fun v H2 => v = .non ∧ R x H2) E := by
  intro x dx hx hd hne
  have go : (upd (upd H dx (.own x)) x (.ins A.c_Machine dx [])) r.na = some (.tup (r.xs.map V.int)) := by
    have e := hr.n
    rw [upd_ne (fun z => by rw [z, hx] at e; cases e), upd_ne (fun z => by rw [z, hd] at e; cases e)]; exact e
  exact ⟨x, dx, r, rfl, upd_same, go, hf, fun am H' sb a e => ⟨rfl, f x H' hx (same_mk hx hd sb) ⟨dx, am, e, a⟩⟩⟩
theorem grp_made {A : Adr} {H : Hp} {R : Addr → Hp → Prop} {E : XK} {g : GR} {pa : Addr} {lf : Bool} (hlf : lf = true) (hg : GRAt H g) (hp : H pa = some (.tup [.int 0])) (h1 : 1 ≤ g.n) (h3 : g.n ≤ 3) (f : ∀ x H', H x = none → Same H H' → GOb A H' x g → R x H') : ∀ x dx, H x = none → H dx = none → dx ≠ x →
    spGrI A (.ref x :: ([.ref g.a, .ref pa, .bl lf] ++ [])) (upd (upd H dx (.own x)) x (.ins A.c_Group dx [])) (fun v H2 => v = .non ∧ R x H2) E := by
  subst hlf
  intro x dx hx hd hne
  have go : ∀ {a : Addr} {ys : List V}, H a = some (.tup ys) → (upd (upd H dx (.own x)) x (.ins A.c_Group dx [])) a = some (.tup ys) := fun {a ys} e => by
    rw [upd_ne (fun z => by rw [z, hx] at e; cases e), upd_ne (fun z => by rw [z, hd] at e; cases e)]; exact e
  have sb0 : Same H (upd (upd H dx (.own x)) x (.ins A.c_Group dx [])) := same_mk hx hd SameBut.refl
  exact ⟨x, dx, pa, g, rfl, upd_same, ⟨go hg.e, go hg.f⟩, go hp, h1, h3, fun fa H' sb a e => ⟨rfl, f x H' hx (same_mk hx hd sb) ⟨dx, fa, pa, e, a, same_mk hx hd sb _ _ hp⟩⟩⟩
theorem tpl_made {A : Adr} {H : Hp} {R : Addr → Hp → Prop} {E : XK} {r : TR} {fo : Addr} {n : Nat} {gn : Str} {ts : List TR} (hr : TRAt H r) (ho : TOk n gn r) (h1 : 1 ≤ n) (h3 : n ≤ 3) (hf : H fo = some (.tup ((foesN ts r ts.length).map V.int))) (f : ∀ x H', H x = none → Same H H' → TOb A H' x r ts → R x H') : ∀ x dx, H x = none → H dx = none → dx ≠ x →
    spTI A (.ref x :: ([.ref r.a, .int 0, .ref fo] ++ [])) (upd (upd H dx (.own x)) x (.ins A.c_Template dx [])) (fun v H2 => v = .non ∧ R x H2) E := by
  intro x dx hx hd hne
  have sb0 : Same H (upd (upd H dx (.own x)) x (.ins A.c_Template dx [])) := same_mk hx hd SameBut.refl
  exact ⟨x, dx, fo, r, n, gn, rfl, upd_same, hr.mono (Same.tups sb0), ho, h1, h3, fun so wn wb wl sl H' sb a b c d e g => ⟨rfl, f x H' hx (same_mk hx hd sb) ⟨dx, so, wn, wb, wl, fo, sl, g, a, b, c, d, e, same_mk hx hd sb _ _ hf⟩⟩⟩
/-- the objects of a list of rows -/
structure Obs {α : Type} (P : Hp → Addr → α → Prop) (H : Hp) (os : List Addr) (l : List α) (n : Nat) : Prop where
  len : os.length = n
  ob : ∀ (i : Nat) (x : Addr) (q : α), os[i]? = some x → l[i]? = some q → P H x q
theorem Obs.nil {α : Type} {P : Hp → Addr → α → Prop} {H : Hp} {l : List α} : Obs P H [] l 0 := ⟨rfl, fun i x q h => by cases h⟩
theorem Obs.fr {α : Type} {P : Hp → Addr → α → Prop} {H H' : Hp} {os : List Addr} {l : List α} {n : Nat} (h : Obs P H os l n) (f : ∀ x q, P H x q → P H' x q) : Obs P H' os l n := ⟨h.len, fun i x q hx hq => f _ _ (h.ob i x q hx hq)⟩
theorem Obs.next {α : Type} {P : Hp → Addr → α → Prop} {H H' : Hp} {os : List Addr} {l : List α} {n : Nat} {x : Addr} {q : α} (h : Obs P H os l n) (f : ∀ x q, P H x q → P H' x q) (hq : l[n]? = some q) (o : P H' x q) : Obs P H' (os ++ [x]) l (n + 1) := by
  refine ⟨by rw [List.length_append, h.len]; rfl, fun i y r hy hr => ?_⟩
  by_cases hi : i < os.length
  · rw [List.getElem?_append_left hi] at hy
    exact f _ _ (h.ob i y r hy hr)
  · rw [List.getElem?_append_right (by omega)] at hy
    obtain ⟨hj, e⟩ := List.getElem?_eq_some_iff.mp hy
    have hl := h.len
    simp at hj
    obtain rfl : i = n := by omega
    rw [hq] at hr
    cases hr
    simp at e
    rw [← e]
    exact o
def clfl (pt rt mt gt tt tot : Addr) : List (Str × V) := putF "total" (.ref tot) (putF "templates" (.ref tt) (putF "groups" (.ref gt) (putF "machines" (.ref mt) (putF "resources" (.ref rt) (putF "parts" (.ref pt) [])))))
theorem clfl_parts (pt rt mt gt tt tot : Addr) : (clfl pt rt mt gt tt tot).lookup ("parts" : Str) = some (.ref pt) := by
  unfold clfl; rw [lookup_putF, if_neg (by decide +kernel), lookup_putF, if_neg (by decide +kernel), lookup_putF, if_neg (by decide +kernel), lookup_putF, if_neg (by decide +kernel), lookup_putF, if_neg (by decide +kernel), lookup_putF, if_pos rfl]
theorem clfl_resources (pt rt mt gt tt tot : Addr) : (clfl pt rt mt gt tt tot).lookup ("resources" : Str) = some (.ref rt) := by
  unfold clfl; rw [lookup_putF, if_neg (by decide +kernel), lookup_putF, if_neg (by decide +kernel), lookup_putF, if_neg (by decide +kernel), lookup_putF, if_neg (by decide +kernel), lookup_putF, if_pos rfl]
theorem clfl_machines (pt rt mt gt tt tot : Addr) : (clfl pt rt mt gt tt tot).lookup ("machines" : Str) = some (.ref mt) := by
  unfold clfl; rw [lookup_putF, if_neg (by decide +kernel), lookup_putF, if_neg (by decide +kernel), lookup_putF, if_neg (by decide +kernel), lookup_putF, if_pos rfl]
theorem clfl_groups (pt rt mt gt tt tot : Addr) : (clfl pt rt mt gt tt tot).lookup ("groups" : Str) = some (.ref gt) := by
  unfold clfl; rw [lookup_putF, if_neg (by decide +kernel), lookup_putF, if_neg (by decide +kernel), lookup_putF, if_pos rfl]
theorem clfl_templates (pt rt mt gt tt tot : Addr) : (clfl pt rt mt gt tt tot).lookup ("templates" : Str) = some (.ref tt) := by
  unfold clfl; rw [lookup_putF, if_neg (by decide +kernel), lookup_putF, if_pos rfl]
theorem clfl_total (pt rt mt gt tt tot : Addr) : (clfl pt rt mt gt tt tot).lookup ("total" : Str) = some (.ref tot) := by
  unfold clfl; rw [lookup_putF, if_pos rfl]

def ExtP (p : Addr) (H H' : Hp) : Prop := ∀ b o, H b = some o → b ≠ p → (∀ ps, o ≠ .tbl ps) → H' b = some o
structure CAt (A : Adr) (H : Hp) (c : Addr) (w : WA) : Prop where
  ex : ∃ (dx pt rt mt gt tt tot go r0 m0 g0 t0 : Addr) (mo to : List Addr), H c = some (.ins A.c_Cluster dx (clfl pt rt mt gt tt tot)) ∧ H rt = some (.tup (w.rs.map V.str)) ∧ H mt = some (.tup (mo.map V.ref)) ∧ Obs (MOb A) H mo w.ms w.ms.length ∧
    H gt = some (.tup [.ref go]) ∧ GOb A H go w.g ∧ H tt = some (.tup (to.map V.ref)) ∧ Obs (fun H x r => TOb A H x r w.ts) H to w.ts w.ts.length ∧ AmtAt A H tot (tots w) ∧
    H pt = some (.tup [.ref r0, .ref m0, .ref g0, .ref t0]) ∧ H r0 = some (.tup (w.rs.map V.str)) ∧ H m0 = some (.tup (w.ms.map fun r => V.ref r.a)) ∧ H g0 = some (.tup [.ref w.g.a]) ∧ H t0 = some (.tup (w.ts.map fun r => V.ref r.a))
def spCI (A : Adr) : Sp := fun vs H Q _ => ∃ (p dx : Addr) (w : WA), vs = [.ref p, .ref w.ra, .ref w.ma, .ref w.ga, .ref w.ta] ∧ H p = some (.ins A.c_Cluster dx []) ∧ WAt H w ∧ WOk w ∧ LamX.Tabs [(A.tb_check_rows, GL.lamQ "check_rows")] H ∧
  ∀ H', CAt A H' p w → ExtP p H H' → LamX.Tabs [(A.tb_check_rows, GL.lamQ "check_rows")] H' → Q .non H'
def tkfl (c t : Addr) : List (Str × V) := putF "rows" (.ref t) (putF "cluster" (.ref c) [])
theorem tkfl_cluster (c t : Addr) : (tkfl c t).lookup ("cluster" : Str) = some (.ref c) := by
  unfold tkfl; rw [lookup_putF, if_neg (by decide +kernel), lookup_putF, if_pos rfl]
theorem tkfl_rows (c t : Addr) : (tkfl c t).lookup ("rows" : Str) = some (.ref t) := by
  unfold tkfl; rw [lookup_putF, if_pos rfl]
theorem tkfl_parts (c t : Addr) : (tkfl c t).lookup ("parts" : Str) = none := by
  unfold tkfl; rw [lookup_putF, if_neg (by decide +kernel), lookup_putF, if_neg (by decide +kernel)]; rfl

def spTkI (A : Adr) : Sp := fun vs H Q _ => ∃ (p dx c a : Addr) (ys : List V), vs = [.ref p, .ref c, .ref a] ∧ H p = some (.ins A.c_Takes dx []) ∧ H a = some (.lst ys) ∧ ∀ t H', SameBut p H H' → H' t = some (.tup ys) → H' p = some (.ins A.c_Takes dx (tkfl c t)) → Q .non H'
structure TkAt (A : Adr) (H : Hp) (x c : Addr) (ys : List V) : Prop where
  ex : ∃ dx t, H x = some (.ins A.c_Takes dx (tkfl c t)) ∧ H t = some (.tup ys)
theorem TkAt.fr {A : Adr} {H H' : Hp} {x c : Addr} {ys : List V} (h : TkAt A H x c ys) (s : Fr H H') : TkAt A H' x c ys :=
  let ⟨dx, t, a, b⟩ := h.ex; ⟨dx, t, s _ _ a (okI (tkfl_parts _ _) (tkfl_cluster _ _)), s _ _ b okT⟩
theorem tk_made {A : Adr} {H : Hp} {R : Addr → Hp → Prop} {E : XK} {c a : Addr} {ys : List V} (ha : H a = some (.lst ys)) (f : ∀ x H', H x = none → Same H H' → TkAt A H' x c ys → R x H') : ∀ x dx, H x = none → H dx = none → dx ≠ x →
    spTkI A (.ref x :: ([.ref c, .ref a] ++ [])) (upd (upd H dx (.own x)) x (.ins A.c_Takes dx [])) (fun v H2 => v = .non ∧ R x H2) E := by
  intro x dx hx hd hne
  have sb0 : Same H (upd (upd H dx (.own x)) x (.ins A.c_Takes dx [])) := same_mk hx hd SameBut.refl
  exact ⟨x, dx, c, a, ys, rfl, upd_same, sb0 _ _ ha, fun t H' sb ht e => ⟨rfl, f x H' hx (same_mk hx hd sb) ⟨dx, t, e, ht⟩⟩⟩
def spTkIter (A : Adr) : Sp := fun vs H Q _ => ∃ (a dx c t : Addr) (ys : List V), vs = [.ref a] ∧ H a = some (.ins A.c_Takes dx (tkfl c t)) ∧ H t = some (.tup ys) ∧ ∀ it, H it = none → Q (.ref it) (upd H it (ItT t it 0))
theorem wish_len {z : Str} (h : WishOk z) : z.length ≤ 20 := by
  rcases h.ok with rfl | rfl | ⟨w, n, hw, hn, rfl⟩
  · decide +kernel
  · decide +kernel
  · have h1 := hn.len.2
    have h2 : w.length ≤ 5 := by
      have : ([Str.ofString "needs", Str.ofString "bars", Str.ofString "likes", Str.ofString "never"].all fun z => decide (z.length ≤ 5)) = true := by decide +kernel
      exact of_decide_eq_true (List.all_eq_true.mp this w hw)
    have h3 : (Str.ofString ":").length = 1 := by decide +kernel
    rw [Str.length_append, Str.length_append]
    omega
theorem amt_made2 {A : Adr} {H : Hp} {R : Addr → Hp → Prop} {E : XK} {xs : List Int} (hg : Few xs) (k : ∀ x H', Same H H' → AmtAt A H' x xs → R x H') :
    ∀ x dx, H x = none → H dx = none → dx ≠ x → spStar 1 (spAI A) (V.ref x :: xs.map V.int) (upd (upd H dx (.own x)) x (.ins A.c_Amounts dx [])) (fun v H2 => v = .non ∧ R x H2) E := by
  intro x dx hx hd hne
  obtain ⟨us, ys, e, l, z, f⟩ := amt_made (A := A) (E := E) (Q := fun v H => ∀ y, v = .ref y → R y H) hg (fun x H' s h y ey => by cases ey; exact k x H' s h) x dx hx hd hne
  refine ⟨us, ys, e, l, z, fun p hp => ?_⟩
  obtain ⟨p', t, dx', ys', e', hp', ht', k1, k2⟩ := f p hp
  exact ⟨p', t, dx', ys', e', hp', ht', fun g => ⟨(k1 g).1, (k1 g).2 x rfl⟩, k2⟩
theorem foes_ws {k : Nat} {gn : Str} {r : TR} (h : TOk k gn r) : r.ws.length ≤ 6 ∧ ∀ z ∈ r.ws, z.length ≤ 20 := ⟨h.w6, fun z hz => wish_len (h.ws z hz)⟩
theorem AmtAt.ins {A : Adr} {H : Hp} {x : Addr} {xs : List Int} (h : AmtAt A H x xs) : H x = some (.ins A.c_Amounts h.choose (afl h.choose_spec.choose)) := h.choose_spec.choose_spec.1
theorem AmtAt.num {A : Adr} {H : Hp} {x : Addr} {xs : List Int} (h : AmtAt A H x xs) : H h.choose_spec.choose = some (.tup (xs.map V.int)) := h.choose_spec.choose_spec.2
theorem S_tl (x : Str) : S (tl x) = x := by cases x; simp [tl, S]
theorem col58 : Str.ofString ":" = S [58] := by decide +kernel
theorem part_col {w : Str} (n : Str) (h : 58 ∉ tl w) : Txt.partition (w ++ Str.ofString ":" ++ n) (Str.ofString ":") = (w, Str.ofString ":", n) := by
  have e : w ++ Str.ofString ":" ++ n = S (tl w ++ ([58] ++ tl n)) := by
    rw [← S_tl (w ++ Str.ofString ":" ++ n), tl_append, tl_append, col58]
    simp [tl, S]
  rw [e, col58, partition_some (by simp) (par_head (c := 58) (sep := []) (tl n) h), S_tl, S_tl]
structure WishP (z : Str) : Prop where
  ex : z ∈ [Str.ofString "near", Str.ofString "apart"] ∨ (¬ z ∈ [Str.ofString "near", Str.ofString "apart"] ∧ (Txt.partition z (Str.ofString ":")).1 ∈ [Str.ofString "needs", Str.ofString "bars", Str.ofString "likes", Str.ofString "never"] ∧ Nm (Txt.partition z (Str.ofString ":")).2.2)
theorem wish_p {z : Str} (h : WishOk z) : WishP z := by
  rcases h.ok with rfl | rfl | ⟨w, n, hw, hn, rfl⟩
  · exact ⟨.inl (by decide +kernel)⟩
  · exact ⟨.inl (by decide +kernel)⟩
  · have hf : 58 ∉ tl w := by
      have : ([Str.ofString "needs", Str.ofString "bars", Str.ofString "likes", Str.ofString "never"].all fun z => !(tl z).contains 58) = true := by decide +kernel
      have := List.all_eq_true.mp this w hw
      simpa using this
    refine ⟨.inr ⟨?_, ?_, ?_⟩⟩
    · intro m
      have hc : 58 ∈ tl (w ++ Str.ofString ":" ++ n) := by rw [tl_append, tl_append, col58]; simp [tl, S]
      have : ([Str.ofString "near", Str.ofString "apart"].all fun z => !(tl z).contains 58) = true := by decide +kernel
      have := List.all_eq_true.mp this _ m
      have hc2 : (tl (w ++ Str.ofString ":" ++ n)).contains 58 = true := List.contains_iff_mem.mpr hc
      rw [hc2] at this
      exact absurd this (by decide)
    · rw [part_col n hf]; exact hw
    · rw [part_col n hf]; exact hn
theorem zw_zero : ∀ {zs : List Int} {n : Nat}, (∀ z ∈ zs, z = 0) → ∀ z ∈ List.zipWith (fun i j => i + j) zs (List.replicate n (0 : Int)), z = 0
  | [], _, _, z, m => by rw [List.zipWith_nil_left] at m; cases m
  | _ :: _, 0, _, z, m => by rw [List.replicate_zero, List.zipWith_nil_right] at m; cases m
  | y :: zs, n + 1, h, z, m => by
    rw [List.replicate_succ, List.zipWith_cons_cons] at m
    cases m with
    | head => rw [h y List.mem_cons_self]; rfl
    | tail _ m => exact zw_zero (fun x hx => h x (List.mem_cons_of_mem _ hx)) z m
theorem wi_zero : ∀ {zs xs : List Int}, (∀ z ∈ zs, z = 0) → (∀ x ∈ xs, 0 ≤ x) → wi zs xs = true
  | [], _, _, _ => rfl
  | _ :: _, [], _, _ => rfl
  | z :: zs, x :: xs, h, g => by
    have ih := wi_zero (zs := zs) (xs := xs) (fun y hy => h y (List.mem_cons_of_mem _ hy)) (fun y hy => g y (List.mem_cons_of_mem _ hy))
    have h1 := h z List.mem_cons_self
    have h2 := g x List.mem_cons_self
    unfold wi at *
    rw [List.zipWith_cons_cons, List.all_cons, ih, decide_eq_true (by omega)]
    rfl
theorem get_map {α β : Type} {f : α → β} {l : List α} {i : Nat} {x : β} (h : (l.map f)[i]? = some x) : ∃ z, l[i]? = some z ∧ x = f z := by
  rw [List.getElem?_map] at h
  cases e : l[i]? with
  | none => rw [e] at h; cases h
  | some z => rw [e] at h; cases h; exact ⟨z, rfl, rfl⟩
theorem ix_seqK (K : PySem.W.Frag) {X : Cx} (hK : X.K = K := by rfl) : IxR X (rIx K) := hK ▸ ix_seq
theorem ix_l {K : PySem.W.Frag} {a : Addr} {xs : List V} {i : Int} {v : V} {H : Hp} {Q : VK} (h : SqL K H a xs) (e : atI xs i = some v) (q : Q v H) : rIx K (.ref a) (.int i) H Q := .inl ⟨a, xs, i, v, rfl, rfl, h, e, q⟩
theorem ix_t {K : PySem.W.Frag} {a : Addr} {xs : List V} {i : Int} {v : V} {H : Hp} {Q : VK} (h : SqT K H a xs) (e : atI xs i = some v) (q : Q v H) : rIx K (.ref a) (.int i) H Q := .inr (.inl ⟨a, xs, i, v, rfl, rfl, h, e, q⟩)
theorem tt_get {n i : Nat} (h : i < n) : ((List.replicate n true).map V.bl)[i]? = some (.bl true) := by rw [List.getElem?_map, List.getElem?_replicate, if_pos h]; rfl
theorem len_tt (n : Nat) : ((List.replicate n true).map V.bl).length = n := by rw [List.length_map, List.length_replicate]
theorem small_tt {n i : Nat} (h : n ≤ 1000) : (((List.replicate n true).map V.bl).take i).length < sizeLine := by rw [List.length_take, len_tt, sizeLine_eq]; omega
theorem nAft_step {w : Str} {ws : List Str} {i : Nat} {z : Str} (h : ws[i]? = some z) : nAft w (ws.take (i + 1)) = nAft w (ws.take i) ++ (if Txt.startswith z (w ++ Str.ofString ":") = true then [cutS z (some (((w ++ Str.ofString ":").length : Nat) : Int)) none] else []) := by
  unfold nAft
  rw [List.take_succ, h, List.filter_append, List.map_append]
  congr 1
  show List.map _ (List.filter _ [z]) = _
  by_cases q : Txt.startswith z (w ++ Str.ofString ":") = true
  · rw [if_pos q, List.filter_cons, if_pos q]; rfl
  · rw [if_neg q, List.filter_cons, if_neg q]; rfl
theorem nAft_len {w : Str} {ws : List Str} : (nAft w ws).length ≤ ws.length := by
  unfold nAft
  rw [List.length_map]
  exact List.length_filter_le _ _
theorem nodup_take {l : List Str} {i : Nat} {z : Str} (hd : l.Nodup) (h : l[i]? = some z) : ¬ z ∈ l.take i := fun m => by
  obtain ⟨j, hj, ej⟩ := List.getElem_of_mem m
  rw [List.length_take] at hj
  rw [List.getElem_take] at ej
  obtain ⟨hi, ei⟩ := List.getElem?_eq_some_iff.mp h
  have := (List.getElem_inj (i := j) (j := i) (h₀ := by omega) (h₁ := hi) hd).mp (by rw [ej, ei])
  omega
structure LenL (H : Hp) (D : Addr) (n : Nat) : Prop where
  ex : ∃ ns : List V, H D = some (.lst ns) ∧ ns.length = n
theorem all_tt : ∀ n : Nat, (List.replicate n true).all id = true
  | 0 => rfl
  | n + 1 => by rw [List.replicate_succ, List.all_cons, all_tt n]; rfl
theorem cut_lo {α : Type} {f : α → V} (l : List α) (k : Nat) : cutV (l.map f) none (some (k : Int)) = (l.take k).map f := by
  unfold cutV
  rw [HT.sIx_none, HT.sIx_nat, List.drop_zero, Nat.sub_zero, ← List.map_take]
  by_cases h : k ≤ (l.map f).length
  · rw [Nat.min_eq_left h]
  · rw [Nat.min_eq_right (by omega), List.length_map, List.take_length, List.take_of_length_le (by rw [List.length_map] at h; omega)]

local macro_rules | `(tactic| walk_at "gb pool") => `(tactic| (first | (refine pool_mono (by assumption) ?_; walk_at "gb pool") | fail))
local macro_rules | `(tactic| walk_at "gb pool") => `(tactic| (first | assumption | fail))
local macro_rules | `(tactic| walk_at "gb amt") => `(tactic| (first | (apply amt_but (by assumption) (by walk_at "gb pool"); walk_at "gb amt") | fail))
local macro_rules | `(tactic| walk_at "gb amt") => `(tactic| (first | (apply amt_mono (by assumption); walk_at "gb amt") | fail))
local macro_rules | `(tactic| walk_at "gb amt") => `(tactic| (first | assumption | fail))
local macro_rules | `(tactic| walk_at "gb ext") => `(tactic| ((with_reducible show LamX.ExtN _ _); first | assumption | exact LamX.ExtN.refl _ | ((with_reducible show LamX.ExtN _ (upd _ _ _)); first | (refine ext_nw ?_ (by assumption); walk_at "gb ext")) | (refine LamX.ExtN.trans ?_ (by assumption); walk_at "gb ext") | (refine LamX.ExtN.trans ?_ (ext_same (by assumption)); walk_at "gb ext") | fail))
local macro_rules | `(tactic| walk_at "gb amt") => `(tactic| (first | (apply amt_ext (by assumption); walk_at "gb amt") | fail))
local macro_rules | `(tactic| walk_at "gb amt") => `(tactic| (first | ((with_reducible show AmtAt _ (upd _ _ _) _ _); (apply amt_fld (by walk_at "gb hp") (by decide +kernel)); walk_at "gb amt") | fail))
local macro_rules | `(tactic| walk_at "gb tabs") => `(tactic| ((with_reducible show LamX.Tabs _ _); first | assumption | ((with_reducible show LamX.Tabs _ (upd _ _ _)); (refine tabs_same (same_new (by assumption)) ?_); walk_at "gb tabs") | (refine tabs_same (by assumption) ?_; walk_at "gb tabs") | fail))
local macro_rules | `(tactic| walk_at "gb same") => `(tactic| ((with_reducible show Same _ _); first | assumption | exact Same.refl _ | ((with_reducible show Same _ (upd _ _ _)); first | (refine same_nw ?_ (by assumption); walk_at "gb same") | (refine same_put ?_ (by assumption); walk_at "gb same")) | (refine Same.trans ?_ (by assumption); walk_at "gb same") | fail))
local macro_rules | `(tactic| walk_at "gb but") => `(tactic| ((with_reducible show SameBut _ _ _); first | assumption | exact SameBut.refl | (refine Same.but ?_; (first | assumption | exact Same.refl _ )) | ((with_reducible show SameBut _ _ (upd _ _ _)); first | (refine but_own ?_; walk_at "gb but") | (refine put_but ?_ (by assumption); walk_at "gb but") | (refine but_nw ?_ (by assumption); walk_at "gb but")) | (refine SameBut.trans ?_ (by assumption); walk_at "gb but") | (refine SameBut.trans ?_ (Same.but (by assumption)); walk_at "gb but") | fail))
local macro_rules | `(tactic| walk_at "gb ne") => `(tactic| ((with_reducible show _ ≠ _); first | assumption | exact Ne.symm (by assumption) | exact none_ne (by assumption) (by walk_at "gb hp") | exact Ne.symm (none_ne (by assumption) (by walk_at "gb hp")) | ((refine ne_of (u := ?u2) (by assumption) ?h2 ?d2); (case h2 => walk_at "gb hp"); (case d2 => (intro z; cases z))) | fail))
local macro_rules | `(tactic| walk_at "gb hp") => `(tactic| ((with_reducible show _ = some _); first | assumption | ((with_reducible show upd _ _ _ _ = some _); first | exact upd_same | (refine upd_fr ?_ (by assumption); walk_at "gb hp") | (refine upd_df ?_ (by walk_at "gb ne"); walk_at "gb hp")) | (refine (by assumption : Same _ _) _ _ ?_; walk_at "gb hp") | (refine (by assumption : SameBut _ _ _) _ _ (by walk_at "gb ne") ?_; walk_at "gb hp") | ((with_reducible show _ = some (HO.ins (Adr.c_Amounts _) _ _)); exact AmtAt.ins (by walk_at "gb amt")) | ((with_reducible show _ = some (HO.tup _)); exact AmtAt.num _) | ((refine ext_hp (by assumption) ?h3 ?d3); (case h3 => walk_at "gb hp"); (case d3 => (intro ps z; cases z))) | fail | fail))
local macro_rules | `(tactic| walk_at "gb cls") => `(tactic| (first | exact (by assumption : Txt _ _ _).x_BadAmounts | fail))
local macro_rules | `(tactic| walk_at "gb cls") => `(tactic| (first | ((with_reducible show List.lookup _ _ = _); first | exact afl_numbers _ | exact mfl_name _ _ | exact mfl_zone _ _ | exact mfl_labels _ _ | exact mfl_amounts _ _ | exact gfl_name _ _ _ | exact gfl_parent _ _ _ | exact gfl_weight _ _ _ | exact gfl_floor _ _ _ | exact gfl_limit _ _ _ | exact gfl_path _ _ _ | exact gfl_leaf _ _ _ | exact stfl_tasks _ _ _ | exact stfl_amounts _ _ _ | exact stfl_hours _ _ _ | exact stfl_total _ _ _ | exact tpfl_name _ _ _ _ _ _ | exact tpfl_group _ _ _ _ _ _ | exact tpfl_rank _ _ _ _ _ _ | exact tpfl_every _ _ _ _ _ _ | exact tpfl_stages _ _ _ _ _ _ | exact tpfl_wishes _ _ _ _ _ _ | exact tpfl_needs _ _ _ _ _ _ | exact tpfl_bars _ _ _ _ _ _ | exact tpfl_likes _ _ _ _ _ _ | exact tpfl_foes _ _ _ _ _ _ | exact tpfl_near _ _ _ _ _ _ | exact tpfl_apart _ _ _ _ _ _ | exact clfl_parts _ _ _ _ _ _ | exact clfl_resources _ _ _ _ _ _ | exact clfl_machines _ _ _ _ _ _ | exact clfl_groups _ _ _ _ _ _ | exact clfl_templates _ _ _ _ _ _ | exact clfl_total _ _ _ _ _ _ | exact tkfl_cluster _ _ | exact tkfl_rows _ _ | fail) | fail))
local macro_rules | `(tactic| walk_at "gb cls") => `(tactic| (first | ((with_reducible show NoAttr _ _ _); first | exact (by assumption : Txt _ _ _).no_Amounts_numbers | exact (by assumption : Txt _ _ _).no_Machine_name | exact (by assumption : Txt _ _ _).no_Machine_zone | exact (by assumption : Txt _ _ _).no_Machine_labels | exact (by assumption : Txt _ _ _).no_Machine_amounts | exact (by assumption : Txt _ _ _).no_Group_name | exact (by assumption : Txt _ _ _).no_Group_parent | exact (by assumption : Txt _ _ _).no_Group_weight | exact (by assumption : Txt _ _ _).no_Group_floor | exact (by assumption : Txt _ _ _).no_Group_limit | exact (by assumption : Txt _ _ _).no_Group_path | exact (by assumption : Txt _ _ _).no_Group_leaf | exact (by assumption : Txt _ _ _).no_Stage_tasks | exact (by assumption : Txt _ _ _).no_Stage_amounts | exact (by assumption : Txt _ _ _).no_Stage_hours | exact (by assumption : Txt _ _ _).no_Stage_total | exact (by assumption : Txt _ _ _).no_Template_name | exact (by assumption : Txt _ _ _).no_Template_group | exact (by assumption : Txt _ _ _).no_Template_rank | exact (by assumption : Txt _ _ _).no_Template_every | exact (by assumption : Txt _ _ _).no_Template_stages | exact (by assumption : Txt _ _ _).no_Template_wishes | exact (by assumption : Txt _ _ _).no_Template_needs | exact (by assumption : Txt _ _ _).no_Template_bars | exact (by assumption : Txt _ _ _).no_Template_likes | exact (by assumption : Txt _ _ _).no_Template_foes | exact (by assumption : Txt _ _ _).no_Template_near | exact (by assumption : Txt _ _ _).no_Template_apart | exact (by assumption : Txt _ _ _).no_Cluster_parts | exact (by assumption : Txt _ _ _).no_Cluster_resources | exact (by assumption : Txt _ _ _).no_Cluster_machines | exact (by assumption : Txt _ _ _).no_Cluster_groups | exact (by assumption : Txt _ _ _).no_Cluster_templates | exact (by assumption : Txt _ _ _).no_Cluster_total | exact (by assumption : Txt _ _ _).no_Takes_cluster | exact (by assumption : Txt _ _ _).no_Takes_rows | fail) | fail))
local macro_rules | `(tactic| walk_at "gb cls") => `(tactic| (first | ((with_reducible show Cls _ _); first | exact (by assumption : Txt _ _ _).cl_Amounts | exact (by assumption : Txt _ _ _).cl_Machine | exact (by assumption : Txt _ _ _).cl_Group | exact (by assumption : Txt _ _ _).cl_Stage | exact (by assumption : Txt _ _ _).cl_Template | exact (by assumption : Txt _ _ _).cl_Cluster | exact (by assumption : Txt _ _ _).cl_Takes | fail) | fail))
local macro_rules | `(tactic| walk_at "gb isi") => `(tactic| (first | exact .base (.ins (by walk_at "gb hp") (by assumption : Txt _ _ _).cl_Amounts (by assumption : Txt _ _ _).k1_Amounts (by assumption : Txt _ _ _).kg (by assumption : Txt _ _ _).kt (by assumption : Txt _ _ _).k4_Amounts) | fail))
local macro_rules | `(tactic| walk_at "gb isi") => `(tactic| (first | exact kit_ty (by decide +kernel) | fail))
local macro_rules | `(tactic| walk_at "gb isi") => `(tactic| (first | exact kit_same | fail))
local macro_rules | `(tactic| walk_at "gb isi") => `(tactic| (first | exact .base (.lst (by walk_at "gb hp")) | fail))
local macro_rules | `(tactic| walk_at "gb isi") => `(tactic| (first | exact .base (.tup (by walk_at "gb hp")) | fail))
local macro_rules | `(tactic| walk_at "gb isi") => `(tactic| (first | exact .base (.str _) | fail))
local macro_rules | `(tactic| walk_at "gb isi") => `(tactic| (first | exact .base (.int _) | fail))
local macro_rules | `(tactic| walk_at "gb isi") => `(tactic| (first | exact .ty _ | fail))
local macro_rules | `(tactic| walk_at "gb isi") => `(tactic| (first | exact .own _ | fail))
local macro_rules | `(tactic| walk_at "gb seq") => `(tactic| (first | ((with_reducible show ∃ _, SqL _ _ _ _); exact ⟨_, SqL.of (by walk_at "gb hp")⟩) | fail))
local macro_rules | `(tactic| walk_at "gb seq") => `(tactic| (first | ((with_reducible show ∃ _, SqT _ _ _ _); exact ⟨_, SqT.of (by walk_at "gb hp")⟩) | fail))
local macro_rules | `(tactic| walk_at "gb seq") => `(tactic| (first | ((with_reducible show _ ∨ SqL _ _ _ _); exact Or.inr (SqL.of (by walk_at "gb hp"))) | fail))
local macro_rules | `(tactic| walk_at "gb seq") => `(tactic| (first | ((with_reducible show SqT _ _ _ _ ∨ _); exact Or.inl (SqT.of (by walk_at "gb hp"))) | fail))
local macro_rules | `(tactic| walk_at "gb seq") => `(tactic| (first | ((with_reducible show _ ∨ SqT _ _ _ _); exact Or.inr (SqT.of (by walk_at "gb hp"))) | fail))
local macro_rules | `(tactic| walk_at "gb seq") => `(tactic| (first | ((with_reducible show SqL _ _ _ _ ∨ _); exact Or.inl (SqL.of (by walk_at "gb hp"))) | fail))
local macro_rules | `(tactic| walk_at "gb seq") => `(tactic| (first | ((with_reducible show SqT _ _ _ _); exact SqT.of (by walk_at "gb hp")) | fail))
local macro_rules | `(tactic| walk_at "gb seq") => `(tactic| (first | ((with_reducible show SqL _ _ _ _); exact SqL.of (by walk_at "gb hp")) | fail))
local macro_rules | `(tactic| walk_at "gb dp") => `(tactic| (first | exact flat_int _ | fail))
local macro_rules | `(tactic| walk_at "gb dp") => `(tactic| (first | exact flat_str _ | fail))
local macro_rules | `(tactic| walk_at "gb dp") => `(tactic| (first | exact fun _ h => h | fail))
local macro_rules | `(tactic| walk_at "gb dp") => `(tactic| (first | exact shST (by assumption) | fail))
local macro_rules | `(tactic| walk_at "gb dp") => `(tactic| (first | exact shSL (by assumption) | fail))
local macro_rules | `(tactic| walk_at "gb dp") => `(tactic| (first | exact shT _ | fail))
local macro_rules | `(tactic| walk_at "gb dp") => `(tactic| (first | exact shL _ | fail))
local macro_rules | `(tactic| walk_at "gb dp") => `(tactic| (first | exact .non | fail))
local macro_rules | `(tactic| walk_at "gb dp") => `(tactic| (first | exact .str _ | fail))
local macro_rules | `(tactic| walk_at "gb dp") => `(tactic| (first | exact .int _ | fail))
local macro_rules | `(tactic| walk_at "gb dp") => `(tactic| (first | exact .lst (SqL.of (by walk_at "gb hp")) .nil | fail))
local macro_rules | `(tactic| walk_at "gb dp") => `(tactic| (first | exact .tup (SqT.of (by walk_at "gb hp")) (dpStrs _) | fail))
local macro_rules | `(tactic| walk_at "gb dp") => `(tactic| (first | exact .lst (SqL.of (by walk_at "gb hp")) (dpStrs _) | fail))
local macro_rules | `(tactic| walk_at "gb dp") => `(tactic| (first | exact .tup (SqT.of (by walk_at "gb hp")) (dpInts _) | fail))
local macro_rules | `(tactic| walk_at "gb dp") => `(tactic| (first | exact .lst (SqL.of (by walk_at "gb hp")) (dpInts _) | fail))
local macro_rules | `(tactic| walk_at "gb dp") => `(tactic| (first | exact Or.inl ⟨rfl, _, SqL.of (by walk_at "gb hp")⟩ | fail))
local macro_rules | `(tactic| walk_at "gb obj") => `(tactic| (first | ((with_reducible show TsAt _ _); first | assumption | exact TsAt.mono (by assumption) (Same.tups (by walk_at "gb same")) | exact TsAt.mono (by assumption) (ext_tups (by walk_at "gb ext"))) | fail))
local macro_rules | `(tactic| walk_at "gb obj") => `(tactic| (first | ((with_reducible show MsAt _ _); first | assumption | exact MsAt.mono (by assumption) (Same.tups (by walk_at "gb same")) | exact MsAt.mono (by assumption) (ext_tups (by walk_at "gb ext"))) | fail))
local macro_rules | `(tactic| walk_at "gb obj") => `(tactic| (first | ((with_reducible show TRAt _ _); first | assumption | exact TRAt.mono (by assumption) (Same.tups (by walk_at "gb same")) | exact TRAt.mono (by assumption) (ext_tups (by walk_at "gb ext"))) | fail))
local macro_rules | `(tactic| walk_at "gb obj") => `(tactic| (first | ((with_reducible show SRAt _ _); first | assumption | exact SRAt.mono (by assumption) (Same.tups (by walk_at "gb same")) | exact SRAt.mono (by assumption) (ext_tups (by walk_at "gb ext"))) | fail))
local macro_rules | `(tactic| walk_at "gb obj") => `(tactic| (first | ((with_reducible show GRAt _ _); first | assumption | exact GRAt.mono (by assumption) (Same.tups (by walk_at "gb same")) | exact GRAt.mono (by assumption) (ext_tups (by walk_at "gb ext"))) | fail))
local macro_rules | `(tactic| walk_at "gb obj") => `(tactic| (first | ((with_reducible show MRAt _ _); first | assumption | exact MRAt.mono (by assumption) (Same.tups (by walk_at "gb same")) | exact MRAt.mono (by assumption) (ext_tups (by walk_at "gb ext"))) | fail))
local macro_rules | `(tactic| walk_at "gb obj") => `(tactic| (first | ((with_reducible show AmtAt _ _ _ _); first | exact AmtAt.mono (by assumption) (by walk_at "gb same") | walk_at "gb amt") | fail))
local macro_rules | `(tactic| walk_at "gb obj") => `(tactic| (first | ((with_reducible show PoolAt _ _); first | walk_at "gb pool" | exact PoolAt.mono (by assumption) (by walk_at "gb same")) | fail))
local macro_rules | `(tactic| walk_at "gb obj") => `(tactic| (first | assumption | fail))
local macro_rules | `(tactic| walk_at "gb lf") => `(tactic| (first | fail | fail))
local macro_rules | `(tactic| walk_at "gb lf") => `(tactic| (first | ((with_reducible show _ = some (HO.lst (List.map V.str _)) ∨ _); first | exact Or.inl (by walk_at "gb hp") | exact Or.inr (by walk_at "gb hp")) | fail))
local macro_rules | `(tactic| walk_at "gb lf") => `(tactic| (first | ((with_reducible show SqL _ _ _ _ ∨ SqT _ _ (Adr.tc_NAMING_WISHES _) _); exact Or.inr ((by assumption : Txt _ _ _).sq_NAMING_WISHES _)) | fail))
local macro_rules | `(tactic| walk_at "gb lf") => `(tactic| (first | ((with_reducible show SqL _ _ _ _ ∨ SqT _ _ (Adr.tc_PLAIN_WISHES _) _); exact Or.inr ((by assumption : Txt _ _ _).sq_PLAIN_WISHES _)) | fail))
local macro_rules | `(tactic| walk_at "gb lf") => `(tactic| (first | ((with_reducible show Few _); first | assumption | exact Few.map (by assumption) | exact Few.zip (by assumption) (by first | assumption | omega)) | fail))
local macro_rules | `(tactic| walk_at "gb lf") => `(tactic| (first | ((with_reducible show LamX.ExtN _ _); walk_at "gb ext") | fail))
local macro_rules | `(tactic| walk_at "gb lf") => `(tactic| (first | ((with_reducible show LamX.Tabs _ _); walk_at "gb tabs") | fail))
local macro_rules | `(tactic| walk_at "gb lf") => `(tactic| (first | ((with_reducible show List.lookup _ (putF _ _ _) = _); first | exact lk0 | exact lk1 lk0 (by decide +kernel) | exact lk1 (lk1 lk0 (by decide +kernel)) (by decide +kernel) | exact lk1 (lk1 (lk1 lk0 (by decide +kernel)) (by decide +kernel)) (by decide +kernel) | exact lk1 (lk1 (lk1 (lk1 lk0 (by decide +kernel)) (by decide +kernel)) (by decide +kernel)) (by decide +kernel)) | fail))
local macro_rules | `(tactic| walk_at "gb lf") => `(tactic| (first | exact ⟨by omega, by omega⟩ | fail))
local macro_rules | `(tactic| walk_at "gb lf") => `(tactic| (first | (first | omega | decide +kernel | (simp only [List.length_append, List.length_map, List.length_cons, List.length_nil, List.length_take, List.length_zipWith, List.length_replicate]; omega) | (rw [sizeLine_eq]; (first | omega | (simp only [List.length_append, List.length_map, List.length_cons, List.length_nil, List.length_take, List.length_zipWith, List.length_replicate]; omega))) | (simp only [List.length_append, List.length_map, List.length_cons, List.length_nil, List.length_take, List.length_zipWith, List.length_replicate] at *; omega) | fail) | fail))
local macro_rules | `(tactic| walk_at "gb lf") => `(tactic| (first | walk_at "gb but" | fail))
local macro_rules | `(tactic| walk_at "gb lf") => `(tactic| (first | walk_at "gb same" | fail))
local macro_rules | `(tactic| walk_at "gb lf") => `(tactic| (first | walk_at "gb obj" | fail))
local macro_rules | `(tactic| walk_at "gb lf") => `(tactic| (first | walk_at "gb dp" | fail))
local macro_rules | `(tactic| walk_at "gb lf") => `(tactic| (first | walk_at "gb seq" | fail))
local macro_rules | `(tactic| walk_at "gb lf") => `(tactic| (first | walk_at "gb isi" | fail))
local macro_rules | `(tactic| walk_at "gb lf") => `(tactic| (first | walk_at "gb cls" | fail))
local macro_rules | `(tactic| walk_at "gb lf") => `(tactic| (first | ((with_reducible show _ = _); walk_at "gb hp") | fail))
local macro_rules | `(tactic| walk_at "gb lf") => `(tactic| (first | assumption | fail))
local macro_rules | `(tactic| walk_at "gb lf") => `(tactic| (first | exact rfl | fail))
local macro_rules | `(tactic| walk_at "gb leaf") => `(tactic| (first | ((fail_if_success (with_reducible show IntMulOk _ _)); (fail_if_success (first | (with_reducible show @LE.le _ _ _ _) | (with_reducible show @LT.lt _ _ _ _))); walk_at "gb lf") | fail))
local macro_rules | `(tactic| walk_at "gb leaf") => `(tactic| (first | ((first | (with_reducible show @LE.le _ _ _ _) | (with_reducible show @LT.lt _ _ _ _)); (first | (first | omega | decide +kernel | (simp only [List.length_append, List.length_map, List.length_cons, List.length_nil, List.length_take, List.length_zipWith, List.length_replicate]; omega) | (rw [sizeLine_eq]; (first | omega | (simp only [List.length_append, List.length_map, List.length_cons, List.length_nil, List.length_take, List.length_zipWith, List.length_replicate]; omega))) | (simp only [List.length_append, List.length_map, List.length_cons, List.length_nil, List.length_take, List.length_zipWith, List.length_replicate] at *; omega) | fail) | assumption | ((repeat' refine putF_lt ?_); exact (by decide)) | fail)) | fail))
local macro_rules | `(tactic| walk_at "gb leaf") => `(tactic| (first | ((with_reducible show IntMulOk _ _); first | exact Bits.ok (by assumption) (by assumption) (by first | decide | omega) (by first | decide | omega) (by first | decide | omega) |  exact mulR ⟨by omega, by omega⟩ | exact mulL ⟨by omega, by omega⟩) | fail))
local macro_rules | `(tactic| walk_at "gb num") => `(tactic| (first | (simp only [List.length_append, List.length_map, List.length_cons, List.length_nil, List.length_take, List.length_zipWith, List.length_replicate] at *; omega) | fail))
local macro_rules | `(tactic| walk_at "gb num") => `(tactic| (first | (rw [sizeLine_eq]; (first | omega | (simp only [List.length_append, List.length_map, List.length_cons, List.length_nil, List.length_take, List.length_zipWith, List.length_replicate]; omega))) | fail))
local macro_rules | `(tactic| walk_at "gb num") => `(tactic| (first | (simp only [List.length_append, List.length_map, List.length_cons, List.length_nil, List.length_take, List.length_zipWith, List.length_replicate]; omega) | fail))
local macro_rules | `(tactic| walk_at "gb num") => `(tactic| (first | decide +kernel | fail))
local macro_rules | `(tactic| walk_at "gb num") => `(tactic| (first | omega | fail))
local macro_rules | `(tactic| walk_at "gb exno") => `(tactic| (first | refine Exists.intro (fun _ _ _ => True) ?_ | fail))
local macro_rules | `(tactic| walk_at "gb exno") => `(tactic| (first | refine Exists.intro (fun (_ _ : Nat) (_ : List L2.V) (_ : L2.St) (_ : Hp) => True) ?_ | fail))
local macro_rules | `(tactic| walk_at "gb exno") => `(tactic| (first | refine Exists.intro (fun _ _ _ _ => True) ?_ | fail))
local macro_rules | `(tactic| walk_at "gb exno") => `(tactic| (first | refine Exists.intro (fun (_ : L2.St) (_ : Hp) => True) ?_ | fail))
local macro_rules | `(tactic| walk_at "gb exno") => `(tactic| (first | show ∃ mm : Nat, mm < _ ∧ _ | fail))
local macro_rules | `(tactic| walk_at "gb step") => `(tactic| (first | intro _ | fail))
local macro_rules | `(tactic| walk_at "gb step") => `(tactic| (first | fail | fail))
local macro_rules | `(tactic| walk_at "gb step") => `(tactic| (first | ((show rIx _ _ _ _ _); first | (refine ix_l (by walk_at "gb leaf") (by walk_at "gb leaf") ?_) | (refine ix_t (by walk_at "gb leaf") (by walk_at "gb leaf") ?_)) | fail))
local macro_rules | `(tactic| walk_at "gb step") => `(tactic| (first | ((with_reducible show LamX.Tabs _ _); walk_at "gb tabs") | fail))
local macro_rules | `(tactic| walk_at "gb step") => `(tactic| (first | ((with_reducible show LamX.ExtN _ _); walk_at "gb ext") | fail))
local macro_rules | `(tactic| walk_at "gb step") => `(tactic| (first | (first | ((with_reducible show Same _ _); walk_at "gb same") | ((with_reducible show SameBut _ _ _); walk_at "gb but")) | fail))
local macro_rules | `(tactic| walk_at "gb step") => `(tactic| (first | ((conv => whnf); (with_reducible show ∀ (x dx : Addr), _ = none → _ = none → dx ≠ x → _); first | (refine amt_made (xs := [_]) (by walk_at "gb leaf") ?_ <;> (first | assumption | exact NewA.from (by assumption) (by walk_at "gb same") | skip)) | (refine amt_made (xs := [_, _]) (by walk_at "gb leaf") ?_ <;> (first | assumption | exact NewA.from (by assumption) (by walk_at "gb same") | skip)) | (refine amt_made (xs := [_, _, _]) (by walk_at "gb leaf") ?_ <;> (first | assumption | exact NewA.from (by assumption) (by walk_at "gb same") | skip)) | (refine amt_made  (by walk_at "gb leaf") ?_ <;> (first | assumption | exact NewA.from (by assumption) (by walk_at "gb same") | skip)) | (refine amt_made2 (by walk_at "gb leaf") ?_) | (refine stage_made (by walk_at "gb leaf") (by walk_at "gb leaf") (by walk_at "gb leaf") (by walk_at "gb leaf") ?_) | (refine tk_made (by walk_at "gb leaf") ?_) | (refine mach_made (by walk_at "gb leaf") (by walk_at "gb leaf") ?_) | (refine grp_made (by first | rfl | exact (by assumption : inV _ _ = true)) (by walk_at "gb leaf") (by walk_at "gb leaf") (by walk_at "gb leaf") (by walk_at "gb leaf") ?_) | (refine tpl_made (by walk_at "gb leaf") (by walk_at "gb leaf") (by walk_at "gb leaf") (by walk_at "gb leaf") (by walk_at "gb leaf") ?_)) | fail))
local macro_rules | `(tactic| walk_at "gb step") => `(tactic| (first | ((show _ ∨ _); (first | (refine Or.inl ?_; apply Exists.intro; refine And.intro (by walk_at "gb leaf") ?_) | (refine Or.inr ?_; apply Exists.intro; refine And.intro (by walk_at "gb leaf") ?_) | (refine Or.inl (And.intro (by walk_at "gb leaf") ?_)) | (refine Or.inr (And.intro (by walk_at "gb leaf") ?_)))) | fail))
local macro_rules | `(tactic| walk_at "gb step") => `(tactic| (first | ((show ite _ _ _); (try (first | rw [eqv00] | rw [eqvL, decide_eq_true rfl] | rw [eqvT, decide_eq_true rfl] | rw [eqvL] | rw [eqvT] | rw [eqvSL, decide_eq_true rfl] | rw [eqvST, decide_eq_true rfl] | rw [eqvSL0] | rw [eqvSL] | rw [eqvST] | rw [inV_strs] | rw [inV_kv])); ((first | refine iteT ?_ | refine iteF ?_ | refine iteI (fun _ => ?_) (fun _ => ?_) | refine iteIN (fun _ => ?_) (fun _ => ?_) | refine iteD (fun _ => ?_) (fun _ => ?_) | refine iteDN (fun _ => ?_) (fun _ => ?_) | refine iteB (fun _ => ?_) (fun _ => ?_)) <;> try (exfalso; first | contradiction | omega | fail | (rename_i hcc; revert hcc; simp; done)))) | fail))
local macro_rules | `(tactic| walk_at "gb step") => `(tactic| (first | ((show Exists _); (fail_if_success walk_at "gb exno"); apply Exists.intro) | fail))
local macro_rules | `(tactic| walk_at "gb step") => `(tactic| (first | ((show Exists _); refine ⟨_, fun (_ : L2.St) (_ : Hp) h => h, ?_⟩) | fail))
local macro_rules | `(tactic| walk_at "gb step") => `(tactic| (first | ((show (_ → _) ∧ (_ ≠ _ → _)); refine And.intro (fun _ => ?_) (fun h => absurd (by first | assumption | omega | (simp only [List.length_append, List.length_map, List.length_cons, List.length_nil, List.length_take, List.length_zipWith, List.length_replicate]; omega)) h)) | fail))
local macro_rules | `(tactic| walk_at "gb step") => `(tactic| (first | ((show _ ∧ _); refine And.intro (by walk_at "gb leaf") ?_) | fail))
local macro_rules | `(tactic| walk_at "gb step") => `(tactic| (first | ((with_reducible show RaiseG _ _ _ _ _ _); refine raiseG_in (by first | exact (by assumption : Txt _ _ _).cl_Amounts | exact (by assumption : Txt _ _ _).no_Amounts_numbers | exact (by assumption : Txt _ _ _).x_BadAmounts | exact afl_numbers _ | exact (by assumption : Txt _ _ _).cl_Machine | exact (by assumption : Txt _ _ _).no_Machine_name | exact (by assumption : Txt _ _ _).no_Machine_zone | exact (by assumption : Txt _ _ _).no_Machine_labels | exact (by assumption : Txt _ _ _).no_Machine_amounts | exact (by assumption : Txt _ _ _).cl_Group | exact (by assumption : Txt _ _ _).no_Group_name | exact (by assumption : Txt _ _ _).no_Group_parent | exact (by assumption : Txt _ _ _).no_Group_weight | exact (by assumption : Txt _ _ _).no_Group_floor | exact (by assumption : Txt _ _ _).no_Group_limit | exact (by assumption : Txt _ _ _).no_Group_path | exact (by assumption : Txt _ _ _).no_Group_leaf | exact (by assumption : Txt _ _ _).cl_Stage | exact (by assumption : Txt _ _ _).no_Stage_tasks | exact (by assumption : Txt _ _ _).no_Stage_amounts | exact (by assumption : Txt _ _ _).no_Stage_hours | exact (by assumption : Txt _ _ _).no_Stage_total | exact (by assumption : Txt _ _ _).cl_Template | exact (by assumption : Txt _ _ _).no_Template_name | exact (by assumption : Txt _ _ _).no_Template_group | exact (by assumption : Txt _ _ _).no_Template_rank | exact (by assumption : Txt _ _ _).no_Template_every | exact (by assumption : Txt _ _ _).no_Template_stages | exact (by assumption : Txt _ _ _).no_Template_wishes | exact (by assumption : Txt _ _ _).no_Template_needs | exact (by assumption : Txt _ _ _).no_Template_bars | exact (by assumption : Txt _ _ _).no_Template_likes | exact (by assumption : Txt _ _ _).no_Template_foes | exact (by assumption : Txt _ _ _).no_Template_near | exact (by assumption : Txt _ _ _).no_Template_apart | exact (by assumption : Txt _ _ _).cl_Cluster | exact (by assumption : Txt _ _ _).no_Cluster_parts | exact (by assumption : Txt _ _ _).no_Cluster_resources | exact (by assumption : Txt _ _ _).no_Cluster_machines | exact (by assumption : Txt _ _ _).no_Cluster_groups | exact (by assumption : Txt _ _ _).no_Cluster_templates | exact (by assumption : Txt _ _ _).no_Cluster_total | exact (by assumption : Txt _ _ _).cl_Takes | exact (by assumption : Txt _ _ _).no_Takes_cluster | exact (by assumption : Txt _ _ _).no_Takes_rows | exact mfl_name _ _ | exact mfl_zone _ _ | exact mfl_labels _ _ | exact mfl_amounts _ _ | exact gfl_name _ _ _ | exact gfl_parent _ _ _ | exact gfl_weight _ _ _ | exact gfl_floor _ _ _ | exact gfl_limit _ _ _ | exact gfl_path _ _ _ | exact gfl_leaf _ _ _ | exact stfl_tasks _ _ _ | exact stfl_amounts _ _ _ | exact stfl_hours _ _ _ | exact stfl_total _ _ _ | exact tpfl_name _ _ _ _ _ _ | exact tpfl_group _ _ _ _ _ _ | exact tpfl_rank _ _ _ _ _ _ | exact tpfl_every _ _ _ _ _ _ | exact tpfl_stages _ _ _ _ _ _ | exact tpfl_wishes _ _ _ _ _ _ | exact tpfl_needs _ _ _ _ _ _ | exact tpfl_bars _ _ _ _ _ _ | exact tpfl_likes _ _ _ _ _ _ | exact tpfl_foes _ _ _ _ _ _ | exact tpfl_near _ _ _ _ _ _ | exact tpfl_apart _ _ _ _ _ _ | exact clfl_parts _ _ _ _ _ _ | exact clfl_resources _ _ _ _ _ _ | exact clfl_machines _ _ _ _ _ _ | exact clfl_groups _ _ _ _ _ _ | exact clfl_templates _ _ _ _ _ _ | exact clfl_total _ _ _ _ _ _ | exact tkfl_cluster _ _ | exact tkfl_rows _ _ | fail) ?_) | fail))
local macro_rules | `(tactic| walk_at "gb go") => `(tactic| (repeat' walk_at "gb step"))

abbrev lawLvl : Nat := 17
def onM (m : Int) (r : KR) : Bool := decide (r.mc = m)
def rowsOn (l : List KR) (m : Int) : List KR := l.filter (onM m)
def freeL (xs : List Int) (l : List KR) (m h : Int) : List Int := List.zipWith (fun i j => i - j) xs (used (rowsOn l m) h xs.length)
structure RowsAt (H : Hp) (l : List KR) : Prop where
  all : ∀ r ∈ l, KRAt H r
theorem RowsAt.mono {H H' : Hp} {l : List KR} (h : RowsAt H l) (s : Tups H H') : RowsAt H' l := ⟨fun r hr => (h.all r hr).mono s⟩
structure RowsOk (n : Nat) (l : List KR) : Prop where
  len : ∀ r ∈ l, r.xs.length = n
  l2 : l.length ≤ 200
  st : ∃ ps : List Int, ps.length ≤ 11 ∧ ∀ r ∈ l, r.bg ∈ ps
/-- the triples that a list of references tells -/
structure Trs (H : Hp) (F : Addr) (P : T3 → Prop) (b : Nat) : Prop where
  ex : ∃ L : List (Addr × T3), H F = some (.lst (L.map fun p => V.ref p.1)) ∧ (∀ p ∈ L, H p.1 = some (.tup (p.2.l.map V.int))) ∧ L.length ≤ b ∧ ∀ u, (∃ p ∈ L, p.2 = u) ↔ P u
theorem Trs.nil {H : Hp} {F : Addr} {P : T3 → Prop} (e : H F = some (.lst [])) (n : ∀ u, ¬ P u) : Trs H F P 0 := ⟨[], e, (fun p h => by cases h), Nat.le_refl _, fun u => ⟨(fun ⟨p, h, _⟩ => by cases h), fun h => absurd h (n u)⟩⟩
theorem Trs.mono {H H' : Hp} {F : Addr} {P : T3 → Prop} {b : Nat} (h : Trs H F P b) (s : Same H H') : Trs H' F P b :=
  let ⟨L, e, t, l, p⟩ := h.ex; ⟨L, s _ _ e, fun q hq => s _ _ (t q hq), l, p⟩
theorem Trs.put {H : Hp} {F G : Addr} {P : T3 → Prop} {b : Nat} {ys zs : List V} (h : Trs H F P b) (n : F ≠ G) (e : H G = some (.lst ys)) : Trs (upd H G (.lst zs)) F P b :=
  let ⟨L, e1, t, l, p⟩ := h.ex; ⟨L, by rw [upd_ne n]; exact e1, fun q hq => by rw [upd_ne (fun z => by have := t q hq; rw [z, e] at this; cases this)]; exact t q hq, l, p⟩
theorem Trs.snoc {H : Hp} {F T : Addr} {L : List (Addr × T3)} {u : T3} {P : T3 → Prop} {b : Nat} (e : H F = some (.lst (L.map fun p => V.ref p.1))) (t : ∀ p ∈ L, H p.1 = some (.tup (p.2.l.map V.int))) (l : L.length ≤ b) (p : ∀ u, (∃ p ∈ L, p.2 = u) ↔ P u) (hT : H T = some (.tup (u.l.map V.int))) :
    Trs (upd H F (.lst (L.map (fun p => V.ref p.1) ++ [.ref T]))) F (fun v => P v ∨ v = u) (b + 1) := by
  refine ⟨L ++ [(T, u)], by rw [upd_same, List.map_append]; rfl, fun q hq => ?_, by rw [List.length_append]; exact Nat.succ_le_succ l, fun v => ?_⟩
  · have hq2 : H q.1 = some (.tup (q.2.l.map V.int)) := by
      rcases List.mem_append.mp hq with m | m
      · exact t q m
      · rw [List.mem_singleton.mp m]; exact hT
    rw [upd_ne (fun z => by rw [z, e] at hq2; cases hq2)]
    exact hq2
  · constructor
    · rintro ⟨q, hq, rfl⟩
      rcases List.mem_append.mp hq with m | m
      · exact .inl ((p q.2).mp ⟨q, m, rfl⟩)
      · rw [List.mem_singleton.mp m]; exact .inr rfl
    · rintro (h | rfl)
      · obtain ⟨q, hq, z⟩ := (p v).mpr h
        exact ⟨q, List.mem_append_left _ hq, z⟩
      · exact ⟨(T, v), List.mem_append_right _ (List.mem_singleton.mpr rfl), rfl⟩
theorem Trs.join {H : Hp} {F : Addr} {L M : List (Addr × T3)} {P Q : T3 → Prop} {b c : Nat} (e : H F = some (.lst (L.map fun p => V.ref p.1))) (t : ∀ p ∈ L, H p.1 = some (.tup (p.2.l.map V.int))) (l : L.length ≤ b) (p : ∀ u, (∃ p ∈ L, p.2 = u) ↔ P u)
    (t2 : ∀ p ∈ M, H p.1 = some (.tup (p.2.l.map V.int))) (l2 : M.length ≤ c) (p2 : ∀ u, (∃ p ∈ M, p.2 = u) ↔ Q u) : Trs (upd H F (.lst (L.map (fun p => V.ref p.1) ++ M.map fun p => V.ref p.1))) F (fun v => P v ∨ Q v) (b + c) := by
  refine ⟨L ++ M, by rw [upd_same, List.map_append], fun q hq => ?_, by rw [List.length_append]; omega, fun v => ?_⟩
  · have hq2 : H q.1 = some (.tup (q.2.l.map V.int)) := (List.mem_append.mp hq).elim (t q) (t2 q)
    rw [upd_ne (fun z => by rw [z, e] at hq2; cases hq2)]
    exact hq2
  · constructor
    · rintro ⟨q, hq, rfl⟩
      exact (List.mem_append.mp hq).elim (fun m => .inl ((p q.2).mp ⟨q, m, rfl⟩)) fun m => .inr ((p2 q.2).mp ⟨q, m, rfl⟩)
    · rintro (h | h)
      · obtain ⟨q, hq, z⟩ := (p v).mpr h
        exact ⟨q, List.mem_append_left _ hq, z⟩
      · obtain ⟨q, hq, z⟩ := (p2 v).mpr h
        exact ⟨q, List.mem_append_right _ hq, z⟩
theorem rowsOn_succ {l : List KR} {m : Int} {i : Nat} {r : KR} (e : l[i]? = some r) : rowsOn (l.take (i + 1)) m = rowsOn (l.take i) m ++ (if onM m r = true then [r] else []) := by
  unfold rowsOn
  rw [List.take_succ, e, List.filter_append]
  congr 1
  show List.filter _ [r] = _
  rw [List.filter_cons]
  split <;> rfl
theorem rowsOn_mem {l : List KR} {m : Int} {r : KR} : r ∈ rowsOn l m ↔ r ∈ l ∧ r.mc = m := by
  unfold rowsOn onM
  rw [List.mem_filter, decide_eq_true_iff]
theorem nd_le : ∀ {l ps : List Int}, l.Nodup → (∀ x ∈ l, x ∈ ps) → l.length ≤ ps.length
  | [], _, _, _ => Nat.zero_le _
  | x :: l, ps, nd, h => by
    have hx := h x List.mem_cons_self
    have nd := List.nodup_cons.mp nd
    have := nd_le (l := l) (ps := ps.erase x) nd.2 (fun y hy => (List.mem_erase_of_ne (fun z => nd.1 (by rw [← z]; exact hy))).mpr (h y (List.mem_cons_of_mem _ hy)))
    rw [List.length_erase_of_mem hx] at this
    have h0 := List.length_pos_of_mem hx
    rw [List.length_cons]; omega
/-- S tells the numbers of xs, n of them -/
structure SOkL (S : Int → Bool) (n : Nat) (xs : List Int) : Prop where
  mem : ∀ j, S j = true ↔ j ∈ xs
  ex : ∃ ns : List Int, ns.Nodup ∧ ns.length = n ∧ ∀ j, j ∈ ns ↔ j ∈ xs
theorem SOkL.nil : SOkL (fun _ => false) 0 [] := ⟨fun j => by simp, [], List.nodup_nil, rfl, fun j => Iff.rfl⟩
theorem SOkL.step {S : Int → Bool} {n : Nat} {xs : List Int} {c : Int} (h : SOkL S n xs) : SOkL (fun j => S j || decide (j = c)) (if S c = true then n else n + 1) (xs ++ [c]) := by
  obtain ⟨ns, nd, hl, hm⟩ := h.ex
  refine ⟨fun j => ?_, ?_⟩
  · rw [Bool.or_eq_true, decide_eq_true_iff, h.mem j, List.mem_append, List.mem_singleton]
  · by_cases hc : S c = true
    · rw [if_pos hc]
      refine ⟨ns, nd, hl, fun j => ?_⟩
      rw [hm j, List.mem_append, List.mem_singleton]
      exact ⟨.inl, fun z => z.elim id fun z => z ▸ (h.mem c).mp hc⟩
    · rw [if_neg hc]
      have hn : c ∉ ns := fun z => hc ((h.mem c).mpr ((hm c).mp z))
      refine ⟨ns ++ [c], ?_, by rw [List.length_append, hl]; rfl, fun j => ?_⟩
      · exact List.nodup_append.mpr ⟨nd, List.nodup_cons.mpr ⟨by simp, List.nodup_nil⟩, fun a ha b hb => by rw [List.mem_singleton.mp hb]; exact fun z => hn (z ▸ ha)⟩
      · rw [List.mem_append, List.mem_append, hm j]
theorem SOkL.le {S : Int → Bool} {n : Nat} {xs ps : List Int} (h : SOkL S n xs) (hp : ∀ x ∈ xs, x ∈ ps) : n ≤ ps.length := by
  obtain ⟨ns, nd, hl, hm⟩ := h.ex
  rw [← hl]
  exact nd_le nd fun x hx => hp x ((hm x).mp hx)
theorem but_fresh {H H8 H9 : Hp} {F : Addr} (hF : H F = none) (s : Same H H8) (b : SameBut F H8 H9) : Same H H9 := fun a o e => b a o (fun z => by rw [z, hF] at e; cases e) (s a o e)
theorem free_len {xs : List Int} {l : List KR} {m h : Int} : (freeL xs l m h).length = xs.length := by
  unfold freeL used
  rw [List.length_zipWith, List.length_map, List.length_range, Nat.min_self]
/-- the pool of draws -/
structure P3 (H : Hp) (p : Addr) : Prop where
  ex : ∃ a b c : Int, H p = some (.lst [.int a, .int b, .int c]) ∧ 0 ≤ a ∧ 0 ≤ b ∧ b ≤ 1100 ∧ 0 ≤ c ∧ c ≤ 1100
theorem P3.mono {H H' : Hp} {p : Addr} (h : P3 H p) (s : Same H H') : P3 H' p := let ⟨a, b, c, e, r⟩ := h.ex; ⟨a, b, c, s _ _ e, r⟩
theorem p3_mono {H H' : Hp} {p : Addr} (s : Same H H') (h : P3 H p) : P3 H' p := h.mono s
theorem P3.ne {H : Hp} {p x : Addr} {xs : List V} (h : P3 H p) (e : H x = some (.tup xs)) : x ≠ p := fun z => by
  obtain ⟨a, b, c, q, _⟩ := h.ex
  rw [z, q] at e; cases e
theorem P3.nn {H : Hp} {p x : Addr} (h : P3 H p) (e : H x = none) : x ≠ p := fun z => by
  obtain ⟨a, b, c, q, _⟩ := h.ex
  rw [z, q] at e; cases e
theorem P3.put {H : Hp} {p D : Addr} {o : HO} (h : P3 H p) (n : D ≠ p) : P3 (upd H D o) p := let ⟨a, b, c, e, r⟩ := h.ex; ⟨a, b, c, by rw [upd_ne n.symm]; exact e, r⟩
theorem p3_tups {H H' : Hp} {p : Addr} (s : SameBut p H H') (h : P3 H p) : Tups H H' := fun a xs e => s _ _ (h.ne e) e
theorem p3_tup {H H' : Hp} {p t : Addr} {xs : List V} (s : SameBut p H H') (h : P3 H p) (e : H t = some (.tup xs)) : H' t = some (.tup xs) := s _ _ (h.ne e) e
def spSeed (K : PySem.W.Frag) : Sp := fun vs H Q _ => ∃ (a : Addr) (ns : List Int), vs = [.ref a] ∧ SqL K H a (ns.map V.int) ∧ ns.length ≤ 63 ∧ (∀ z ∈ ns, Builtin.Int.intBits z ≤ 1048576) ∧ ∀ p H', Same H H' → P3 H' p → H p = none → Q (.ref p) H'
def spDraw : Sp := fun vs H Q _ => ∃ (p : Addr) (m : Int), vs = [.ref p, .int m] ∧ P3 H p ∧ 1 ≤ m ∧ m ≤ 1000000 ∧ ∀ (r : Int) H', 0 ≤ r → r < m → P3 H' p → SameBut p H H' → Q (.int r) H'
def spNamed : Sp := fun vs H Q _ => ∃ (p : Addr), vs = [.ref p] ∧ P3 H p ∧ ∀ l (ns : List Str) H', H l = none → H' l = some (.lst (ns.map V.str)) → ns.length = 8 → ns.Nodup → (∀ z ∈ ns, Nm z) → P3 H' p → SameBut p H H' → Q (.ref l) H'
def spFew : Sp := fun vs H Q _ => ∃ (p : Addr) (k top sc : Int), vs = [.ref p, .int k, .int top, .int sc] ∧ P3 H p ∧ 1 ≤ k ∧ k ≤ 3 ∧ 1 ≤ top ∧ top ≤ 10 ∧ 1 ≤ sc ∧ sc ≤ 1000 ∧ ∀ t (xs : List Int) H', H' t = some (.tup (xs.map V.int)) → NumOk k.toNat xs → (∃ x ∈ xs, 0 < x) → P3 H' p → SameBut p H H' → Q (.ref t) H'
/-- a wish of the law -/
structure LWish (ns : List Str) (c : Nat) (z : Str) : Prop where
  ok : z = Str.ofString "near" ∨ z = Str.ofString "apart" ∨ (∃ w n : Str, w ∈ [Str.ofString "needs", Str.ofString "bars", Str.ofString "likes"] ∧ n ∈ ns ∧ z = w ++ Str.ofString ":" ++ n) ∨ ∃ n, n ∈ ns.take c ∧ z = Str.ofString "never" ++ Str.ofString ":" ++ n
def spAsks : Sp := fun vs H Q _ => ∃ (p l : Addr) (ns : List Str) (c m : Int), vs = [.ref p, .ref l, .int c, .int m] ∧ P3 H p ∧ l ≠ p ∧ H l = some (.lst (ns.map V.str)) ∧ ns.length = 8 ∧ (∀ z ∈ ns, Nm z) ∧ 1 ≤ c ∧ c ≤ m ∧ 1 ≤ m ∧ m ≤ 6 ∧
  ∀ t (ws : List Str) H', H' t = some (.tup (ws.map V.str)) → ws.length ≤ 6 → ws.Nodup → (∀ z ∈ ws, LWish ns c.toNat z) → P3 H' p → SameBut p H H' → Q (.ref t) H'
def spPhase : Sp := fun vs H Q _ => ∃ (p : Addr) (k sc m : Int), vs = [.ref p, .int k, .int sc, .int m] ∧ P3 H p ∧ 1 ≤ k ∧ k ≤ 3 ∧ 1 ≤ sc ∧ sc ≤ 1000 ∧ 1 ≤ m ∧ m ≤ 6 ∧ ∀ (q : SR) H', SRAt H' q → SOk k.toNat q → P3 H' p → SameBut p H H' → Q (.ref q.a) H'
def spMach : Sp := fun vs H Q _ => ∃ (p l : Addr) (ns : List Str) (k sc m : Int), vs = [.ref p, .ref l, .int k, .int sc, .int m] ∧ P3 H p ∧ l ≠ p ∧ H l = some (.lst (ns.map V.str)) ∧ ns.length = 8 ∧ ns.Nodup ∧ (∀ z ∈ ns, Nm z) ∧ 1 ≤ k ∧ k ≤ 3 ∧ 1 ≤ sc ∧ sc ≤ 1000 ∧ 1 ≤ m ∧ m ≤ 6 ∧
  ∀ t (r : MR) H', H' t = some (.tup [.str r.zn, .ref r.la, .ref r.na]) → H' r.la = some (.tup (r.lb.map V.str)) → H' r.na = some (.tup (r.xs.map V.int)) → Nm r.zn → r.lb.length ≤ 6 → r.lb.Nodup → (∀ z ∈ r.lb, Nm z) → NumOk k.toNat r.xs → (∃ x ∈ r.xs, 0 < x) → P3 H' p → SameBut p H H' → Q (.ref t) H'
def spForm : Sp := fun vs H Q _ => ∃ (p l : Addr) (ns : List Str) (c k sc m : Int), vs = [.ref p, .ref l, .int c, .int k, .int sc, .int m] ∧ P3 H p ∧ l ≠ p ∧ H l = some (.lst (ns.map V.str)) ∧ ns.length = 8 ∧ (∀ z ∈ ns, Nm z) ∧ 1 ≤ c ∧ c ≤ m ∧ 1 ≤ k ∧ k ≤ 3 ∧ 1 ≤ sc ∧ sc ≤ 1000 ∧ 1 ≤ m ∧ m ≤ 6 ∧
  ∀ t (r : TR) H', H' t = some (.tup [.str r.gp, .int r.rk, .int r.ev, .ref r.sa, .ref r.wa]) → H' r.sa = some (.tup (r.st.map fun q => V.ref q.a)) → (∀ q ∈ r.st, SRAt H' q) → H' r.wa = some (.tup (r.ws.map V.str)) → ns[0]? = some r.gp → 0 ≤ r.rk → r.rk ≤ 99 → 0 ≤ r.ev → r.ev ≤ 24 →
    1 ≤ r.st.length → r.st.length ≤ 3 → (∀ q ∈ r.st, SOk k.toNat q) → r.ws.length ≤ 6 → r.ws.Nodup → (∀ z ∈ r.ws, LWish ns c.toNat z) → P3 H' p → SameBut p H H' → Q (.ref t) H'
local macro_rules | `(tactic| walk_at "gb pool") => `(tactic| (first | ((with_reducible show P3 _ _); first | assumption | (refine p3_mono (by assumption) ?_; walk_at "gb pool") | fail) | fail))
local macro_rules | `(tactic| walk_at "gb leaf") => `(tactic| (first | ((with_reducible show P3 _ _); walk_at "gb pool") | fail))
local macro_rules | `(tactic| walk_at "gb hp") => `(tactic| (first | ((with_reducible show _ = some (HO.tup _)); first | assumption | (refine p3_tup (by assumption) (by walk_at "gb pool") ?_; walk_at "gb hp") | fail) | fail))
theorem modr {a l : Int} (h : 0 < l) : 0 ≤ a % l ∧ a % l < l := ⟨Int.emod_nonneg _ (by omega), Int.emod_lt_of_pos _ h⟩
theorem few_rng {r sc top : Int} (h0 : 0 ≤ r) (h1 : r < top) (h2 : top ≤ 10) (h3 : 1 ≤ sc) (h4 : sc ≤ 1000) : 0 ≤ r * sc ∧ r * sc + sc ≤ 10000 := by
  have a := Int.mul_le_mul_of_nonneg_right (show r ≤ 9 by omega) (show 0 ≤ sc by omega)
  exact ⟨Int.mul_nonneg h0 (by omega), by omega⟩
theorem p3_put {H : Hp} {p D : Addr} {o : HO} (n : D ≠ p) (h : P3 H p) : P3 (upd H D o) p := h.put n
local macro_rules | `(tactic| walk_at "gb pool") => `(tactic| (first | ((with_reducible show P3 (upd _ _ _) _); first | assumption | (refine p3_put (by first | assumption | exact P3.nn (by assumption) (by assumption)) ?_; walk_at "gb pool") | fail) | fail))
structure Nums (H : Hp) (D : Addr) (n : Nat) (P : Int → Prop) : Prop where
  ex : ∃ zs : List Int, H D = some (.lst (zs.map V.int)) ∧ zs.length = n ∧ ∀ z ∈ zs, P z
theorem Nums.snoc {D : Addr} {n : Nat} {P : Int → Prop} {zs : List Int} {z : Int} {Hx : Hp} (hl : zs.length = n) (h : ∀ z ∈ zs, P z) (hz : P z) (e : Hx D = some (.lst (zs.map V.int ++ [V.int z]))) : Nums Hx D (n + 1) P :=
  ⟨zs ++ [z], by rw [e, List.map_append]; rfl, by rw [List.length_append, hl]; rfl, fun y hy => (List.mem_append.mp hy).elim (h y) fun m => by rw [List.mem_singleton.mp m]; exact hz⟩
theorem at_str {l : List Str} {r : Int} (h0 : 0 ≤ r) (h1 : r < (l.length : Int)) : atI (l.map V.str) r = some (.str (l.getD r.toNat ⟨#[]⟩)) := by
  obtain ⟨j, rfl⟩ : ∃ j : Nat, r = (j : Int) := ⟨r.toNat, by omega⟩
  refine atI_nat ?_
  rw [List.getElem?_map, Int.toNat_natCast, List.getD_eq_getElem?_getD, List.getElem?_eq_getElem (by omega)]; rfl
theorem at_int {l : List Int} {r : Int} (h0 : 0 ≤ r) (h1 : r < (l.length : Int)) : atI (l.map V.int) r = some (.int (l.getD r.toNat 0)) := by
  obtain ⟨j, rfl⟩ : ∃ j : Nat, r = (j : Int) := ⟨r.toNat, by omega⟩
  refine atI_nat ?_
  rw [List.getElem?_map, Int.toNat_natCast, List.getD_eq_getElem?_getD, List.getElem?_eq_getElem (by omega)]; rfl
theorem ixN_r {n : Nat} {r : Int} (h0 : 0 ≤ r) (h1 : r < (n : Int)) : ixN n r = some r.toNat := by
  obtain ⟨j, rfl⟩ : ∃ j : Nat, r = (j : Int) := ⟨r.toNat, by omega⟩
  rw [Int.toNat_natCast]
  exact ixN_of (by omega)
local macro_rules | `(tactic| walk_at "gb leaf") => `(tactic| (first | ((with_reducible show ixN _ _ = some _); exact ixN_r (by omega) (by first | omega | (rw [List.length_map]; omega))) | fail))
local macro_rules | `(tactic| walk_at "gb leaf") => `(tactic| (first | ((with_reducible show atI (List.map V.int _) _ = some _); first | assumption | exact at_int (by omega) (by first | omega | (simp only [List.length_map] at *; omega))) | fail))
local macro_rules | `(tactic| walk_at "gb leaf") => `(tactic| (first | ((with_reducible show atI (List.map V.str _) _ = some _); first | assumption | exact at_str (by omega) (by first | omega | (simp only [List.length_map] at *; omega))) | fail))
theorem getMapG {α : Type} {f : α → V} {l : List α} {i : Nat} {x : V} (h : (l.map f)[i]? = some x) : ∃ z, l[i]? = some z ∧ x = f z := get_map h
local macro_rules | `(tactic| walk_at "gb pool") => `(tactic| (first | ((with_reducible show P3 (upd _ _ _) _); first | assumption | (refine p3_mono (same_new (by assumption)) ?_; walk_at "gb pool") | fail) | fail))
theorem numok_set {ys : List Int} {n j : Nat} {sc : Int} (hl : ys.length = n) (h : ∀ y ∈ ys, 0 ≤ y ∧ y ≤ 9999) (h1 : 0 ≤ sc) (h2 : sc ≤ 9999) : NumOk n (ys.set j sc) := by
  refine ⟨by rw [List.length_set]; exact hl, fun x hx => ?_⟩
  rcases List.mem_or_eq_of_mem_set hx with m | rfl
  · exact h x m
  · exact ⟨h1, h2⟩
theorem set_ints {ys : List Int} {j : Nat} {sc : Int} : (ys.map V.int).set j (.int sc) = (ys.set j sc).map V.int := (List.map_set ..).symm
theorem getD_memS {l : List Str} {i : Nat} {d : Str} (h : i < l.length) : l.getD i d ∈ l := by
  rw [List.getD_eq_getElem?_getD, List.getElem?_eq_getElem h]
  exact List.getElem_mem h
theorem getD_memI {l : List Int} {i : Nat} {d : Int} (h : i < l.length) : l.getD i d ∈ l := by
  rw [List.getD_eq_getElem?_getD, List.getElem?_eq_getElem h]
  exact List.getElem_mem h
structure SubL (H : Hp) (D : Addr) (ls : List Str) : Prop where
  ex : ∃ lb : List Str, H D = some (.lst (lb.map V.str)) ∧ lb.Sublist ls
theorem SubL.yes {D : Addr} {Hx : Hp} {lb ls : List Str} {i : Nat} {z : Str} (h : lb.Sublist (ls.take i)) (hz : ls[i]? = some z) (e : Hx D = some (.lst (lb.map V.str ++ [.str z]))) : SubL Hx D (ls.take (i + 1)) := by
  refine ⟨lb ++ [z], by rw [e, List.map_append]; rfl, ?_⟩
  rw [List.take_succ, hz]
  exact h.append (List.Sublist.refl [z])
theorem SubL.no {D : Addr} {Hx : Hp} {lb ls : List Str} {i : Nat} (h : lb.Sublist (ls.take i)) (e : Hx D = some (.lst (lb.map V.str))) : SubL Hx D (ls.take (i + 1)) := by
  refine ⟨lb, e, ?_⟩
  rw [List.take_succ]
  exact h.trans (List.sublist_append_left _ _)
def WORDS : List Str := [Str.ofString "near", Str.ofString "apart", Str.ofString "needs:", Str.ofString "bars:", Str.ofString "likes:", Str.ofString "likes:", Str.ofString "never:", Str.ofString "never:"]
structure Wishes (H : Hp) (D : Addr) (ns : List Str) (c n : Nat) : Prop where
  ex : ∃ ws : List Str, H D = some (.lst (ws.map V.str)) ∧ ws.length ≤ n ∧ ws.Nodup ∧ ∀ z ∈ ws, LWish ns c z
theorem Wishes.snoc {D : Addr} {Hx : Hp} {ns ws : List Str} {c n : Nat} {z : Str} (hl : ws.length ≤ n) (hd : ws.Nodup) (h : ∀ z ∈ ws, LWish ns c z) (hn : z ∉ ws) (hz : LWish ns c z) (e : Hx D = some (.lst (ws.map V.str ++ [.str z]))) : Wishes Hx D ns c (n + 1) := by
  refine ⟨ws ++ [z], by rw [e, List.map_append]; rfl, by rw [List.length_append]; exact Nat.succ_le_succ hl, ?_, fun y hy => (List.mem_append.mp hy).elim (h y) fun m => by rw [List.mem_singleton.mp m]; exact hz⟩
  exact List.nodup_append.mpr ⟨hd, List.nodup_cons.mpr ⟨by simp, List.nodup_nil⟩, fun a ha b hb => by rw [List.mem_singleton.mp hb]; exact fun z => hn (z ▸ ha)⟩
theorem word_cases {w : Str} (h : w ∈ WORDS) : w = Str.ofString "near" ∨ w = Str.ofString "apart" ∨ w = Str.ofString "needs:" ∨ w = Str.ofString "bars:" ∨ w = Str.ofString "likes:" ∨ w = Str.ofString "never:" := by
  simp only [WORDS, List.mem_cons, List.not_mem_nil, or_false] at h
  rcases h with h | h | h | h | h | h | h | h <;> simp [h]
theorem lw_near {ns : List Str} {c : Nat} : LWish ns c (Str.ofString "near") := ⟨.inl rfl⟩
theorem lw_apart {ns : List Str} {c : Nat} : LWish ns c (Str.ofString "apart") := ⟨.inr (.inl rfl)⟩
theorem col_needs : Str.ofString "needs:" = Str.ofString "needs" ++ Str.ofString ":" := by decide +kernel
theorem col_bars : Str.ofString "bars:" = Str.ofString "bars" ++ Str.ofString ":" := by decide +kernel
theorem col_likes : Str.ofString "likes:" = Str.ofString "likes" ++ Str.ofString ":" := by decide +kernel
theorem col_never : Str.ofString "never:" = Str.ofString "never" ++ Str.ofString ":" := by decide +kernel
theorem lw_needs {ns : List Str} {c : Nat} {n : Str} (h : n ∈ ns) : LWish ns c (Str.ofString "needs:" ++ n) := ⟨.inr (.inr (.inl ⟨_, n, List.mem_cons_self, h, by rw [col_needs]⟩))⟩
theorem lw_bars {ns : List Str} {c : Nat} {n : Str} (h : n ∈ ns) : LWish ns c (Str.ofString "bars:" ++ n) := ⟨.inr (.inr (.inl ⟨_, n, List.mem_cons_of_mem _ List.mem_cons_self, h, by rw [col_bars]⟩))⟩
theorem lw_likes {ns : List Str} {c : Nat} {n : Str} (h : n ∈ ns) : LWish ns c (Str.ofString "likes:" ++ n) := ⟨.inr (.inr (.inl ⟨_, n, List.mem_cons_of_mem _ (List.mem_cons_of_mem _ List.mem_cons_self), h, by rw [col_likes]⟩))⟩
theorem lw_never {ns : List Str} {c : Nat} {n : Str} (h : n ∈ ns.take c) : LWish ns c (Str.ofString "never:" ++ n) := ⟨.inr (.inr (.inr ⟨n, h, by rw [col_never]⟩))⟩
theorem getD_take {l : List Str} {i c : Nat} {d : Str} (h : i < l.length) (hc : i < c) : l.getD i d ∈ l.take c := by
  rw [List.getD_eq_getElem?_getD, List.getElem?_eq_getElem h]
  exact List.mem_take_iff_getElem.mpr ⟨i, by omega, rfl⟩
theorem word_fit {ns : List Str} {w : Str} {k : Nat} (h : ∀ k, (ns.getD k ⟨#[]⟩).length ≤ 8) (hw : w.length ≤ 10) : w.length + (ns.getD k ⟨#[]⟩).length ≤ sizeLine := by
  have := h k
  rw [sizeLine_eq]; omega
theorem nm_len8 {ns : List Str} (hN : ∀ z ∈ ns, Nm z) (k : Nat) : (ns.getD k ⟨#[]⟩).length ≤ 8 := by
  by_cases h : k < ns.length
  · exact (hN _ (getD_memS h)).len.2
  · rw [List.getD_eq_getElem?_getD, List.getElem?_eq_none (by omega)]
    show (⟨#[]⟩ : Str).length ≤ 8
    decide
local macro_rules | `(tactic| walk_at "gb leaf") => `(tactic| (first | ((with_reducible show Str.length _ + Str.length (List.getD _ _ _) ≤ sizeLine); exact word_fit (by assumption) (by decide +kernel)) | fail))
theorem tups_put {H : Hp} {D : Addr} {ys : List V} {o : HO} (e : H D = some (.lst ys)) : Tups H (upd H D o) := fun a xs h => by rw [upd_ne (fun z => by rw [z, e] at h; cases h)]; exact h
theorem Tups.trans {H H1 H2 : Hp} (a : Tups H H1) (b : Tups H1 H2) : Tups H H2 := fun x xs e => b x xs (a x xs e)
structure Stgs (H : Hp) (D : Addr) (k n : Nat) : Prop where
  ex : ∃ st : List SR, H D = some (.lst (st.map fun q => V.ref q.a)) ∧ st.length = n ∧ (∀ q ∈ st, SRAt H q) ∧ ∀ q ∈ st, SOk k q
theorem Stgs.snoc {H H' : Hp} {D : Addr} {k n : Nat} {st : List SR} {q : SR} (hl : st.length = n) (ha : ∀ q ∈ st, SRAt H q) (ho : ∀ q ∈ st, SOk k q) (t : Tups H H') (e : H' D = some (.lst (st.map fun q => V.ref q.a))) (hq : SRAt H' q) (hk : SOk k q) :
    Stgs (upd H' D (.lst ((st.map fun q => V.ref q.a) ++ [.ref q.a]))) D k (n + 1) :=
  ⟨st ++ [q], by rw [upd_same, List.map_append]; rfl, by rw [List.length_append, hl]; rfl, fun r hr => (List.mem_append.mp hr).elim (fun m => (ha r m).mono (t.trans (tups_put e))) fun m => by rw [List.mem_singleton.mp m]; exact hq.mono (tups_put e),
    fun r hr => (List.mem_append.mp hr).elim (ho r) fun m => by rw [List.mem_singleton.mp m]; exact hk⟩
def nmB (t : List Nat) : Bool := decide (1 ≤ t.length) && decide (t.length ≤ 8) && (match t with | [] => true | c :: _ => lets.contains c) && t.all fun c => lets.contains c || dgs.contains c
theorem nm_of {z : Str} (h : nmB (tl z) = true) : Nm z := by
  refine ⟨tl z, (S_tl z).symm, ?_⟩
  unfold nmB at h
  simp only [Bool.and_eq_true, decide_eq_true_eq] at h
  obtain ⟨⟨⟨h1, h2⟩, h3⟩, h4⟩ := h
  refine ⟨h1, h2, fun c hc => ?_, fun c hc => ?_⟩
  · cases e : tl z with
    | nil => rw [e] at hc; cases hc
    | cons d r =>
      rw [e] at hc h3
      cases hc
      exact List.contains_iff_mem.mp h3
  · have := List.all_eq_true.mp h4 c hc
    rw [Bool.or_eq_true] at this
    exact this.imp List.contains_iff_mem.mp List.contains_iff_mem.mp
def NAMES8 : List Str := [Str.ofString "near", Str.ofString "apart", Str.ofString "needs", Str.ofString "bars", Str.ofString "likes", Str.ofString "never", Str.ofString "free", Str.ofString "barred"]
theorem names8_nm : ∀ z ∈ NAMES8, Nm z := fun z hz => nm_of (List.all_eq_true.mp (show NAMES8.all (fun z => nmB (tl z)) = true by decide +kernel) z hz)
theorem names8_nd : NAMES8.Nodup := by
  refine List.Pairwise.of_map (S := fun a b : List Nat => a ≠ b) (fun s : Str => s.cps.toList) (fun a b h e => h (by rw [e])) ?_
  decide +kernel
def LET36 : List Nat := (Str.ofString "abcdefghijklmnopqrstuvwxyz0123456789").cps.toList
def ch36 (r : Int) : Nat := LET36.getD r.toNat 0
theorem at_let {r : Int} (h0 : 0 ≤ r) (h1 : r < 36) : atI (Str.ofString "abcdefghijklmnopqrstuvwxyz0123456789").cps.toList r = some (ch36 r) := by
  have h36 : LET36.length = 36 := by decide +kernel
  obtain ⟨j, rfl⟩ : ∃ j : Nat, r = (j : Int) := ⟨r.toNat, by omega⟩
  refine atI_nat (j := j) ?_
  show LET36[j]? = some (LET36.getD j 0)
  rw [List.getD_eq_getElem?_getD, List.getElem?_eq_getElem (by omega)]; rfl
theorem ch36_ok {r : Int} (h0 : 0 ≤ r) (h1 : r < 36) : ch36 r ∈ lets ∨ ch36 r ∈ dgs := by
  have h : ((List.range 36).all fun j => lets.contains (LET36.getD j 0) || dgs.contains (LET36.getD j 0)) = true := by decide +kernel
  have := List.all_eq_true.mp h r.toNat (List.mem_range.mpr (by omega))
  rw [Bool.or_eq_true] at this
  exact this.imp List.contains_iff_mem.mp List.contains_iff_mem.mp
theorem ch26_ok {r : Int} (h0 : 0 ≤ r) (h1 : r < 26) : ch36 r ∈ lets := by
  have h : ((List.range 26).all fun j => lets.contains (LET36.getD j 0)) = true := by decide +kernel
  exact List.contains_iff_mem.mp (List.all_eq_true.mp h r.toNat (List.mem_range.mpr (by omega)))
def marks (a : Int) (n : Nat) : List Nat := (List.range n).map fun (k : Nat) => ch36 ((5 * (0 + (k : Int)) + a) % 26)
theorem marks_nd {a : Int} (h0 : 0 ≤ a) (h1 : a < 26) : (marks a 8).Nodup := by
  have h : ((List.range 26).all fun a => decide ((marks (a : Int) 8).Nodup)) = true := by decide +kernel
  have := of_decide_eq_true (List.all_eq_true.mp h a.toNat (List.mem_range.mpr (by omega)))
  rwa [show ((a.toNat : Nat) : Int) = a by omega] at this
theorem marks_ok {a : Int} : ∀ c ∈ marks a 8, c ∈ lets := fun c hc => by
  obtain ⟨k, _, rfl⟩ := List.mem_map.mp hc
  exact ch26_ok (Int.emod_nonneg _ (by decide)) (Int.emod_lt_of_pos _ (by decide))
local macro_rules | `(tactic| walk_at "gb leaf") => `(tactic| (first | ((with_reducible show atI (Str.cps (Str.ofString "abcdefghijklmnopqrstuvwxyz0123456789")).toList _ = some _); exact at_let (by omega) (by omega)) | fail))
structure Chs (H : Hp) (D : Addr) (n : Nat) (P : List Nat → Prop) : Prop where
  ex : ∃ cs : List Nat, H D = some (.lst (cs.map fun c => V.str (S [c]))) ∧ cs.length = n ∧ P cs
theorem marks_succ {a : Int} {n : Nat} : marks a (n + 1) = marks a n ++ [ch36 ((5 * (0 + (n : Int)) + a) % 26)] := by
  unfold marks
  rw [List.range_succ, List.map_append]; rfl
theorem marks_len {a : Int} {n : Nat} : (marks a n).length = n := by unfold marks; rw [List.length_map, List.length_range]
local macro_rules | `(tactic| walk_at "gb leaf") => `(tactic| (first | ((with_reducible show ∃ a, V.str _ = V.str a); exact ⟨_, rfl⟩) | fail))
theorem joinL_ch : ∀ cs : List Nat, TL.joinL [] (cs.map fun c => [c]) = cs
  | [] => rfl
  | [c] => rfl
  | c :: d :: r => by
    have ih := joinL_ch (d :: r)
    show [c] ++ ([] ++ TL.joinL [] ((d :: r).map fun c => [c])) = _
    rw [ih]; rfl
theorem join_ch (cs : List Nat) : Txt.join (Str.ofString "") (cs.map fun c => S [c]) = S cs := by
  have e : (cs.map fun c => S [c]) = (cs.map fun c => [c]).map S := by rw [List.map_map]; rfl
  have e0 : Str.ofString "" = S [] := by decide +kernel
  rw [e, e0, join_S, joinL_ch]
theorem sum_ch : ∀ cs : List Nat, ((cs.map fun c => S [c]).map (·.length)).sum = cs.length
  | [] => rfl
  | c :: r => by
    have ih := sum_ch r
    rw [List.map_cons, List.map_cons, List.sum_cons, ih, S_len, List.length_cons, List.length_cons]
    simp; omega
theorem cat_m (cs : List Nat) (c : Nat) : Str.ofString "m" ++ S cs ++ S [c] = S (109 :: (cs ++ [c])) := by
  have : Str.ofString "m" = S [109] := by decide +kernel
  rw [this, S_cat, S_cat]; rfl
theorem marks_inj {f : Nat → List Nat} (hf : ∀ a b, f a = f b → a = b) {l : List Nat} (h : l.Nodup) : (l.map fun c => S (f c)).Nodup := by
  refine List.pairwise_map.mpr (h.imp fun {a b} n e => n (hf a b ?_))
  have := congrArg tl e
  simpa [tl, S] using this
theorem nm_cons {c : Nat} {cs : List Nat} (hc : c ∈ lets) (h : ∀ c ∈ cs, c ∈ lets ∨ c ∈ dgs) (hl : cs.length ≤ 7) : Nm (S (c :: cs)) :=
  ⟨c :: cs, rfl, Nat.succ_le_succ (Nat.zero_le _), Nat.succ_le_succ hl, fun d hd => by cases hd; exact hc, fun d hd => (List.mem_cons.mp hd).elim (fun z => .inl (z ▸ hc)) (h d)⟩
theorem free_eq {xs : List Int} {l : List KR} {m h : Int} : freeL xs l m h = (List.range xs.length).map fun k => xs.getD k 0 - (usedK (rowsOn l m) h k).sum := by
  unfold freeL used
  refine List.ext_getElem (by simp) fun i h1 h2 => ?_
  have hi : i < xs.length := by simp at h2; exact h2
  simp [List.getElem?_eq_getElem hi]
theorem free_get {xs : List Int} {l : List KR} {m h : Int} {k : Nat} (hk : k < xs.length) : (freeL xs l m h)[k]? = some (xs.getD k 0 - (usedK (rowsOn l m) h k).sum) := by
  rw [free_eq, List.getElem?_map, List.getElem?_range hk]; rfl
theorem sum_mono {f : KR → Int} {p q : KR → Bool} : ∀ {l : List KR}, (∀ r ∈ l, 0 ≤ f r) → (∀ r ∈ l, p r = true → q r = true) → ((l.filter p).map f).sum ≤ ((l.filter q).map f).sum
  | [], _, _ => Int.le_refl _
  | r :: l, h, g => by
    have ih := sum_mono (l := l) (fun y hy => h y (List.mem_cons_of_mem _ hy)) fun y hy => g y (List.mem_cons_of_mem _ hy)
    have h0 := h r List.mem_cons_self
    rw [List.filter_cons, List.filter_cons]
    by_cases hp : p r = true
    · rw [if_pos hp, if_pos (g r List.mem_cons_self hp), List.map_cons, List.map_cons, List.sum_cons, List.sum_cons]
      omega
    · rw [if_neg hp]
      split
      · rw [List.map_cons, List.sum_cons]; omega
      · exact ih
theorem max_bg : ∀ {l : List KR}, l ≠ [] → ∃ r ∈ l, ∀ q ∈ l, q.bg ≤ r.bg
  | [], h => absurd rfl h
  | [r], _ => ⟨r, List.mem_cons_self, fun q hq => by rw [List.mem_singleton.mp hq]; exact Int.le_refl _⟩
  | r :: s :: l, _ => by
    obtain ⟨t, ht, hq⟩ := max_bg (l := s :: l) (fun z => by cases z)
    by_cases h : t.bg ≤ r.bg
    · exact ⟨r, List.mem_cons_self, fun q hm => (List.mem_cons.mp hm).elim (fun z => by rw [z]; exact Int.le_refl _) fun z => Int.le_trans (hq q z) h⟩
    · exact ⟨t, List.mem_cons_of_mem _ ht, fun q hm => (List.mem_cons.mp hm).elim (fun z => by rw [z]; omega) (hq q)⟩
/-- the world of the law -/
structure Wd (H : Hp) (a : Addr) (w : WA) (sc : Int) : Prop where
  e : H a = some (.lst [.ref w.ra, .ref w.ma, .ref w.ga, .ref w.ta, .int sc])
  w : WAt H w
theorem Wd.ext {H H' : Hp} {a : Addr} {w : WA} {sc : Int} (h : Wd H a w sc) (s : LamX.ExtN H H') : Wd H' a w sc := ⟨ext_hp s h.e (fun _ z => by cases z), h.w.ext s⟩
theorem Wd.mono {H H' : Hp} {a : Addr} {w : WA} {sc : Int} (h : Wd H a w sc) (s : Same H H') : Wd H' a w sc := h.ext (ext_same s)
structure WNe (p a : Addr) (w : WA) : Prop where
  a : a ≠ p
  r : w.ra ≠ p
  m : w.ma ≠ p
  g : w.ga ≠ p
  t : w.ta ≠ p
theorem Wd.but {H H' : Hp} {p a : Addr} {w : WA} {sc : Int} (h : Wd H a w sc) (n : WNe p a w) (P : P3 H p) (s : SameBut p H H') : Wd H' a w sc :=
  have t := p3_tups s P
  ⟨s _ _ n.a h.e, s _ _ n.r h.w.r, s _ _ n.m h.w.m, s _ _ n.g h.w.g, s _ _ n.t h.w.t, h.w.mm.mono t, h.w.gg.mono t, h.w.tt.mono t⟩
def spMade : Sp := fun vs H Q _ => ∃ (p : Addr) (m : Int), vs = [.ref p, .int m] ∧ P3 H p ∧ 1 ≤ m ∧ m ≤ 6 ∧ ∀ a (wa : WA) (sc : Int) H', Wd H' a wa sc → WOk wa → 1 ≤ sc → sc ≤ 1000 → WNe p a wa → P3 H' p → SameBut p H H' → Q (.ref a) H'
structure KOk (wa : WA) (ps : List Int) (r : KR) : Prop where
  mc : 0 ≤ r.mc ∧ r.mc < (wa.ms.length : Int)
  bg : r.bg ∈ ps
  len : r.xs.length = wa.rs.length
  nn : ∀ x ∈ r.xs, 0 ≤ x
structure IsFr (fl xs : List Int) (l : List KR) (m h : Int) : Prop where
  eq : fl = freeL xs l m h
theorem IsFr.len {fl xs : List Int} {l : List KR} {m h : Int} (e : IsFr fl xs l m h) : fl.length = xs.length := by rw [e.eq, free_len]
theorem free_nil {xs : List Int} {m h : Int} : freeL xs [] m h = xs := by
  rw [free_eq]
  refine List.ext_getElem (by simp) fun i h1 h2 => ?_
  simp [usedK, rowsOn, List.getElem?_eq_getElem h2]
theorem usedOn_succ {l : List KR} {m h : Int} {k i : Nat} {q : KR} (e : l[i]? = some q) : usedK (rowsOn (l.take (i + 1)) m) h k = usedK (rowsOn (l.take i) m) h k ++ (if onM m q = true ∧ onAt h q = true then [q.xs.getD k 0] else []) := by
  rw [rowsOn_succ e]
  unfold usedK
  rw [List.filter_append, List.map_append]
  congr 1
  by_cases h1 : onM m q = true
  · rw [if_pos h1]
    by_cases h2 : onAt h q = true
    · rw [if_pos ⟨h1, h2⟩, List.filter_cons, if_pos h2]; rfl
    · rw [if_neg (fun z => h2 z.2), List.filter_cons, if_neg h2]; rfl
  · rw [if_neg h1, if_neg (fun z => h1 z.1)]; rfl
theorem free_no {xs : List Int} {l : List KR} {m h : Int} {i : Nat} {q : KR} (e : l[i]? = some q) (n : ¬ (onM m q = true ∧ onAt h q = true)) : freeL xs (l.take (i + 1)) m h = freeL xs (l.take i) m h := by
  rw [free_eq, free_eq]
  refine List.map_congr_left fun k _ => ?_
  rw [usedOn_succ e, if_neg n, List.append_nil]
theorem free_yes {xs : List Int} {l : List KR} {m h : Int} {i : Nat} {q : KR} (e : l[i]? = some q) (n : onM m q = true ∧ onAt h q = true) : freeL xs (l.take (i + 1)) m h = (List.range (freeL xs (l.take i) m h).length).map fun k => (freeL xs (l.take i) m h).getD k 0 - q.xs.getD k 0 := by
  rw [free_len, free_eq (l := l.take (i + 1))]
  refine List.map_congr_left fun k hk => ?_
  have hk := List.mem_range.mp hk
  rw [usedOn_succ e, if_pos n, List.getD_eq_getElem?_getD (l := freeL xs (l.take i) m h), free_get hk, List.sum_append]
  simp
  omega
theorem rep_flat {k : Nat} {z : Int} : (List.replicate k [V.int z]).flatten = (List.replicate k z).map V.int := by
  rw [List.map_replicate, List.flatten_replicate_singleton]
theorem pow62 : (2 : Int) ^ 62 = 4611686018427387904 := by decide
theorem len62 {α : Type} {l : List α} (h : l.length ≤ 1000) : ((l.length : Nat) : Int) < 2 ^ 62 := by rw [pow62]; omega
theorem cluster_made {A : Adr} {H : Hp} {R : Addr → Hp → Prop} {E : XK} {w : WA} (hw : WAt H w) (ho : WOk w) (hT : LamX.Tabs [(A.tb_check_rows, GL.lamQ "check_rows")] H) (f : ∀ x H', H x = none → LamX.ExtN H H' → LamX.Tabs [(A.tb_check_rows, GL.lamQ "check_rows")] H' → CAt A H' x w → R x H') : ∀ x dx, H x = none → H dx = none → dx ≠ x →
    spCI A (.ref x :: [.ref w.ra, .ref w.ma, .ref w.ga, .ref w.ta]) (upd (upd H dx (.own x)) x (.ins A.c_Cluster dx [])) (fun v H2 => v = .non ∧ R x H2) E := by
  intro x dx hx hd hne
  have sb0 : Same H (upd (upd H dx (.own x)) x (.ins A.c_Cluster dx [])) := same_mk hx hd SameBut.refl
  exact ⟨x, dx, w, rfl, upd_same, hw.ext (ext_same sb0), ho, tabs_same sb0 hT, fun H' c s t => ⟨rfl, f x H' hx (fun b o e n => s b o (sb0 b o e) (fun z => by rw [z, hx] at e; cases e) n) t c⟩⟩
theorem CAt.lists {A : Adr} {H : Hp} {c : Addr} {w : WA} {a b d e : Addr} (h : CAt A H c { w with ra := a, ma := b, ga := d, ta := e }) : CAt A H c w := ⟨h.ex⟩
theorem WOk.lists {w : WA} {a b d e : Addr} (h : WOk w) : WOk { w with ra := a, ma := b, ga := d, ta := e } := ⟨h.r1, h.rd, h.rn, h.m1, h.md, h.mo, h.gn, h.gk, h.t1, h.td, h.to, h.nv⟩
theorem getD_nn {xs : List Int} (h : ∀ x ∈ xs, 0 ≤ x) (k : Nat) : 0 ≤ xs.getD k 0 := by
  rw [List.getD_eq_getElem?_getD]
  cases e : xs[k]? with
  | none => exact Int.le_refl _
  | some z => exact h z (List.mem_of_getElem? e)
theorem CAt.fr {A : Adr} {H H' : Hp} {c : Addr} {w : WA} (h : CAt A H c w) (s : Same H H') : CAt A H' c w := by
  obtain ⟨dx, pt, rt, mt, gt, tt, tot, go, r0, m0, g0, t0, mo, to, a1, a2, a3, a4, a5, a6, a7, a8, a9, b1, b2, b3, b4, b5⟩ := h.ex
  exact ⟨dx, pt, rt, mt, gt, tt, tot, go, r0, m0, g0, t0, mo, to, s _ _ a1, s _ _ a2, s _ _ a3, a4.fr (fun x q o => o.fr (fr_same s)), s _ _ a5, a6.fr (fr_same s), s _ _ a7, a8.fr (fun x q o => o.fr (fr_same s)), a9.mono s, s _ _ b1, s _ _ b2, s _ _ b3, s _ _ b4, s _ _ b5⟩
local macro_rules | `(tactic| walk_at "gb leaf") => `(tactic| (first | ((with_reducible show RowsAt _ _); first | assumption | exact RowsAt.mono (by assumption) (Same.tups (by walk_at "gb same")) | fail) | fail))
local macro_rules | `(tactic| walk_at "gb leaf") => `(tactic| (first | ((with_reducible show Wd _ _ _ _); first | assumption | exact Wd.mono (by assumption) (by walk_at "gb same") | fail) | fail))
local macro_rules | `(tactic| walk_at "gb leaf") => `(tactic| (first | ((with_reducible show CAt _ _ _ _); first | assumption | exact CAt.fr (by assumption) (by walk_at "gb same") | fail) | fail))
structure Machs (H : Hp) (D : Addr) (ns : List Str) (k n : Nat) : Prop where
  ex : ∃ ms : List MR, H D = some (.lst (ms.map fun r => V.ref r.a)) ∧ ms.map (·.nm) = ns.take n ∧ MsAt H ms ∧ ∀ r ∈ ms, MOk k r
structure Tmps (H : Hp) (D : Addr) (ns : List Str) (gn : Str) (k c n : Nat) : Prop where
  ex : ∃ ts : List TR, H D = some (.lst (ts.map fun r => V.ref r.a)) ∧ ts.map (·.nm) = ns.take n ∧ TsAt H ts ∧ (∀ r ∈ ts, TOk k gn r) ∧ ∀ r ∈ ts, ∀ z ∈ r.ws, LWish ns c z
def SC8 : List Int := [1, 1, 1, 1, 1, 1, 7, 1000]
theorem sc8_ok {r : Int} (h0 : 0 ≤ r) (h1 : r < 8) : 1 ≤ SC8.getD r.toNat 0 ∧ SC8.getD r.toNat 0 ≤ 1000 := by
  have h : ∀ z ∈ SC8, 1 ≤ z ∧ z ≤ 1000 := by decide
  exact h _ (getD_memI (show r.toNat < 8 by omega))
theorem sw_take {x y : Str} (h : Txt.startswith x y = true) : x.cps.toList.take y.length = y.cps.toList := by
  unfold Txt.startswith at h
  rw [Bool.and_eq_true, PySem.StrLaws.subAt_eq, List.drop_zero, beq_iff_eq] at h
  exact h.2
theorem never6 : (Str.ofString "never" ++ Str.ofString ":").cps.toList = [110, 101, 118, 101, 114, 58] := by decide +kernel
theorem never6l : (Str.ofString "never" ++ Str.ofString ":").length = 6 := by decide +kernel
theorem nev_of {ns ws : List Str} {c : Nat} (h : ∀ z ∈ ws, LWish ns c z) : ∀ n ∈ nAft (Str.ofString "never") ws, n ∈ ns.take c := by
  intro n hn
  unfold nAft at hn
  obtain ⟨z, hz, rfl⟩ := List.mem_map.mp hn
  obtain ⟨hz, hs⟩ := List.mem_filter.mp hz
  have ht := sw_take hs
  rw [never6, never6l] at ht
  rcases (h z hz).ok with rfl | rfl | ⟨w, x, hw, hx, rfl⟩ | ⟨x, hx, rfl⟩
  · exact absurd ht (by decide +kernel)
  · exact absurd ht (by decide +kernel)
  · exfalso
    have e : (w ++ Str.ofString ":" ++ x).cps.toList = tl w ++ ([58] ++ tl x) := by
      show tl _ = _
      rw [tl_append, tl_append, col58, List.append_assoc]
      first | done | rfl
    rw [e] at ht
    simp only [List.mem_cons, List.not_mem_nil, or_false] at hw
    rcases hw with rfl | rfl | rfl
    · have : tl (Str.ofString "needs") = [110, 101, 101, 100, 115] := by decide +kernel
      rw [this] at ht
      simp at ht
    · have : tl (Str.ofString "bars") = [98, 97, 114, 115] := by decide +kernel
      rw [this] at ht
      simp at ht
    · have : tl (Str.ofString "likes") = [108, 105, 107, 101, 115] := by decide +kernel
      rw [this] at ht
      simp at ht
  · have e : cutS (Str.ofString "never" ++ Str.ofString ":" ++ x) (some (((Str.ofString "never" ++ Str.ofString ":").length : Nat) : Int)) none = x := by
      have hc : (Str.ofString "never" ++ Str.ofString ":" ++ x).cps.toList = [110, 101, 118, 101, 114, 58] ++ tl x := by
        show tl _ = _
        rw [tl_append]
        exact congrArg (· ++ tl x) never6
      have hl : (Str.ofString "never" ++ Str.ofString ":" ++ x).length = 6 + (tl x).length := by
        rw [Str.length_append, never6l]; rfl
      unfold cutS
      rw [HT.sIx_none, HT.sIx_nat, never6l, hl, hc, Nat.min_eq_left (by omega)]
      have e2 : ([110, 101, 118, 101, 114, 58] ++ tl x).drop 6 = tl x := rfl
      rw [e2, List.take_of_length_le (by omega)]
      first | done | exact S_tl x
    rw [e]
    exact hx
theorem lw_ok {ns : List Str} {c : Nat} {z : Str} (hN : ∀ z ∈ ns, Nm z) (h : LWish ns c z) : WishOk z := by
  rcases h.ok with rfl | rfl | ⟨w, x, hw, hx, rfl⟩ | ⟨x, hx, rfl⟩
  · exact ⟨.inl rfl⟩
  · exact ⟨.inr (.inl rfl)⟩
  · refine ⟨.inr (.inr ⟨w, x, ?_, hN x hx, rfl⟩)⟩
    simp only [List.mem_cons, List.not_mem_nil, or_false] at hw ⊢
    rcases hw with rfl | rfl | rfl <;> simp
  · exact ⟨.inr (.inr ⟨_, x, by simp, hN x (List.mem_of_mem_take hx), rfl⟩)⟩
theorem Machs.snoc {H H' : Hp} {D : Addr} {ns : List Str} {k n : Nat} {ms : List MR} {r : MR} (hn : ms.map (·.nm) = ns.take n) (ha : MsAt H ms) (ho : ∀ r ∈ ms, MOk k r) (hz : ns[n]? = some r.nm) (t : Tups H H') (e : H' D = some (.lst (ms.map fun r => V.ref r.a))) (hr : MRAt H' r) (hk : MOk k r) :
    Machs (upd H' D (.lst ((ms.map fun r => V.ref r.a) ++ [.ref r.a]))) D ns k (n + 1) :=
  ⟨ms ++ [r], by rw [upd_same, List.map_append]; rfl, by rw [List.map_append, hn, List.take_succ, hz]; rfl, fun q hq => (List.mem_append.mp hq).elim (fun m => (ha q m).mono (t.trans (tups_put e))) fun m => by rw [List.mem_singleton.mp m]; exact hr.mono (tups_put e),
    fun q hq => (List.mem_append.mp hq).elim (ho q) fun m => by rw [List.mem_singleton.mp m]; exact hk⟩
theorem Tmps.snoc {H H' : Hp} {D : Addr} {ns : List Str} {gn : Str} {k c n : Nat} {ts : List TR} {r : TR} (hn : ts.map (·.nm) = ns.take n) (ha : TsAt H ts) (ho : ∀ r ∈ ts, TOk k gn r) (hw : ∀ r ∈ ts, ∀ z ∈ r.ws, LWish ns c z) (hz : ns[n]? = some r.nm) (t : Tups H H') (e : H' D = some (.lst (ts.map fun r => V.ref r.a)))
    (hr : TRAt H' r) (hk : TOk k gn r) (hws : ∀ z ∈ r.ws, LWish ns c z) : Tmps (upd H' D (.lst ((ts.map fun r => V.ref r.a) ++ [.ref r.a]))) D ns gn k c (n + 1) :=
  ⟨ts ++ [r], by rw [upd_same, List.map_append]; rfl, by rw [List.map_append, hn, List.take_succ, hz]; rfl, fun q hq => (List.mem_append.mp hq).elim (fun m => (ha q m).mono (t.trans (tups_put e))) fun m => by rw [List.mem_singleton.mp m]; exact hr.mono (tups_put e),
    fun q hq => (List.mem_append.mp hq).elim (ho q) (fun m => by rw [List.mem_singleton.mp m]; exact hk), fun q hq => (List.mem_append.mp hq).elim (hw q) fun m => by rw [List.mem_singleton.mp m]; exact hws⟩
theorem Machs.but {H H' : Hp} {D p : Addr} {ns : List Str} {k n : Nat} (h : Machs H D ns k n) (nD : D ≠ p) (P : P3 H p) (s : SameBut p H H') : Machs H' D ns k n :=
  let ⟨ms, a, b, c, d⟩ := h.ex; ⟨ms, s _ _ nD a, b, c.mono (p3_tups s P), d⟩
theorem Machs.mono {H H' : Hp} {D : Addr} {ns : List Str} {k n : Nat} (h : Machs H D ns k n) (s : Same H H') : Machs H' D ns k n :=
  let ⟨ms, a, b, c, d⟩ := h.ex; ⟨ms, s _ _ a, b, c.mono (Same.tups s), d⟩
theorem Machs.put {H : Hp} {D G : Addr} {ns : List Str} {k n : Nat} {ys : List V} {o : HO} (h : Machs H D ns k n) (n1 : D ≠ G) (e : H G = some (.lst ys)) : Machs (upd H G o) D ns k n :=
  let ⟨ms, a, b, c, d⟩ := h.ex; ⟨ms, by rw [upd_ne n1]; exact a, b, c.mono (tups_put e), d⟩
theorem take_k {ns : List Str} {k : Nat} (h : k ≤ ns.length) : (ns.take k).length = k := by rw [List.length_take]; omega
def spLaw (A : Adr) (K : PySem.W.Frag) : Sp := fun vs H Q _ => ∃ (a : Addr) (ns : List Int), vs = [.ref a] ∧ SqL K H a (ns.map V.int) ∧ ns.length ≤ 63 ∧ (∀ z ∈ ns, Builtin.Int.intBits z ≤ 1048576) ∧ LamX.Tabs [(A.tb_check_rows, GL.lamQ "check_rows")] H ∧ ∀ H', Q (.bl true) H'
theorem tabs_p3 {T : List (Addr × Str)} {H H' : Hp} {p : Addr} (s : SameBut p H H') (P : P3 H p) (h : LamX.Tabs T H) : LamX.Tabs T H' := fun q hq => by
  obtain ⟨ps, h1, h2, h3⟩ := h q hq
  obtain ⟨a, b, c, e, _⟩ := P.ex
  refine ⟨ps, s _ _ (fun z => by rw [z, e] at h1; cases h1) h1, h2, fun pos cv hc => ?_⟩
  obtain ⟨c, e1, e2⟩ := h3 pos cv hc
  exact ⟨c, e1, s _ _ (fun z => by rw [z, e] at e2; cases e2) e2⟩
structure RowsL (H : Hp) (D : Addr) (wa : WA) (ps : List Int) (n : Nat) : Prop where
  ex : ∃ rl : List KR, H D = some (.lst (rl.map fun r => V.ref r.a)) ∧ rl.length = n ∧ RowsAt H rl ∧ ∀ r ∈ rl, KOk wa ps r
theorem RowsL.snoc {H H' : Hp} {D : Addr} {wa : WA} {ps : List Int} {n : Nat} {rl : List KR} {r : KR} (hl : rl.length = n) (ha : RowsAt H rl) (ho : ∀ r ∈ rl, KOk wa ps r) (t : Tups H H') (e : H' D = some (.lst (rl.map fun r => V.ref r.a))) (hr : KRAt H' r) (hk : KOk wa ps r) :
    RowsL (upd H' D (.lst ((rl.map fun r => V.ref r.a) ++ [.ref r.a]))) D wa ps (n + 1) :=
  ⟨rl ++ [r], by rw [upd_same, List.map_append]; rfl, by rw [List.length_append, hl]; rfl, ⟨fun q hq => (List.mem_append.mp hq).elim (fun m => (ha.all q m).mono (t.trans (tups_put e))) fun m => by rw [List.mem_singleton.mp m]; exact hr.mono (tups_put e)⟩,
    fun q hq => (List.mem_append.mp hq).elim (ho q) fun m => by rw [List.mem_singleton.mp m]; exact hk⟩
local macro_rules | `(tactic| walk_at "gb leaf") => `(tactic| (first | ((with_reducible show Wd _ _ _ _); first | assumption | exact Wd.mono (by assumption) (by walk_at "gb same") | exact Wd.but (by assumption) (by assumption) (by walk_at "gb pool") (by assumption) | fail) | fail))
structure NumsL (H : Hp) (D : Addr) (n : Nat) : Prop where
  ex : ∃ zs : List Int, H D = some (.lst (zs.map V.int)) ∧ zs.length ≤ n
theorem NumsL.yes {D : Addr} {n : Nat} {zs : List Int} {z : Int} {Hx : Hp} (hl : zs.length ≤ n) (e : Hx D = some (.lst (zs.map V.int ++ [V.int z]))) : NumsL Hx D (n + 1) :=
  ⟨zs ++ [z], by rw [e, List.map_append]; rfl, by rw [List.length_append]; exact Nat.succ_le_succ hl⟩
/-- what is asked of a row of a take -/
structure KQ (wa : WA) (ps : List Int) (r : KR) : Prop where
  len : r.xs.length = wa.rs.length
  nn : ∀ x ∈ r.xs, 0 ≤ x
  bg : r.bg ∈ ps
theorem KOk.q {wa : WA} {ps : List Int} {r : KR} (h : KOk wa ps r) : KQ wa ps r := ⟨h.len, h.nn, h.bg⟩
theorem ra_app {H : Hp} {l m : List KR} (h : RowsAt H l) (g : RowsAt H m) : RowsAt H (l ++ m) := ⟨fun r hr => (List.mem_append.mp hr).elim (h.all r) (g.all r)⟩
local macro_rules | `(tactic| walk_at "gb hf") => `(tactic| (first | ((repeat (first | exact upd_same | refine upd_fr ?_ (by assumption))); assumption) | fail))
local macro_rules | `(tactic| walk_at "gb hf") => `(tactic| (first | ((repeat (first | exact upd_same | refine upd_fr ?_ (by assumption))); done) | fail))
local macro_rules | `(tactic| walk_at "gb hf") => `(tactic| (first | assumption | fail))
local macro_rules | `(tactic| walk_at "gb hp") => `(tactic| (first | walk_at "gb hf" | fail))
local macro_rules | `(tactic| walk_at "gb leaf") => `(tactic| (first | ((with_reducible show SqL _ _ _ _ ∨ SqT _ _ _ _); first | exact Or.inl (SqL.of (by walk_at "gb hf")) | exact Or.inr (SqT.of (by walk_at "gb hf")) | fail) | fail))
theorem hd_of {K : PySem.W.Frag} {c P : Addr} {d : Option Addr} {vs : Array Value} {sl : Array (Option Value)} (e : K.lookup c = some ⟨.type "code", d, .fields vs, sl⟩) (h11 : vs[11]? = some (.ref P))
    (r : ((match vs.getD 18 .none with | .str _ _ => true | _ => false) && (match vs.getD 7 .none with | .int _ _ => true | _ => false) &&
      (match vs.getD 9 .none with | .bool _ => true | _ => false) && (match vs.getD 10 .none with | .int _ _ => true | _ => false) && c != P) = true) : PySem.W.codeHdIn K c P = true := by
  unfold PySem.W.codeHdIn
  rw [e]
  simp only [h11, beq_self_eq_true, Bool.true_and]
  exact r
def spfl (a b : Int) : List (Str × V) := putF "end" (.int b) (putF "start" (.int a) [])
theorem spfl_start (a b : Int) : (spfl a b).lookup ("start" : Str) = some (.int a) := by
  unfold spfl; rw [lookup_putF, if_neg (by decide +kernel), lookup_putF, if_pos rfl]
theorem spfl_end (a b : Int) : (spfl a b).lookup ("end" : Str) = some (.int b) := by
  unfold spfl; rw [lookup_putF, if_pos rfl]
def spSpanI (A : Adr) : Sp := fun vs H Q _ => ∃ (p dx : Addr) (a b : Int), vs = [.ref p, .int a, .int b] ∧ H p = some (.ins A.c_Span dx []) ∧ 0 ≤ a ∧ a ≤ b ∧ ∀ H', SameBut p H H' → H' p = some (.ins A.c_Span dx (spfl a b)) → Q .non H'
def inSp (m a b : Int) (r : KR) : Bool := decide (r.mc = m) && decide ((if a > r.bg then a else r.bg) < (if b < r.en then b else r.en))
def comm (l : List KR) (m a b : Int) : List KR := l.filter (inSp m a b)
def spCommon (A : Adr) : Sp := fun vs H Q _ => ∃ (x dx c t : Addr) (l : List KR) (m : Int) (y dy : Addr) (a b : Int), vs = [.ref x, .int m, .ref y] ∧ H x = some (.ins A.c_Takes dx (tkfl c t)) ∧ H t = some (.tup (l.map fun r => V.ref r.a)) ∧ RowsAt H l ∧ l.length ≤ 200 ∧ H y = some (.ins A.c_Span dy (spfl a b)) ∧
  ∀ D H', Same H H' → H' D = some (.lst ((comm l m a b).map fun r => V.ref r.a)) → Q (.ref D) H'
/-- what is free at an hour -/
def fr (xs : List Int) (l : List KR) (m h : Int) (k : Nat) : Int := xs.getD k 0 - (usedK (rowsOn l m) h k).sum
structure LeastIn (xs : List Int) (l : List KR) (m a b : Int) (vs : List Int) : Prop where
  len : vs.length = xs.length
  le0 : ∀ k, k < xs.length → vs.getD k 0 ≤ xs.getD k 0
  le : ∀ k, k < xs.length → ∀ h, a ≤ h → h < b → vs.getD k 0 ≤ fr xs l m h k
  ex : ∀ k, k < xs.length → vs.getD k 0 = xs.getD k 0 ∨ ∃ h, a ≤ h ∧ h < b ∧ vs.getD k 0 = fr xs l m h k
def spFree (A : Adr) : Sp := fun vs H Q _ => ∃ (x dx c t : Addr) (l : List KR) (m : Nat) (y dy : Addr) (a b : Int) (wa : WA) (r : MR), vs = [.ref x, .int (m : Int), .ref y] ∧ H x = some (.ins A.c_Takes dx (tkfl c t)) ∧ H t = some (.tup (l.map fun r => V.ref r.a)) ∧ RowsAt H l ∧ H y = some (.ins A.c_Span dy (spfl a b)) ∧ CAt A H c wa ∧ RowsOk wa.rs.length l ∧ (∀ r ∈ l, ∀ x ∈ r.xs, 0 ≤ x) ∧ WOk wa ∧ wa.ms[m]? = some r ∧
  ∀ z us H', Same H H' → AmtAt A H' z us → LeastIn r.xs l m a b us → Q (.ref z) H'
structure Asc (xs : List Int) (P : Int → Prop) : Prop where
  lt : xs.Pairwise (· < ·)
  mem : ∀ x, x ∈ xs ↔ P x
def spUsers (A : Adr) : Sp := fun vs H Q _ => ∃ (x dx c t : Addr) (l : List KR) (m : Int) (y dy : Addr) (a b : Int), vs = [.ref x, .int m, .ref y] ∧ H x = some (.ins A.c_Takes dx (tkfl c t)) ∧ H t = some (.tup (l.map fun r => V.ref r.a)) ∧ RowsAt H l ∧ l.length ≤ 200 ∧ H y = some (.ins A.c_Span dy (spfl a b)) ∧ (∃ ps : List Int, ps.length ≤ 11 ∧ ∀ r ∈ l, r.us ∈ ps) ∧
  ∀ D us H', Same H H' → H' D = some (.tup (us.map V.int)) → Asc us (fun u => u ≠ -1 ∧ ∃ r ∈ comm l m a b, r.us = u) → Q (.ref D) H'
theorem comm_succ {l : List KR} {m a b : Int} {i : Nat} {r : KR} (e : l[i]? = some r) : comm (l.take (i + 1)) m a b = comm (l.take i) m a b ++ (if inSp m a b r = true then [r] else []) := by
  unfold comm
  rw [List.take_succ, e, List.filter_append]
  congr 1
  show List.filter _ [r] = _
  rw [List.filter_cons]
  split <;> rfl
theorem comm_len {l : List KR} {m a b : Int} : (comm l m a b).length ≤ l.length := List.length_filter_le _ _
theorem comm_take {l : List KR} {m a b : Int} {i : Nat} : (comm (l.take i) m a b).length ≤ l.length := Nat.le_trans comm_len (by rw [List.length_take]; omega)
theorem comm_mem {l : List KR} {m a b : Int} {r : KR} (h : r ∈ comm l m a b) : r ∈ l := (List.mem_filter.mp h).1

local macro_rules | `(tactic| walk_at "gb leaf") => `(tactic| (first | ((with_reducible show List.lookup _ (spfl _ _) = _); first | exact spfl_start _ _ | exact spfl_end _ _) | fail))
local macro_rules | `(tactic| walk_at "gb leaf") => `(tactic| (first | ((with_reducible show NoAttr _ _ _); first | exact (by assumption : Txt _ _ _).no_Span_start | exact (by assumption : Txt _ _ _).no_Span_end) | fail))
local macro_rules | `(tactic| walk_at "gb leaf") => `(tactic| (first | ((with_reducible show Cls _ _); exact (by assumption : Txt _ _ _).cl_Span) | fail))

def mxs (a : Int) (r : KR) : Int := if a > r.bg then a else r.bg
theorem fr_none {xs : List Int} {l : List KR} {m h : Int} {k : Nat} (e : (rowsOn l m).filter (onAt h) = []) : fr xs l m h k = xs.getD k 0 := by
  unfold fr usedK
  rw [e]
  show _ - (0 : Int) = _
  omega
theorem inSp_of {m a b h : Int} {r : KR} (h1 : a ≤ h) (h2 : h < b) (hm : r.mc = m) (h3 : r.bg ≤ h) (h4 : h < r.en) : inSp m a b r = true := by
  unfold inSp
  rw [Bool.and_eq_true, decide_eq_true_iff, decide_eq_true_iff]
  exact ⟨hm, by split <;> split <;> omega⟩
theorem inSp_mx {m a b : Int} {r : KR} (h : inSp m a b r = true) : r.mc = m ∧ a ≤ mxs a r ∧ mxs a r < b ∧ r.bg ≤ mxs a r ∧ mxs a r < r.en := by
  unfold inSp at h
  rw [Bool.and_eq_true, decide_eq_true_iff, decide_eq_true_iff] at h
  obtain ⟨h1, h2⟩ := h
  unfold mxs
  split at h2 <;> split at h2 <;> rename_i c1 c2 <;> simp only [c1, if_true, if_false] <;> refine ⟨h1, ?_⟩ <;> omega
theorem low_mark {xs : List Int} {l : List KR} {m a b h : Int} {k : Nat} (nn : ∀ r ∈ l, ∀ x ∈ r.xs, 0 ≤ x) (h1 : a ≤ h) (h2 : h < b) : fr xs l m h k = xs.getD k 0 ∨ ∃ r ∈ comm l m a b, fr xs l m (mxs a r) k ≤ fr xs l m h k := by
  by_cases hne : (rowsOn l m).filter (onAt h) = []
  · exact .inl (fr_none hne)
  · right
    obtain ⟨r0, h0, hmax⟩ := max_bg hne
    obtain ⟨g1, g2⟩ := List.mem_filter.mp h0
    unfold onAt at g2
    rw [Bool.and_eq_true, decide_eq_true_eq, decide_eq_true_eq] at g2
    obtain ⟨g3, g4⟩ := rowsOn_mem.mp g1
    have hin := inSp_of h1 h2 g4 g2.1 g2.2
    obtain ⟨_, q1, q2, q3, q4⟩ := inSp_mx hin
    have q5 : mxs a r0 ≤ h := by unfold mxs; split <;> omega
    refine ⟨r0, List.mem_filter.mpr ⟨g3, hin⟩, ?_⟩
    unfold fr
    have hmono : (usedK (rowsOn l m) h k).sum ≤ (usedK (rowsOn l m) (mxs a r0) k).sum := by
      unfold usedK
      refine sum_mono (fun q hq => getD_nn (nn q (rowsOn_mem.mp hq).1) k) fun q hq hon => ?_
      have hb := hmax q (List.mem_filter.mpr ⟨hq, hon⟩)
      unfold onAt at hon ⊢
      rw [Bool.and_eq_true, decide_eq_true_eq, decide_eq_true_eq] at hon ⊢
      omega
    omega
theorem used_comm {l : List KR} {m a b h : Int} (h1 : a ≤ h) (h2 : h < b) (n : Nat) : used (comm l m a b) h n = used (rowsOn l m) h n := by
  unfold used usedK comm rowsOn
  rw [List.filter_filter, List.filter_filter]
  congr 1
  funext k
  congr 2
  refine List.filter_congr fun q _ => ?_
  cases c : onAt h q with
  | false => rfl
  | true =>
    unfold onAt at c
    rw [Bool.and_eq_true, decide_eq_true_eq, decide_eq_true_eq] at c
    rw [Bool.true_and, Bool.true_and]
    by_cases hm : q.mc = m
    · rw [inSp_of h1 h2 hm c.1 c.2]; unfold onM; rw [decide_eq_true hm]
    · unfold inSp onM; rw [decide_eq_false hm]; rfl
structure LowH (xs : List Int) (l : List KR) (m : Int) (hs us : List Int) : Prop where
  len : us.length = xs.length
  le0 : ∀ k, k < xs.length → us.getD k 0 ≤ xs.getD k 0
  le : ∀ k, k < xs.length → ∀ h ∈ hs, us.getD k 0 ≤ fr xs l m h k
  ex : ∀ k, k < xs.length → us.getD k 0 = xs.getD k 0 ∨ ∃ h ∈ hs, us.getD k 0 = fr xs l m h k
theorem LowH.nil {xs : List Int} {l : List KR} {m : Int} : LowH xs l m [] xs := ⟨rfl, fun _ _ => Int.le_refl _, fun _ _ _ h => (by cases h), fun _ _ => .inl rfl⟩
theorem LowH.step {xs us ws hs : List Int} {l : List KR} {m h : Int} (q : LowH xs l m hs us) (hl : ws.length = us.length) (hw : ∀ k, k < xs.length → ws.getD k 0 = if fr xs l m h k < us.getD k 0 then fr xs l m h k else us.getD k 0) : LowH xs l m (hs ++ [h]) ws := by
  refine ⟨hl.trans q.len, fun k hk => ?_, fun k hk g hg => ?_, fun k hk => ?_⟩
  · have := q.le0 k hk
    rw [hw k hk]; split <;> omega
  · rw [hw k hk]
    rcases List.mem_append.mp hg with z | z
    · have := q.le k hk g z
      split <;> omega
    · rw [List.mem_singleton.mp z]
      split <;> omega
  · rw [hw k hk]
    split
    · exact .inr ⟨h, List.mem_append_right _ (List.mem_singleton.mpr rfl), rfl⟩
    · rcases q.ex k hk with z | ⟨g, hg, z⟩
      · exact .inl z
      · exact .inr ⟨g, List.mem_append_left _ hg, z⟩
theorem LowH.fin {xs us ns : List Int} {l : List KR} {m a b : Int} (q : LowH xs l m ns us) (nn : ∀ r ∈ l, ∀ x ∈ r.xs, 0 ≤ x) (hn : ∀ x, x ∈ ns ↔ ∃ r ∈ comm l m a b, mxs a r = x) : LeastIn xs l m a b us := by
  refine ⟨q.len, q.le0, fun k hk h h1 h2 => ?_, fun k hk => ?_⟩
  · rcases low_mark (xs := xs) (m := m) (k := k) nn h1 h2 with z | ⟨r, hr, z⟩
    · rw [z]; exact q.le0 k hk
    · exact Int.le_trans (q.le k hk _ ((hn _).mpr ⟨r, hr, rfl⟩)) z
  · rcases q.ex k hk with z | ⟨g, hg, z⟩
    · exact .inl z
    · obtain ⟨r, hr, rfl⟩ := (hn _).mp hg
      obtain ⟨_, q1, q2, _, _⟩ := inSp_mx (List.mem_filter.mp hr).2
      exact .inr ⟨_, q1, q2, z⟩
/-- two that are least are one -/
theorem LeastIn.eq {xs us ws hs : List Int} {l : List KR} {m a b : Int} (q : LeastIn xs l m a b us) (p : LowH xs l m hs ws) (nn : ∀ r ∈ l, ∀ x ∈ r.xs, 0 ≤ x) (h1 : ∀ h ∈ hs, a ≤ h ∧ h < b) (h2 : ∀ r ∈ l, mxs a r < b → mxs a r ∈ hs) : us = ws := by
  refine List.ext_getElem (q.len.trans p.len.symm) fun k hk1 hk2 => ?_
  have hk : k < xs.length := by rw [← q.len]; exact hk1
  have e1 : us.getD k 0 = us[k] := by rw [List.getD_eq_getElem?_getD, List.getElem?_eq_getElem hk1]; rfl
  have e2 : ws.getD k 0 = ws[k] := by rw [List.getD_eq_getElem?_getD, List.getElem?_eq_getElem hk2]; rfl
  rw [← e1, ← e2]
  have le1 : us.getD k 0 ≤ ws.getD k 0 := by
    rcases p.ex k hk with z | ⟨g, hg, z⟩
    · rw [z]; exact q.le0 k hk
    · rw [z]; exact q.le k hk g (h1 g hg).1 (h1 g hg).2
  have le2 : ws.getD k 0 ≤ us.getD k 0 := by
    rcases q.ex k hk with z | ⟨g, g1, g2, z⟩
    · rw [z]; exact p.le0 k hk
    · rw [z]
      rcases low_mark (xs := xs) (m := m) (k := k) nn g1 g2 with y | ⟨r, hr, y⟩
      · rw [y]; exact p.le0 k hk
      · obtain ⟨_, _, q2, _, _⟩ := inSp_mx (List.mem_filter.mp hr).2
        exact Int.le_trans (p.le k hk _ (h2 r (comm_mem hr) q2)) y
  omega

structure K3 (wa : WA) (ps : List Int) (r : KR) : Prop where
  mc : 0 ≤ r.mc ∧ r.mc < (wa.ms.length : Int)
  bg : r.bg ∈ ps
  len : r.xs.length = wa.rs.length
  nn : ∀ x ∈ r.xs, 0 ≤ x
  en : r.en ∈ ps ++ ps.map (· + 1)
  us : -1 ≤ r.us ∧ r.us < (wa.ts.length : Int)
structure QOk (wa : WA) (ps : List Int) (m x y : Int) : Prop where
  mc : 0 ≤ m ∧ m < (wa.ms.length : Int)
  m : x ∈ ps
  le : x ≤ y
def inMk (mk : List Int) (r : KR) : Bool := decide ((mk.filter fun h => decide (r.bg ≤ h) && decide (h < r.en)) ≠ [])
def busyB (l : List KR) (m u : Int) (mk : List Int) : Bool := l.any fun r => decide (r.mc = m) && decide (r.us = u) && inMk mk r
structure MinL (H : Hp) (D : Addr) (fl zs : List Int) (k : Nat) : Prop where
  ex : ∃ ys : List Int, H D = some (.lst (ys.map V.int)) ∧ ys.length = k ∧ ∀ j, j < k → ys.getD j 0 = if fl.getD j 0 < zs.getD j 0 then fl.getD j 0 else zs.getD j 0
theorem MinL.snoc {H : Hp} {D : Addr} {fl zs ys : List Int} {k : Nat} (hyl : ys.length = k) (hy : ∀ j, j < k → ys.getD j 0 = if fl.getD j 0 < zs.getD j 0 then fl.getD j 0 else zs.getD j 0)
    (e : H D = some (.lst (ys.map V.int ++ [V.int (if fl.getD k 0 < zs.getD k 0 then fl.getD k 0 else zs.getD k 0)]))) : MinL H D fl zs (k + 1) := by
  refine ⟨ys ++ [_], by rw [e, List.map_append]; rfl, by rw [List.length_append, hyl]; rfl, fun j hj => ?_⟩
  by_cases hjk : j < k
  · rw [List.getD_eq_getElem?_getD, List.getElem?_append_left (by omega), ← List.getD_eq_getElem?_getD]; exact hy j hjk
  · obtain rfl : j = k := by omega
    rw [List.getD_eq_getElem?_getD, List.getElem?_append_right (by omega), hyl, Nat.sub_self]
    rfl
structure MkL (H : Hp) (D : Addr) (mk : List Int) (r : KR) (i : Nat) : Prop where
  e : H D = some (.lst (((mk.take i).filter fun h => decide (r.bg ≤ h) && decide (h < r.en)).map V.int))

structure UsL (H : Hp) (D : Addr) (l : List KR) (m : Int) (mk : List Int) (i : Nat) : Prop where
  ex : ∃ us : List Int, H D = some (.lst (us.map V.int)) ∧ us.length ≤ i ∧ Asc us (fun k => 0 ≤ k ∧ k < (i : Int) ∧ busyB l m k mk = true)
theorem UsL.yes {H : Hp} {D : Addr} {l : List KR} {m : Int} {mk us : List Int} {i : Nat} (hl : us.length ≤ i) (h : Asc us (fun k => 0 ≤ k ∧ k < (i : Int) ∧ busyB l m k mk = true)) (hb : busyB l m (i : Int) mk = true) (e : H D = some (.lst (us.map V.int ++ [V.int (i : Int)]))) : UsL H D l m mk (i + 1) := by
  refine ⟨us ++ [(i : Int)], by rw [e, List.map_append]; rfl, by rw [List.length_append]; exact Nat.succ_le_succ hl, ?_, fun x => ?_⟩
  · refine List.pairwise_append.mpr ⟨h.lt, List.pairwise_singleton _ _, fun x hx y hy => ?_⟩
    rw [List.mem_singleton.mp hy]
    exact ((h.mem x).mp hx).2.1
  · rw [List.mem_append, h.mem x, List.mem_singleton]
    constructor
    · rintro (⟨a, b, c⟩ | rfl)
      · exact ⟨a, by omega, c⟩
      · exact ⟨by omega, by omega, hb⟩
    · rintro ⟨a, b, c⟩
      by_cases z : x = (i : Int)
      · exact .inr z
      · exact .inl ⟨a, by omega, c⟩
theorem UsL.no {H : Hp} {D : Addr} {l : List KR} {m : Int} {mk us : List Int} {i : Nat} (hl : us.length ≤ i) (h : Asc us (fun k => 0 ≤ k ∧ k < (i : Int) ∧ busyB l m k mk = true)) (hb : ¬ busyB l m (i : Int) mk = true) (e : H D = some (.lst (us.map V.int))) : UsL H D l m mk (i + 1) := by
  refine ⟨us, e, by omega, h.lt, fun x => ?_⟩
  rw [h.mem x]
  constructor
  · rintro ⟨a, b, c⟩
    exact ⟨a, by omega, c⟩
  · rintro ⟨a, b, c⟩
    by_cases z : x = (i : Int)
    · rw [z] at c; exact absurd c hb
    · exact ⟨a, by omega, c⟩

theorem span_made {A : Adr} {H : Hp} {R : Addr → Hp → Prop} {E : XK} {a b : Int} (h0 : 0 ≤ a) (h1 : a ≤ b) (f : ∀ x dx H', H x = none → Same H H' → H' x = some (.ins A.c_Span dx (spfl a b)) → R x H') : ∀ x dx, H x = none → H dx = none → dx ≠ x →
    spSpanI A (.ref x :: ([.int a, .int b] ++ [])) (upd (upd H dx (.own x)) x (.ins A.c_Span dx [])) (fun v H2 => v = .non ∧ R x H2) E := by
  intro x dx hx hd hne
  exact ⟨x, dx, a, b, rfl, upd_same, h0, h1, fun H' sb e => ⟨rfl, f x dx H' hx (same_mk hx hd sb) e⟩⟩
local macro_rules | `(tactic| walk_at "gb step") => `(tactic| ((conv => whnf); (with_reducible show ∀ (x dx : Addr), _ = none → _ = none → dx ≠ x → _); (refine span_made (by first | assumption | omega) (by first | assumption | omega) ?_)))
structure TkB (A : Adr) (H : Hp) (b : Addr) (zs : List V) : Prop where
  ex : H b = some (.lst zs) ∨ ∃ dx c t, H b = some (.ins A.c_Takes dx (tkfl c t)) ∧ H t = some (.tup zs)
def spTkAdd2 (A : Adr) : Sp := fun vs H Q _ => ∃ (a b dx c t : Addr) (ys zs : List V), vs = [.ref a, .ref b] ∧ H a = some (.ins A.c_Takes dx (tkfl c t)) ∧ H t = some (.tup ys) ∧ TkB A H b zs ∧ ys.length ≤ 500 ∧ zs.length ≤ 500 ∧ ∀ x H', Same H H' → TkAt A H' x c (ys ++ zs) → Q (.ref x) H'
/-- what the rows of a question's takes must be -/
structure GdR (wa : WA) (l : List KR) : Prop where
  ok : RowsOk wa.rs.length l
  nn : ∀ r ∈ l, ∀ x ∈ r.xs, 0 ≤ x
  us : ∀ r ∈ l, -1 ≤ r.us ∧ r.us < (wa.ts.length : Int)
structure MkOk (l : List KR) (a b : Int) (hs : List Int) : Prop where
  rng : ∀ h ∈ hs, a ≤ h ∧ h < b
  all : ∀ r ∈ l, mxs a r < b → mxs a r ∈ hs
theorem us_few {wa : WA} {l : List KR} (h : ∀ r ∈ l, -1 ≤ r.us ∧ r.us < (wa.ts.length : Int)) (h8 : wa.ts.length ≤ 8) : ∃ ps : List Int, ps.length ≤ 11 ∧ ∀ r ∈ l, r.us ∈ ps := by
  refine ⟨[-1, 0, 1, 2, 3, 4, 5, 6, 7], by decide, fun r hr => ?_⟩
  obtain ⟨h1, h2⟩ := h r hr
  have : r.us = -1 ∨ r.us = 0 ∨ r.us = 1 ∨ r.us = 2 ∨ r.us = 3 ∨ r.us = 4 ∨ r.us = 5 ∨ r.us = 6 ∨ r.us = 7 := by omega
  simpa using this
theorem inMk_of {mk : List Int} {r : KR} {h : Int} (m : h ∈ mk) (h1 : r.bg ≤ h) (h2 : h < r.en) : inMk mk r = true := by
  unfold inMk
  rw [decide_eq_true_iff]
  exact List.ne_nil_of_mem (List.mem_filter.mpr ⟨m, by rw [decide_eq_true h1, decide_eq_true h2]; rfl⟩)
theorem inMk_get {mk : List Int} {r : KR} (h : inMk mk r = true) : ∃ h ∈ mk, r.bg ≤ h ∧ h < r.en := by
  unfold inMk at h
  rw [decide_eq_true_iff] at h
  obtain ⟨x, hx⟩ := List.exists_mem_of_ne_nil _ h
  obtain ⟨h1, h2⟩ := List.mem_filter.mp hx
  rw [Bool.and_eq_true, decide_eq_true_iff, decide_eq_true_iff] at h2
  exact ⟨x, h1, h2⟩
structure QR where
  a : Addr
  m : Nat
  x : Int
  y : Int
structure QRAt (H : Hp) (q : QR) : Prop where
  e : H q.a = some (.tup [.int (q.m : Int), .int q.x, .int q.y])
structure QsOk (H : Hp) (wa : WA) (ps : List Int) (qs : List QR) : Prop where
  at_ : ∀ q ∈ qs, QRAt H q
  ok : ∀ q ∈ qs, QOk wa ps q.m q.x q.y
structure GdQ (wa : WA) (ps : List Int) (l : List KR) : Prop where
  k3 : ∀ r ∈ l, K3 wa ps r
  l2 : l.length ≤ 200
theorem GdQ.r {wa : WA} {ps : List Int} {l : List KR} (h : GdQ wa ps l) (h11 : ps.length ≤ 11) : GdR wa l :=
  ⟨⟨fun r hr => (h.k3 r hr).len, h.l2, ps, h11, fun r hr => (h.k3 r hr).bg⟩, fun r hr => (h.k3 r hr).nn, fun r hr => (h.k3 r hr).us⟩
structure HsL (H : Hp) (D : Addr) (mk : List Int) (a b : Int) (i : Nat) : Prop where
  e : H D = some (.lst (((mk.take i).filter fun h => decide (a ≤ h) && decide (h < b)).map V.int))
theorem inV_ints (x : Int) : ∀ ns : List Int, inV (.int x) (ns.map V.int) = decide (x ∈ ns)
  | [] => rfl
  | n :: ns => by
    have ih := inV_ints x ns
    unfold inV at *
    rw [List.map_cons, List.any_cons, ih]
    by_cases h : x = n
    · subst h
      simp [eqV]
    · have h2 : ¬ n = x := fun z => h z.symm
      simp [eqV, h, h2]
local macro_rules | `(tactic| walk_at "gb leaf") => `(tactic| ((with_reducible show TyX _ _ _ _); first | exact .base (.ins (by walk_at "gb hp") (by assumption : Txt _ _ _).cl_Cluster (by assumption : Txt _ _ _).k1_Cluster (by assumption : Txt _ _ _).kg (by assumption : Txt _ _ _).kt (by assumption : Txt _ _ _).k4_Cluster) | exact .base (.ins (by walk_at "gb hp") (by assumption : Txt _ _ _).cl_Takes (by assumption : Txt _ _ _).k1_Takes (by assumption : Txt _ _ _).kg (by assumption : Txt _ _ _).kt (by assumption : Txt _ _ _).k4_Takes) | fail))
structure DueL (H : Hp) (D : Addr) (mk : List Int) (i : Nat) : Prop where
  ex : ∃ us : List Int, H D = some (.lst (us.map V.int)) ∧ us.length ≤ i ∧ us.Pairwise (· < ·) ∧ ∀ x, x ∈ us ↔ x ∈ mk.take i
theorem DueL.no {H : Hp} {D : Addr} {mk us : List Int} {i : Nat} {x : Int} (hx : mk[i]? = some x) (e : H D = some (.lst (us.map V.int))) (hl : us.length ≤ i) (hp : us.Pairwise (· < ·)) (hm : ∀ x, x ∈ us ↔ x ∈ mk.take i) (h : x ∈ us) : DueL H D mk (i + 1) := by
  refine ⟨us, e, by omega, hp, fun y => ?_⟩
  rw [List.take_succ, hx, List.mem_append, hm y]
  constructor
  · exact .inl
  · rintro (z | z)
    · exact z
    · have z : y ∈ [x] := z
      rw [List.mem_singleton.mp z]
      exact (hm x).mp h
theorem DueL.yes {H : Hp} {D : Addr} {mk us : List Int} {i : Nat} {x : Int} (hx : mk[i]? = some x) (e : H D = some (.lst (us.map V.int ++ [V.int x]))) (hl : us.length ≤ i) (hp : us.Pairwise (· < ·)) (hm : ∀ x, x ∈ us ↔ x ∈ mk.take i) (hs : mk.Pairwise (· ≤ ·)) (h : ¬ x ∈ us) : DueL H D mk (i + 1) := by
  refine ⟨us ++ [x], by rw [e, List.map_append]; rfl, by rw [List.length_append]; exact Nat.succ_le_succ hl, ?_, fun y => ?_⟩
  · refine List.pairwise_append.mpr ⟨hp, List.pairwise_singleton _ _, fun y hy z hz => ?_⟩
    rw [List.mem_singleton.mp hz]
    have h1 : y ≤ x := by
      have hy' := (hm y).mp hy
      obtain ⟨j, hj, ej⟩ := List.getElem_of_mem hy'
      rw [List.length_take] at hj
      rw [List.getElem_take] at ej
      obtain ⟨hi, ei⟩ := List.getElem?_eq_some_iff.mp hx
      have := List.pairwise_iff_getElem.mp hs j i (by omega) hi (by omega)
      rw [ej, ei] at this
      exact this
    have h2 : y ≠ x := fun z => h (z ▸ hy)
    omega
  · rw [List.take_succ, hx, List.mem_append, List.mem_append, hm y]
    rfl
theorem fresh_of {H H9 : Hp} {p : Addr} (s : Same H H9) (h : H9 p = none) : H p = none := by
  cases e : H p with
  | none => rfl
  | some o => rw [s _ _ e] at h; cases h
theorem asc_le {us ps : List Int} {P : Int → Prop} (h : Asc us P) (g : ∀ x, P x → x ∈ ps) : us.length ≤ ps.length := nd_le (h.lt.imp fun z => by omega) fun x hx => g x ((h.mem x).mp hx)
theorem QsOk.mono {H H' : Hp} {wa : WA} {ps : List Int} {qs : List QR} (h : QsOk H wa ps qs) (s : Tups H H') : QsOk H' wa ps qs := ⟨fun q hq => ⟨s _ _ (h.at_ q hq).e⟩, h.ok⟩
theorem GdQ.en {wa : WA} {ps : List Int} {l : List KR} (h : GdQ wa ps l) (h11 : ps.length ≤ 11) : ∃ qs : List Int, qs.length ≤ 30 ∧ ∀ r ∈ l, r.en ∈ qs := ⟨ps ++ ps.map (· + 1), by rw [List.length_append, List.length_map]; omega, fun r hr => (h.k3 r hr).en⟩
theorem HsL.yes {H : Hp} {D : Addr} {mk : List Int} {a b z : Int} {i : Nat} (hz : mk[i]? = some z) (h1 : a ≤ z) (h2 : z < b) (e : H D = some (.lst (((mk.take i).filter fun h => decide (a ≤ h) && decide (h < b)).map V.int ++ [V.int z]))) : HsL H D mk a b (i + 1) := by
  refine ⟨?_⟩
  have hts : mk.take (i + 1) = mk.take i ++ [z] := by rw [List.take_succ, hz]; rfl
  rw [hts, List.filter_append, List.filter_cons, if_pos (by rw [decide_eq_true h1, decide_eq_true h2]; rfl), List.map_append]
  exact e
theorem HsL.no {H : Hp} {D : Addr} {mk : List Int} {a b z : Int} {i : Nat} (hz : mk[i]? = some z) (h1 : (decide (a ≤ z) && decide (z < b)) = false) (e : H D = some (.lst (((mk.take i).filter fun h => decide (a ≤ h) && decide (h < b)).map V.int))) : HsL H D mk a b (i + 1) := by
  refine ⟨?_⟩
  have hts : mk.take (i + 1) = mk.take i ++ [z] := by rw [List.take_succ, hz]; rfl
  rw [hts, List.filter_append, List.filter_cons, if_neg (by rw [h1]; decide), List.filter_nil, List.append_nil]
  exact e
structure Rows3 (H : Hp) (D : Addr) (wa : WA) (ps : List Int) (n : Nat) : Prop where
  ex : ∃ rl : List KR, H D = some (.lst (rl.map fun r => V.ref r.a)) ∧ rl.length = n ∧ RowsAt H rl ∧ ∀ r ∈ rl, K3 wa ps r
theorem Rows3.snoc {H H' : Hp} {D : Addr} {wa : WA} {ps : List Int} {n : Nat} {rl : List KR} {r : KR} (hl : rl.length = n) (ha : RowsAt H rl) (ho : ∀ r ∈ rl, K3 wa ps r) (t : Tups H H') (e : H' D = some (.lst (rl.map fun r => V.ref r.a))) (hr : KRAt H' r) (hk : K3 wa ps r) :
    Rows3 (upd H' D (.lst ((rl.map fun r => V.ref r.a) ++ [.ref r.a]))) D wa ps (n + 1) :=
  ⟨rl ++ [r], by rw [upd_same, List.map_append]; rfl, by rw [List.length_append, hl]; rfl, ⟨fun q hq => (List.mem_append.mp hq).elim (fun m => (ha.all q m).mono (t.trans (tups_put e))) fun m => by rw [List.mem_singleton.mp m]; exact hr.mono (tups_put e)⟩,
    fun q hq => (List.mem_append.mp hq).elim (ho q) fun m => by rw [List.mem_singleton.mp m]; exact hk⟩
structure QsL (H : Hp) (D : Addr) (wa : WA) (ps : List Int) (n : Nat) : Prop where
  ex : ∃ qs : List QR, H D = some (.lst (qs.map fun q => V.ref q.a)) ∧ qs.length = n ∧ QsOk H wa ps qs
theorem QsL.snoc {H H' : Hp} {D T : Addr} {wa : WA} {ps : List Int} {n : Nat} {qs : List QR} {m x y : Int} (hl : qs.length = n) (ho : QsOk H wa ps qs) (t : Tups H H') (e : H' D = some (.lst (qs.map fun q => V.ref q.a))) (hT : H' T = some (.tup [.int m, .int x, .int y])) (hk : QOk wa ps m x y) :
    QsL (upd H' D (.lst ((qs.map fun q => V.ref q.a) ++ [.ref T]))) D wa ps (n + 1) := by
  have hm : ((m.toNat : Nat) : Int) = m := by have := hk.mc.1; omega
  refine ⟨qs ++ [⟨T, m.toNat, x, y⟩], by rw [upd_same, List.map_append]; rfl, by rw [List.length_append, hl]; rfl, ⟨fun q hq => ?_, fun q hq => ?_⟩⟩
  · rcases List.mem_append.mp hq with z | z
    · exact ⟨(t.trans (tups_put e)) _ _ (ho.at_ q z).e⟩
    · rw [List.mem_singleton.mp z]
      exact ⟨(tups_put e) _ _ (by show H' T = some (.tup [.int ((m.toNat : Nat) : Int), .int x, .int y]); rw [hm]; exact hT)⟩
  · rcases List.mem_append.mp hq with z | z
    · exact ho.ok q z
    · rw [List.mem_singleton.mp z]
      show QOk wa ps ((m.toNat : Nat) : Int) x y
      rw [hm]; exact hk
theorem TkAt.put {A : Adr} {H : Hp} {x c L : Addr} {ys zs : List V} {o : HO} (h : TkAt A H x c ys) (e : H L = some (.lst zs)) : TkAt A (upd H L o) x c ys :=
  let ⟨dx, t, a, b⟩ := h.ex; ⟨dx, t, by rw [upd_ne (fun z => by rw [z, e] at a; cases a)]; exact a, by rw [upd_ne (fun z => by rw [z, e] at b; cases b)]; exact b⟩
structure Bs (A : Adr) (H : Hp) (wd : Addr) (wa : WA) (sc : Int) (pt : Addr) (ps : List Int) (D : Addr) (rl : List KR) (E : Addr) (el : List KR) (S : Addr) (qs : List QR) (c : Addr) : Prop where
  w : Wd H wd wa sc
  p : H pt = some (.lst (ps.map V.int))
  d : H D = some (.lst (rl.map fun r => V.ref r.a))
  e : H E = some (.lst (el.map fun r => V.ref r.a))
  q : H S = some (.lst (qs.map fun q => V.ref q.a))
  rd : RowsAt H rl
  re : RowsAt H el
  qo : QsOk H wa ps qs
  c : CAt A H c wa
theorem Bs.mono {A : Adr} {H H' : Hp} {wd : Addr} {wa : WA} {sc : Int} {pt : Addr} {ps : List Int} {D : Addr} {rl : List KR} {E : Addr} {el : List KR} {S : Addr} {qs : List QR} {c : Addr} (h : Bs A H wd wa sc pt ps D rl E el S qs c) (s : Same H H') : Bs A H' wd wa sc pt ps D rl E el S qs c :=
  ⟨h.w.mono s, s _ _ h.p, s _ _ h.d, s _ _ h.e, s _ _ h.q, h.rd.mono (Same.tups s), h.re.mono (Same.tups s), h.qo.mono (Same.tups s), h.c.fr s⟩
local macro_rules | `(tactic| walk_at "gb leaf") => `(tactic| ((with_reducible show TkB _ _ _ _); first | exact ⟨.inl (by walk_at "gb hp")⟩ | exact ⟨.inr ⟨_, _, _, (by walk_at "gb hp"), (by walk_at "gb hp")⟩⟩ | fail))
local macro_rules | `(tactic| walk_at "gb leaf") => `(tactic| ((with_reducible show PySem.W.notFirst _ _ _ = true); exact notFirst_self))
theorem CAt.ins {A : Adr} {H : Hp} {c : Addr} {w : WA} (h : CAt A H c w) : ∃ dx pt rt mt gt tt tot, H c = some (.ins A.c_Cluster dx (clfl pt rt mt gt tt tot)) := by
  obtain ⟨dx, pt, rt, mt, gt, tt, tot, _, _, _, _, _, _, _, e, _⟩ := h.ex
  exact ⟨dx, pt, rt, mt, gt, tt, tot, e⟩

def spStageOf (A : Adr) : Sp := fun vs H Q _ => ∃ (c g : Addr) (w : WA) (ti si : Nat) (r : TR) (q : SR), vs = [.ref c, .ref g] ∧ CAt A H c w ∧ H g = some (.tup [.int (ti : Int), .int (si : Int)]) ∧ w.ts[ti]? = some r ∧ r.st[si]? = some q ∧ ∀ x, StOb A H x q → Q (.ref x) H
/-- how often xs fits into what is left of us, at the resource k -/
def rmC (us xs : List Int) (k : Nat) : Int := (if 0 > us.getD k 0 then 0 else us.getD k 0) / (xs.getD k 0)
structure RoomAt (us xs : List Int) (c : Int) (k : Nat) : Prop where
  lt : k < xs.length
  pos : 0 < xs.getD k 0
  val : c = rmC us xs k
  le : ∀ j, j < xs.length → 0 < xs.getD j 0 → c < rmC us xs j ∨ (c = rmC us xs j ∧ k ≤ j)
def spRoomOf (A : Adr) : Sp := fun vs H Q _ => ∃ (x y : Addr) (us xs : List Int), vs = [.ref x, .ref y] ∧ AmtAt A H x us ∧ AmtAt A H y xs ∧ us.length = xs.length ∧ xs.length ≤ 3 ∧ (∃ z ∈ xs, 0 < z) ∧ (∀ z ∈ xs, z ≤ 9999) ∧ ∀ T (c : Int) (k : Nat) H', Same H H' → H' T = some (.tup [.int c, .int (k : Int)]) → RoomAt us xs c k → Q (.ref T) H'
/-- the pairs that a list of references tells -/
structure Prs (H : Hp) (D : Addr) (us xs : List Int) (i : Nat) : Prop where
  ex : ∃ L : List (Addr × T2), H D = some (.lst (L.map fun p => V.ref p.1)) ∧ (∀ p ∈ L, H p.1 = some (.tup (p.2.l.map V.int))) ∧ L.length ≤ i ∧ ∀ p : T2, (∃ q ∈ L, q.2 = p) ↔ ∃ j : Nat, j < i ∧ 0 < xs.getD j 0 ∧ p = ⟨rmC us xs j, (j : Int)⟩
def barB (r : TR) (q : MR) (w : Str) : Bool := (nAft w r.ws).any fun z => decide (z ∈ q.lb)
def needB (r : TR) (q : MR) : Bool := (nAft (Str.ofString "needs") r.ws).all fun z => decide (z ∈ q.lb)
def meetB (ts : List TR) (r : TR) (l : List KR) (m a b : Int) : Bool := (comm l m a b).any fun k => decide (k.us ∈ foesN ts r ts.length)
def barO (ts : List TR) (r : TR) (q : MR) (l : List KR) (m a b : Int) (out : List Int) : Option Str :=
  if m ∈ out then some (Str.ofString "barred") else if needB r q = false then some (Str.ofString "needs") else if barB r q (Str.ofString "bars") = true then some (Str.ofString "bars") else if meetB ts r l m a b = true then some (Str.ofString "never") else none
def optV : Option Str → V
  | none => .non
  | some z => .str z
/-- a question of bounds: takes, a gang, a span, who is barred -/
structure BqAt (K : PySem.W.Frag) (A : Adr) (H : Hp) (x g y o : Addr) (c : Addr) (w : WA) (l : List KR) (ti si : Nat) (r : TR) (sq : SR) (a b : Int) (out : List Int) : Prop where
  tk : ∃ dx t, H x = some (.ins A.c_Takes dx (tkfl c t)) ∧ H t = some (.tup (l.map fun r => V.ref r.a))
  rows : RowsAt H l
  cl : CAt A H c w
  ms : MsAt H w.ms
  wo : WOk w
  gd : GdR w l
  g : H g = some (.tup [.int (ti : Int), .int (si : Int)])
  ht : w.ts[ti]? = some r
  hs : r.st[si]? = some sq
  y : ∃ dy, H y = some (.ins A.c_Span dy (spfl a b))
  o : SqT K H o (out.map V.int)
  ol : out.length ≤ 10
theorem SqT.sm {K : PySem.W.Frag} {H H' : Hp} {a : Addr} {xs : List V} (h : SqT K H a xs) (s : Same H H') : SqT K H' a xs := SqT.ext h fun a o e => s a o e
theorem BqAt.mono {K : PySem.W.Frag} {A : Adr} {H H' : Hp} {x g y o c : Addr} {w : WA} {l : List KR} {ti si : Nat} {r : TR} {sq : SR} {a b : Int} {out : List Int} (h : BqAt K A H x g y o c w l ti si r sq a b out) (s : Same H H') : BqAt K A H' x g y o c w l ti si r sq a b out :=
  ⟨let ⟨dx, t, e1, e2⟩ := h.tk; ⟨dx, t, s _ _ e1, s _ _ e2⟩, h.rows.mono (Same.tups s), h.cl.fr s, h.ms.mono (Same.tups s), h.wo, h.gd, s _ _ h.g, h.ht, h.hs, let ⟨dy, e⟩ := h.y; ⟨dy, s _ _ e⟩, SqT.sm h.o s, h.ol⟩
def spBar (A : Adr) (K : PySem.W.Frag) : Sp := fun vs H Q _ => ∃ (x g y o c : Addr) (w : WA) (l : List KR) (ti si : Nat) (r : TR) (sq : SR) (a b : Int) (out : List Int) (m : Nat) (q : MR), vs = [.ref x, .ref g, .ref y, .ref o, .int (m : Int)] ∧ BqAt K A H x g y o c w l ti si r sq a b out ∧ w.ms[m]? = some q ∧ ∀ H', Same H H' → Q (optV (barO w.ts r q l m a b out)) H'
def apartB (r : TR) : Bool := inV (.str (Str.ofString "apart")) (r.ws.map V.str)
structure BndAt (ts : List TR) (r : TR) (q : MR) (sq : SR) (l : List KR) (m a b : Int) (out : List Int) (c : Int) (v : V) : Prop where
  ex : (∃ z, barO ts r q l m a b out = some z ∧ c = 0 ∧ v = .str z) ∨ (barO ts r q l m a b out = none ∧ ∃ (us : List Int) (c0 : Int) (k : Nat), LeastIn q.xs l m a b us ∧ RoomAt us sq.xs c0 k ∧ ((apartB r = true ∧ 1 < c0 ∧ c = 1 ∧ v = .str (Str.ofString "apart")) ∨ ((apartB r = false ∨ ¬ 1 < c0) ∧ c = c0 ∧ v = .int (k : Int))))
def spBound (A : Adr) (K : PySem.W.Frag) : Sp := fun vs H Q _ => ∃ (x g y o c : Addr) (w : WA) (l : List KR) (ti si : Nat) (r : TR) (sq : SR) (a b : Int) (out : List Int) (m : Nat) (q : MR), vs = [.ref x, .ref g, .ref y, .ref o, .int (m : Int)] ∧ BqAt K A H x g y o c w l ti si r sq a b out ∧ w.ms[m]? = some q ∧
  ∀ T c1 v H', Same H H' → H' T = some (.tup [.int c1, v]) → BndAt w.ts r q sq l m a b out c1 v → Q (.ref T) H'
structure BdsAt (H : Hp) (D : Addr) (w : WA) (r : TR) (sq : SR) (l : List KR) (a b : Int) (out : List Int) (n : Nat) : Prop where
  ex : ∃ L : List (Addr × Int × V), H D = some (.lst (L.map fun p => V.ref p.1)) ∧ L.length = n ∧ (∀ p ∈ L, H p.1 = some (.tup [.int p.2.1, p.2.2])) ∧ ∀ (m : Nat) p q, L[m]? = some p → w.ms[m]? = some q → BndAt w.ts r q sq l m a b out p.2.1 p.2.2
def spBounds (A : Adr) (K : PySem.W.Frag) : Sp := fun vs H Q _ => ∃ (x g y o c : Addr) (w : WA) (l : List KR) (ti si : Nat) (r : TR) (sq : SR) (a b : Int) (out : List Int), vs = [.ref x, .ref g, .ref y, .ref o] ∧ BqAt K A H x g y o c w l ti si r sq a b out ∧
  ∀ D H', H D = none → Same H H' → BdsAt H' D w r sq l a b out w.ms.length → Q (.ref D) H'
local macro_rules | `(tactic| walk_at "gb leaf") => `(tactic| ((with_reducible show CDiv _ _); exact And.intro (by omega) (by omega)))
local macro_rules | `(tactic| walk_at "gb leaf") => `(tactic| ((with_reducible show SqL _ _ _ _ ∨ _); exact Or.inr (by with_reducible assumption)))
/-- all but what is told from outside stays -/
def Kp (H H' : Hp) : Prop := ∀ a o, H a = some o → (∀ φ, o ≠ .ext φ) → H' a = some o
theorem kp_ez {H : Hp} {it jt T0 T : Addr} {p1 p2 : Heap → Prop} {o1 o2 o3 o4 : HO} (a : H it = some (.ext p1)) (b : H jt = some (.ext p2)) (h0 : H T0 = none) (h : upd (upd (upd H it o1) jt o2) T0 o3 T = none) : Kp H (upd (upd (upd (upd H it o1) jt o2) T0 o3) T o4) := fun c o e n => by
  have c1 : c ≠ it := fun z => by rw [z, a] at e; cases e; exact n _ rfl
  have c2 : c ≠ jt := fun z => by rw [z, b] at e; cases e; exact n _ rfl
  have c3 : c ≠ T0 := fun z => by rw [z, h0] at e; cases e
  have c4 : c ≠ T := fun z => by rw [← z, upd_ne c3, upd_ne c2, upd_ne c1, e] at h; cases h
  rw [upd_ne c4, upd_ne c3, upd_ne c2, upd_ne c1]
  exact e
theorem same_ez {H0 H : Hp} {it jt T0 T : Addr} {o1 o2 o3 o4 : HO} (s : Same H0 H) (a : H0 it = none) (b : H0 jt = none) (h0 : H T0 = none) (h : upd (upd (upd H it o1) jt o2) T0 o3 T = none) : Same H0 (upd (upd (upd (upd H it o1) jt o2) T0 o3) T o4) := fun c o e => by
  have c1 : c ≠ it := fun z => by rw [z, a] at e; cases e
  have c2 : c ≠ jt := fun z => by rw [z, b] at e; cases e
  have c3 : c ≠ T0 := fun z => by rw [z] at e; rw [s _ _ e] at h0; cases h0
  have c4 : c ≠ T := fun z => by rw [← z, upd_ne c3, upd_ne c2, upd_ne c1, s _ _ e] at h; cases h
  rw [upd_ne c4, upd_ne c3, upd_ne c2, upd_ne c1]
  exact s _ _ e
theorem Prs.kp {H H' : Hp} {D : Addr} {us xs : List Int} {i : Nat} (h : Prs H D us xs i) (k : Kp H H') : Prs H' D us xs i :=
  let ⟨L, e, t, l, m⟩ := h.ex; ⟨L, k _ _ e (fun _ z => by cases z), fun p hp => k _ _ (t p hp) (fun _ z => by cases z), l, m⟩
theorem Prs.no {H : Hp} {D : Addr} {us xs : List Int} {i : Nat} (h : Prs H D us xs i) (n : ¬ 0 < xs.getD i 0) : Prs H D us xs (i + 1) := by
  obtain ⟨L, e, t, l, m⟩ := h.ex
  refine ⟨L, e, t, by omega, fun p => (m p).trans ?_⟩
  constructor
  · rintro ⟨j, a, b, c⟩; exact ⟨j, by omega, b, c⟩
  · rintro ⟨j, a, b, c⟩
    by_cases z : j = i
    · rw [z] at b; exact absurd b n
    · exact ⟨j, by omega, b, c⟩
theorem Prs.yes {H : Hp} {D T : Addr} {us xs : List Int} {i : Nat} {L : List (Addr × T2)} (e : H D = some (.lst (L.map fun p => V.ref p.1))) (t : ∀ p ∈ L, H p.1 = some (.tup (p.2.l.map V.int))) (l : L.length ≤ i) (m : ∀ p : T2, (∃ q ∈ L, q.2 = p) ↔ ∃ j : Nat, j < i ∧ 0 < xs.getD j 0 ∧ p = ⟨rmC us xs j, (j : Int)⟩)
    (n : 0 < xs.getD i 0) (hT : H T = some (.tup [.int (rmC us xs i), .int (i : Int)])) : Prs (upd H D (.lst ((L.map fun p => V.ref p.1) ++ [.ref T]))) D us xs (i + 1) := by
  refine ⟨L ++ [(T, ⟨rmC us xs i, (i : Int)⟩)], by rw [upd_same, List.map_append]; rfl, fun p hp => ?_, by rw [List.length_append]; exact Nat.succ_le_succ l, fun p => ?_⟩
  · have e2 : H p.1 = some (.tup (p.2.l.map V.int)) := by
      rcases List.mem_append.mp hp with z | z
      · exact t p z
      · rw [List.mem_singleton.mp z]; exact hT
    rw [upd_ne (fun z => by rw [z, e] at e2; cases e2)]
    exact e2
  · constructor
    · rintro ⟨q, hq, rfl⟩
      rcases List.mem_append.mp hq with z | z
      · obtain ⟨j, a, b, c⟩ := (m q.2).mp ⟨q, z, rfl⟩
        exact ⟨j, by omega, b, c⟩
      · rw [List.mem_singleton.mp z]; exact ⟨i, by omega, n, rfl⟩
    · rintro ⟨j, a, b, rfl⟩
      by_cases z : j = i
      · exact ⟨_, List.mem_append_right _ (List.mem_singleton.mpr rfl), by rw [z]⟩
      · obtain ⟨q, hq, e3⟩ := (m _).mpr ⟨j, by omega, b, rfl⟩
        exact ⟨q, List.mem_append_left _ hq, e3⟩
theorem RoomAt.of {us xs : List Int} {L : List (Addr × T2)} {p : Addr × T2} (m : ∀ p : T2, (∃ q ∈ L, q.2 = p) ↔ ∃ j : Nat, j < xs.length ∧ 0 < xs.getD j 0 ∧ p = ⟨rmC us xs j, (j : Int)⟩) (hp : p ∈ L) (hle : ∀ q ∈ L, ¬ q.2.lt p.2) : ∃ (c : Int) (k : Nat), p.2 = ⟨c, (k : Int)⟩ ∧ RoomAt us xs c k := by
  obtain ⟨j, a, b, e⟩ := (m p.2).mp ⟨p, hp, rfl⟩
  refine ⟨rmC us xs j, j, e, a, b, rfl, fun i hi hp2 => ?_⟩
  obtain ⟨q, hq, e2⟩ := (m _).mpr ⟨i, hi, hp2, rfl⟩
  have := hle q hq
  rw [e, e2] at this
  unfold T2.lt at this
  simp only at this
  omega
section
variable {ts : List TR} {r : TR} {q : MR} {l : List KR} {m a b : Int} {out : List Int}
theorem barO_1 (h : m ∈ out) : barO ts r q l m a b out = some (Str.ofString "barred") := if_pos h
theorem barO_2 (h : ¬ m ∈ out) (h2 : needB r q = false) : barO ts r q l m a b out = some (Str.ofString "needs") := by unfold barO; rw [if_neg h, if_pos h2]
theorem barO_3 (h : ¬ m ∈ out) (h2 : needB r q = true) (h3 : barB r q (Str.ofString "bars") = true) : barO ts r q l m a b out = some (Str.ofString "bars") := by unfold barO; rw [if_neg h, if_neg (by rw [h2]; decide), if_pos h3]
theorem barO_4 (h : ¬ m ∈ out) (h2 : needB r q = true) (h3 : barB r q (Str.ofString "bars") = false) (h4 : meetB ts r l m a b = true) : barO ts r q l m a b out = some (Str.ofString "never") := by
  unfold barO; rw [if_neg h, if_neg (by rw [h2]; decide), if_neg (by rw [h3]; decide), if_pos h4]
theorem barO_5 (h : ¬ m ∈ out) (h2 : needB r q = true) (h3 : barB r q (Str.ofString "bars") = false) (h4 : meetB ts r l m a b = false) : barO ts r q l m a b out = none := by
  unfold barO; rw [if_neg h, if_neg (by rw [h2]; decide), if_neg (by rw [h3]; decide), if_neg (by rw [h4]; decide)]
end
theorem all_id {α : Type} (f : α → Bool) (l : List α) : (l.map f).all id = l.all f := by rw [List.all_map]; rfl
theorem any_id {α : Type} (f : α → Bool) (l : List α) : (l.map f).any id = l.any f := by rw [List.any_map]; rfl
theorem meet_users {ts : List TR} {r : TR} {l : List KR} {m a b : Int} {us : List Int} (h : Asc us (fun u => u ≠ -1 ∧ ∃ r ∈ comm l m a b, r.us = u)) : (us.any fun u => decide (u ∈ foesN ts r ts.length)) = meetB ts r l m a b := by
  rw [Bool.eq_iff_iff, List.any_eq_true]
  unfold meetB
  rw [List.any_eq_true]
  constructor
  · rintro ⟨u, hu, d⟩
    obtain ⟨_, k, hk, e⟩ := (h.mem u).mp hu
    exact ⟨k, hk, by rw [e]; exact d⟩
  · rintro ⟨k, hk, d⟩
    refine ⟨k.us, (h.mem _).mpr ⟨fun z => ?_, k, hk, rfl⟩, d⟩
    have d := of_decide_eq_true d
    rw [z] at d
    unfold foesN at d
    obtain ⟨j, _, e⟩ := List.mem_map.mp d
    omega
theorem BdsAt.snoc {H H2 : Hp} {D T : Addr} {w : WA} {r : TR} {sq : SR} {l : List KR} {a b : Int} {out : List Int} {i : Nat} {L : List (Addr × Int × V)} {q : MR} {c : Int} {v : V} (eL : H D = some (.lst (L.map fun p => V.ref p.1))) (hl : L.length = i) (ht : ∀ p ∈ L, H p.1 = some (.tup [.int p.2.1, p.2.2]))
    (hb : ∀ (m : Nat) p q, L[m]? = some p → w.ms[m]? = some q → BndAt w.ts r q sq l m a b out p.2.1 p.2.2) (s : Same H H2) (eT : H2 T = some (.tup [.int c, v])) (hq : w.ms[i]? = some q) (hB : BndAt w.ts r q sq l i a b out c v) : BdsAt (upd H2 D (.lst ((L.map fun p => V.ref p.1) ++ [.ref T]))) D w r sq l a b out (i + 1) := by
  refine ⟨L ++ [(T, c, v)], by rw [upd_same, List.map_append]; rfl, by rw [List.length_append, hl]; rfl, fun p hp => ?_, fun m p q2 hm hq2 => ?_⟩
  · have e2 : H2 p.1 = some (.tup [.int p.2.1, p.2.2]) := by
      rcases List.mem_append.mp hp with z | z
      · exact s _ _ (ht p z)
      · rw [List.mem_singleton.mp z]; exact eT
    rw [upd_ne (fun z => by rw [z, s _ _ eL] at e2; cases e2)]
    exact e2
  · by_cases z : m < L.length
    · rw [List.getElem?_append_left z] at hm
      exact hb m p q2 hm hq2
    · rw [List.getElem?_append_right (by omega)] at hm
      have hm2 := (List.getElem?_eq_some_iff.mp hm).1
      rw [List.length_singleton] at hm2
      obtain rfl : m = i := by omega
      rw [hl, Nat.sub_self] at hm
      rw [hq] at hq2
      cases hq2
      cases hm
      exact hB
structure Wd7 (H : Hp) (a : Addr) (w : WA) (sc bs sp : Int) : Prop where
  e : H a = some (.lst [.ref w.ra, .ref w.ma, .ref w.ga, .ref w.ta, .int sc, .int bs, .int sp])
  w : WAt H w
theorem Wd7.ext {H H' : Hp} {a : Addr} {w : WA} {sc bs sp : Int} (h : Wd7 H a w sc bs sp) (s : LamX.ExtN H H') : Wd7 H' a w sc bs sp := ⟨ext_hp s h.e (fun _ z => by cases z), h.w.ext s⟩
theorem Wd7.mono {H H' : Hp} {a : Addr} {w : WA} {sc bs sp : Int} (h : Wd7 H a w sc bs sp) (s : Same H H') : Wd7 H' a w sc bs sp := h.ext (ext_same s)
theorem Wd7.but {H H' : Hp} {p a : Addr} {w : WA} {sc bs sp : Int} (h : Wd7 H a w sc bs sp) (n : WNe p a w) (P : P3 H p) (s : SameBut p H H') : Wd7 H' a w sc bs sp :=
  have t := p3_tups s P
  ⟨s _ _ n.a h.e, s _ _ n.r h.w.r, s _ _ n.m h.w.m, s _ _ n.g h.w.g, s _ _ n.t h.w.t, h.w.mm.mono t, h.w.gg.mono t, h.w.tt.mono t⟩
local macro_rules | `(tactic| walk_at "gb leaf") => `(tactic| ((with_reducible show Wd7 _ _ _ _ _ _); first | assumption | exact Wd7.mono (by assumption) (by walk_at "gb same") | exact Wd7.but (by assumption) (by assumption) (by walk_at "gb pool") (by assumption) | fail))
structure Ck (bs sp : Int) : Prop where
  b : 0 ≤ bs ∧ bs ≤ 98901
  s : 1 ≤ sp ∧ sp ≤ 50
def spClock : Sp := fun vs H Q _ => ∃ p : Addr, vs = [.ref p] ∧ P3 H p ∧ ∀ l (bs sp : Int) H', l ≠ p → H' l = some (.lst [.int bs, .int sp]) → Ck bs sp → P3 H' p → SameBut p H H' → Q (.ref l) H'
structure SpOk (bs sp x y : Int) : Prop where
  ex : ∃ i j : Nat, x = bs + sp * i ∧ y = bs + sp * j ∧ i < j ∧ j ≤ 7
def spSpan7 : Sp := fun vs H Q _ => ∃ (p a : Addr) (wa : WA) (sc bs sp : Int), vs = [.ref p, .ref a] ∧ P3 H p ∧ Wd7 H a wa sc bs sp ∧ Ck bs sp ∧ WNe p a wa ∧ ∀ t (x y : Int) H', H' t = some (.tup [.int x, .int y]) → SpOk bs sp x y → P3 H' p → SameBut p H H' → Q (.ref t) H'
structure K7 (wa : WA) (bs sp : Int) (r : KR) : Prop where
  mc : 0 ≤ r.mc ∧ r.mc < (wa.ms.length : Int)
  sp : SpOk bs sp r.bg r.en
  len : r.xs.length = wa.rs.length
  nn : ∀ x ∈ r.xs, 0 ≤ x
  us : -1 ≤ r.us ∧ r.us < (wa.ts.length : Int)
def spTaken7 : Sp := fun vs H Q _ => ∃ (p a : Addr) (wa : WA) (sc bs sp : Int), vs = [.ref p, .ref a] ∧ P3 H p ∧ Wd7 H a wa sc bs sp ∧ Ck bs sp ∧ WOk wa ∧ 1 ≤ sc ∧ sc ≤ 1000 ∧ WNe p a wa ∧ ∀ (r : KR) H', KRAt H' r → K7 wa bs sp r → P3 H' p → SameBut p H H' → Q (.ref r.a) H'
def spSpare7 : Sp := fun vs H Q _ => ∃ (a b : Addr) (wa : WA) (sc bs sp : Int) (l : List KR) (m : Nat) (h : Int) (r : MR), vs = [.ref a, .ref b, .int (m : Int), .int h] ∧ Wd7 H a wa sc bs sp ∧ WOk wa ∧ H b = some (.lst (l.map fun r => V.ref r.a)) ∧ RowsAt H l ∧ (∀ q ∈ l, q.xs.length = wa.rs.length) ∧ wa.ms[m]? = some r ∧
  ∀ D fl H', H D = none → IsFr fl r.xs l m h → Same H H' → H' D = some (.lst (fl.map V.int)) → Q (.ref D) H'
/-- a gang of the world -/
structure GgAt (H : Hp) (wa : WA) (g : Addr) (ti si : Nat) (r : TR) (sq : SR) : Prop where
  g : H g = some (.tup [.int (ti : Int), .int (si : Int)])
  t : wa.ts[ti]? = some r
  s : r.st[si]? = some sq
theorem GgAt.mono {H H' : Hp} {wa : WA} {g : Addr} {ti si : Nat} {r : TR} {sq : SR} (h : GgAt H wa g ti si r sq) (s : Same H H') : GgAt H' wa g ti si r sq := ⟨s _ _ h.g, h.t, h.s⟩
local macro_rules | `(tactic| walk_at "gb leaf") => `(tactic| ((with_reducible show GgAt _ _ _ _ _ _ _); first | assumption | exact GgAt.mono (by assumption) (by walk_at "gb same") | fail))
def spWished : Sp := fun vs H Q _ => ∃ (a g : Addr) (wa : WA) (sc bs sp : Int) (ti si : Nat) (r : TR) (sq : SR) (w : Str), vs = [.ref a, .ref g, .str (w ++ Str.ofString ":")] ∧ Wd7 H a wa sc bs sp ∧ WOk wa ∧ GgAt H wa g ti si r sq ∧ w.length ≤ 5 ∧ ∀ D H', Same H H' → H' D = some (.lst ((nAft w r.ws).map V.str)) → Q (.ref D) H'
structure FoeL (ts : List TR) (r : TR) (us : List Int) : Prop where
  len : us.length ≤ 16
  mem : ∀ k, k ∈ us ↔ k ∈ foesN ts r ts.length
def spFoes7 : Sp := fun vs H Q _ => ∃ (a g : Addr) (wa : WA) (sc bs sp : Int) (ti si : Nat) (r : TR) (sq : SR), vs = [.ref a, .ref g] ∧ Wd7 H a wa sc bs sp ∧ WOk wa ∧ GgAt H wa g ti si r sq ∧ ∀ D us H', Same H H' → H' D = some (.lst (us.map V.int)) → FoeL wa.ts r us → Q (.ref D) H'
def meetM (ts : List TR) (r : TR) (l : List KR) (m : Int) (hs : List Int) : Bool := l.any fun k => decide (k.mc = m) && decide (k.us ∈ foesN ts r ts.length) && inMk hs k
def spMeets : Sp := fun vs H Q _ => ∃ (a b g c : Addr) (wa : WA) (sc bs sp : Int) (l : List KR) (ti si : Nat) (r : TR) (sq : SR) (m : Int) (hs : List Int), vs = [.ref a, .ref b, .ref g, .int m, .ref c] ∧ Wd7 H a wa sc bs sp ∧ WOk wa ∧ H b = some (.lst (l.map fun r => V.ref r.a)) ∧ RowsAt H l ∧ GgAt H wa g ti si r sq ∧ H c = some (.lst (hs.map V.int)) ∧ hs.length ≤ 100 ∧ ∀ H', Same H H' → Q (.bl (meetM wa.ts r l m hs)) H'
theorem cut_sw (z x : Str) : cutS z none (some ((x.length : Nat) : Int)) = x ↔ Txt.startswith z x = true := by
  have e : cutS z none (some ((x.length : Nat) : Int)) = S ((tl z).take x.length) := by
    unfold cutS
    rw [HT.sIx_none, HT.sIx_nat, List.drop_zero, Nat.sub_zero]
    show S _ = S _
    congr 1
    show List.take (min x.length z.length) (tl z) = List.take x.length (tl z)
    rw [TL.len_tl z]
    by_cases h : x.length ≤ (tl z).length
    · rw [Nat.min_eq_left h]
    · rw [Nat.min_eq_right (by omega), List.take_length, List.take_of_length_le (by omega)]
  rw [e]
  unfold Txt.startswith
  rw [Bool.and_eq_true, PySem.StrLaws.subAt_eq, List.drop_zero, beq_iff_eq]
  constructor
  · intro h
    have h2 : (tl z).take x.length = tl x := by
      have := congrArg tl h
      simpa [tl, S] using this
    refine ⟨?_, h2⟩
    have := congrArg List.length h2
    rw [List.length_take] at this
    have e1 := TL.len_tl x
    have e2 := TL.len_tl z
    simp
    omega
  · rintro ⟨_, h⟩
    have h : (tl z).take x.length = tl x := h
    rw [h]
theorem meet_no {ts : List TR} {r : TR} {l : List KR} {m : Int} {hs : List Int} {i : Nat} {q : KR} (h : meetM ts r (l.take i) m hs = false) (e : l[i]? = some q) (n : (decide (q.mc = m) && decide (q.us ∈ foesN ts r ts.length) && inMk hs q) = false) : meetM ts r (l.take (i + 1)) m hs = false := by
  unfold meetM at *
  rw [List.take_succ, e, List.any_append, h, Bool.false_or]
  show List.any [q] _ = false
  rw [List.any_cons, List.any_nil, Bool.or_false]
  exact n
theorem meet_yes {ts : List TR} {r : TR} {l : List KR} {m : Int} {hs : List Int} {q : KR} (h : q ∈ l) (n : (decide (q.mc = m) && decide (q.us ∈ foesN ts r ts.length) && inMk hs q) = true) : meetM ts r l m hs = true := List.any_eq_true.mpr ⟨q, h, n⟩
/-- both sides of never -/
theorem nev_split {z x : Str} (h : Txt.startswith z x = true) : cutS z (some ((x.length : Nat) : Int)) none = S ((tl z).drop x.length) ∧ z = S (tl x ++ (tl z).drop x.length) := by
  have ht : (tl z).take x.length = tl x := sw_take h
  have hl : x.length ≤ (tl z).length := by
    have := congrArg List.length ht
    rw [List.length_take] at this
    have e1 := TL.len_tl x
    omega
  constructor
  · unfold cutS
    rw [HT.sIx_none, HT.sIx_nat]
    show S (((tl z).drop (min x.length z.length)).take _) = _
    rw [TL.len_tl z, Nat.min_eq_left hl, List.take_of_length_le (by rw [List.length_drop]; omega)]
  · rw [← ht, List.take_append_drop, S_tl]
theorem naft_mem {w n : Str} {ws : List Str} : n ∈ nAft w ws ↔ (w ++ Str.ofString ":") ++ n ∈ ws := by
  unfold nAft
  rw [List.mem_map]
  constructor
  · rintro ⟨z, hz, rfl⟩
    obtain ⟨h1, h2⟩ := List.mem_filter.mp hz
    obtain ⟨e1, e2⟩ := nev_split h2
    rw [e1]
    have : (w ++ Str.ofString ":") ++ S ((tl z).drop (w ++ Str.ofString ":").length) = z := by
      conv => rhs; rw [e2]
      rw [← S_tl ((w ++ Str.ofString ":") ++ S _), tl_append]
    rw [this]
    exact h1
  · intro h
    have hs : Txt.startswith ((w ++ Str.ofString ":") ++ n) (w ++ Str.ofString ":") = true := by
      unfold Txt.startswith
      rw [Bool.and_eq_true, PySem.StrLaws.subAt_eq, List.drop_zero, beq_iff_eq]
      refine ⟨decide_eq_true (by rw [Nat.zero_add, show ((w ++ Str.ofString ":") ++ n).length = (w ++ Str.ofString ":").length + n.length from Str.length_append ..]; omega), ?_⟩
      show (tl ((w ++ Str.ofString ":") ++ n)).take _ = tl (w ++ Str.ofString ":")
      rw [tl_append, TL.len_tl, List.take_left']
      rfl
    refine ⟨_, List.mem_filter.mpr ⟨h, hs⟩, ?_⟩
    rw [(nev_split hs).1, tl_append, TL.len_tl, List.drop_left']
    rfl
def idxN (ts : List TR) (p : TR → Bool) (n : Nat) : List Int := ((List.range n).filter fun k => (ts[k]?).any p).map fun k => ((k : Nat) : Int)
theorem idxN_succ {ts : List TR} {p : TR → Bool} {n : Nat} {q : TR} (h : ts[n]? = some q) : idxN ts p (n + 1) = idxN ts p n ++ (if p q = true then [((n : Nat) : Int)] else []) := by
  unfold idxN
  rw [List.range_succ, List.filter_append, List.map_append]
  congr 1
  show List.map _ (List.filter _ [n]) = _
  rw [List.filter_cons, h]
  by_cases hp : p q = true
  · rw [if_pos hp, if_pos (by simpa using hp)]; rfl
  · rw [if_neg hp, if_neg (by simpa using hp)]; rfl
theorem idxN_len {ts : List TR} {p : TR → Bool} {n : Nat} : (idxN ts p n).length ≤ n := by
  unfold idxN
  rw [List.length_map]
  exact Nat.le_trans (List.length_filter_le _ _) (by rw [List.length_range]; exact Nat.le_refl _)
theorem idxN_mem {ts : List TR} {p : TR → Bool} {n : Nat} {k : Int} : k ∈ idxN ts p n ↔ ∃ j : Nat, j < n ∧ k = (j : Int) ∧ (ts[j]?).any p = true := by
  unfold idxN
  rw [List.mem_map]
  constructor
  · rintro ⟨j, hj, rfl⟩
    obtain ⟨h1, h2⟩ := List.mem_filter.mp hj
    exact ⟨j, List.mem_range.mp h1, rfl, h2⟩
  · rintro ⟨j, hj, rfl, h⟩
    exact ⟨j, List.mem_filter.mpr ⟨List.mem_range.mpr hj, h⟩, rfl⟩
def foeA (r q : TR) : Bool := decide (q.nm ∈ nAft (Str.ofString "never") r.ws)
def foeB (r q : TR) : Bool := decide ((Str.ofString "never" ++ Str.ofString ":") ++ r.nm ∈ q.ws)
theorem foe_ab (r q : TR) : isFoe r q = (foeA r q || foeB r q) := by
  unfold isFoe foeA foeB
  congr 1
  exact decide_eq_decide.mpr naft_mem
theorem foeL_of {ts : List TR} {r : TR} (h8 : ts.length ≤ 8) : FoeL ts r (idxN ts (foeA r) ts.length ++ idxN ts (foeB r) ts.length) := by
  refine ⟨?_, fun k => ?_⟩
  · rw [List.length_append]
    have h1 := @idxN_len ts (foeA r) ts.length
    have h2 := @idxN_len ts (foeB r) ts.length
    omega
  · rw [List.mem_append, idxN_mem, idxN_mem]
    show _ ↔ k ∈ idxN ts (isFoe r) ts.length
    rw [idxN_mem]
    constructor
    · rintro (⟨j, a, b, c⟩ | ⟨j, a, b, c⟩)
      · refine ⟨j, a, b, ?_⟩
        cases e : ts[j]? with
        | none => rw [e] at c; cases c
        | some q =>
          rw [e] at c
          have c : foeA r q = true := c
          show isFoe r q = true
          rw [foe_ab, c]; rfl
      · refine ⟨j, a, b, ?_⟩
        cases e : ts[j]? with
        | none => rw [e] at c; cases c
        | some q =>
          rw [e] at c
          have c : foeB r q = true := c
          show isFoe r q = true
          rw [foe_ab, c, Bool.or_true]
    · rintro ⟨j, a, b, c⟩
      cases e : ts[j]? with
      | none => rw [e] at c; cases c
      | some q =>
        rw [e] at c
        have c : isFoe r q = true := c
        rw [foe_ab, Bool.or_eq_true] at c
        rcases c with c | c
        · exact .inl ⟨j, a, b, by rw [e]; exact c⟩
        · exact .inr ⟨j, a, b, by rw [e]; exact c⟩
theorem LowH.ex_ {xs : List Int} {l : List KR} {m : Int} : ∀ (hs pre us : List Int), LowH xs l m pre us → ∃ ws, LowH xs l m (pre ++ hs) ws
  | [], pre, us, h => ⟨us, by rw [List.append_nil]; exact h⟩
  | x :: hs, pre, us, h => by
    have h2 := LowH.step (h := x) (ws := (List.range us.length).map fun k => if fr xs l m x k < us.getD k 0 then fr xs l m x k else us.getD k 0) h (by rw [List.length_map, List.length_range]) fun k hk => by
      rw [List.getD_eq_getElem?_getD, List.getElem?_map, List.getElem?_range (by rw [h.len]; exact hk)]; rfl
    obtain ⟨ws, hw⟩ := LowH.ex_ hs (pre ++ [x]) _ h2
    exact ⟨ws, by rw [List.append_assoc] at hw; exact hw⟩
theorem LowH.least {xs us hs : List Int} {l : List KR} {m a b : Int} (q : LowH xs l m hs us) (nn : ∀ r ∈ l, ∀ x ∈ r.xs, 0 ≤ x) (k : MkOk l a b hs) : LeastIn xs l m a b us := by
  refine ⟨q.len, q.le0, fun i hi h h1 h2 => ?_, fun i hi => ?_⟩
  · rcases low_mark (xs := xs) (m := m) (k := i) nn h1 h2 with z | ⟨r, hr, z⟩
    · rw [z]; exact q.le0 i hi
    · obtain ⟨_, _, q2, _, _⟩ := inSp_mx (List.mem_filter.mp hr).2
      exact Int.le_trans (q.le i hi _ (k.all r (comm_mem hr) q2)) z
  · rcases q.ex i hi with z | ⟨g, hg, z⟩
    · exact .inl z
    · obtain ⟨g1, g2⟩ := k.rng g hg
      exact .inr ⟨g, g1, g2, z⟩
theorem fr_le {xs : List Int} {l : List KR} {m h : Int} {k : Nat} (nn : ∀ r ∈ l, ∀ x ∈ r.xs, 0 ≤ x) : fr xs l m h k ≤ xs.getD k 0 := by
  unfold fr
  have : 0 ≤ (usedK (rowsOn l m) h k).sum := by
    unfold usedK
    have key : ∀ L : List Int, (∀ x ∈ L, 0 ≤ x) → 0 ≤ L.sum := by
      intro L
      induction L with
      | nil => intro _; exact Int.le_refl _
      | cons y L ih =>
        intro hL
        have h1 := hL y List.mem_cons_self
        have h2 := ih fun x hx => hL x (List.mem_cons_of_mem _ hx)
        rw [List.sum_cons]; omega
    refine key _ fun x hx => ?_
    obtain ⟨r, hr, rfl⟩ := List.mem_map.mp hx
    exact getD_nn (nn r (rowsOn_mem.mp (List.mem_filter.mp hr).1).1) k
  omega
/-- how often it fits at an hour -/
def cntH (xs : List Int) (l : List KR) (m h n : Int) (k : Nat) : Int := (if fr xs l m h k > 0 then fr xs l m h k else 0) / n
theorem cnt_min {xs us hs ns : List Int} {l : List KR} {m c : Int} {k : Nat} (q : LowH xs l m hs us) (nn : ∀ r ∈ l, ∀ x ∈ r.xs, 0 ≤ x) (hk : k < xs.length) (hn : 0 < ns.getD k 0) (hne : hs ≠ []) (hm : c ∈ hs.map fun h => cntH xs l m h (ns.getD k 0) k) (hle : ∀ j ∈ hs.map fun h => cntH xs l m h (ns.getD k 0) k, c ≤ j) : c = rmC us ns k := by
  have mono : ∀ {a b : Int}, a ≤ b → (if 0 > a then 0 else a) / ns.getD k 0 ≤ (if b > 0 then b else 0) / ns.getD k 0 := fun {a b} h => Int.ediv_le_ediv hn (by split <;> split <;> omega)
  have low : rmC us ns k ≤ c := by
    obtain ⟨h, hh, rfl⟩ := List.mem_map.mp hm
    exact mono (q.le k hk h hh)
  have hex : ∃ h ∈ hs, us.getD k 0 = fr xs l m h k := by
    rcases q.ex k hk with z | z
    · obtain ⟨h, hh⟩ := List.exists_mem_of_ne_nil _ hne
      refine ⟨h, hh, ?_⟩
      have h1 := q.le k hk h hh
      have h2 := fr_le (xs := xs) (m := m) (h := h) (k := k) nn
      omega
    · exact z
  obtain ⟨h, hh, e⟩ := hex
  have := hle _ (List.mem_map.mpr ⟨h, hh, rfl⟩)
  have e2 : cntH xs l m h (ns.getD k 0) k = rmC us ns k := by
    unfold cntH rmC
    rw [← e]
    congr 1
    split <;> split <;> omega
  rw [e2] at this
  omega
theorem rmC_nn {us xs : List Int} {k : Nat} (h : 0 < xs.getD k 0) : 0 ≤ rmC us xs k := Int.ediv_nonneg (by split <;> omega) (by omega)
/-- the best of the first i -/
structure Bst (us xs : List Int) (i : Nat) (c k : Int) : Prop where
  ex : (c = -1 ∧ ∀ j, j < i → ¬ 0 < xs.getD j 0) ∨ ∃ kk : Nat, k = (kk : Int) ∧ kk < i ∧ 0 < xs.getD kk 0 ∧ c = rmC us xs kk ∧ 0 ≤ c ∧ ∀ j, j < i → 0 < xs.getD j 0 → c < rmC us xs j ∨ (c = rmC us xs j ∧ kk ≤ j)
theorem Bst.zero {us xs : List Int} {k : Int} : Bst us xs 0 (-1) k := ⟨.inl ⟨rfl, fun j hj => absurd hj (by omega)⟩⟩
theorem Bst.skip {us xs : List Int} {i : Nat} {c k : Int} (h : Bst us xs i c k) (n : ¬ 0 < xs.getD i 0) : Bst us xs (i + 1) c k := by
  rcases h.ex with ⟨a, b⟩ | ⟨kk, a, b, d, e, f, g⟩
  · refine ⟨.inl ⟨a, fun j hj => ?_⟩⟩
    by_cases z : j = i
    · rw [z]; exact n
    · exact b j (by omega)
  · refine ⟨.inr ⟨kk, a, by omega, d, e, f, fun j hj hp => ?_⟩⟩
    by_cases z : j = i
    · rw [z] at hp; exact absurd hp n
    · exact g j (by omega) hp
theorem Bst.take {us xs : List Int} {i : Nat} {c k : Int} (h : Bst us xs i c k) (n : 0 < xs.getD i 0) (hc : c < 0 ∨ rmC us xs i < c) : Bst us xs (i + 1) (rmC us xs i) (i : Int) := by
  refine ⟨.inr ⟨i, rfl, by omega, n, rfl, rmC_nn n, fun j hj hp => ?_⟩⟩
  by_cases z : j = i
  · rw [z]; exact .inr ⟨rfl, Nat.le_refl _⟩
  · rcases h.ex with ⟨a, b⟩ | ⟨kk, a, b, d, e, f, g⟩
    · exact absurd hp (b j (by omega))
    · have := g j (by omega) hp
      left; omega
theorem Bst.keep {us xs : List Int} {i : Nat} {c k : Int} (h : Bst us xs i c k) (n : 0 < xs.getD i 0) (h0 : ¬ c < 0) (hc : ¬ rmC us xs i < c) : Bst us xs (i + 1) c k := by
  rcases h.ex with ⟨a, b⟩ | ⟨kk, a, b, d, e, f, g⟩
  · omega
  · refine ⟨.inr ⟨kk, a, by omega, d, e, f, fun j hj hp => ?_⟩⟩
    by_cases z : j = i
    · rw [z]; omega
    · exact g j (by omega) hp
theorem Bst.room {us xs : List Int} {c k : Int} (h : Bst us xs xs.length c k) (hp : ∃ z ∈ xs, 0 < z) : ∃ kk : Nat, k = (kk : Int) ∧ RoomAt us xs c kk := by
  rcases h.ex with ⟨a, b⟩ | ⟨kk, a, b, d, e, f, g⟩
  · obtain ⟨z, hz, hz0⟩ := hp
    obtain ⟨j, hj, e⟩ := List.getElem_of_mem hz
    have e2 : xs.getD j 0 = z := by rw [List.getD_eq_getElem?_getD, List.getElem?_eq_getElem hj, e]; rfl
    exact absurd (by rw [e2]; exact hz0) (b j hj)
  · exact ⟨kk, a, b, d, e, g⟩
structure RmOk (r : TR) (q : MR) (sq : SR) (l : List KR) (m a b : Int) (c : Int) (v : V) : Prop where
  ex : ∃ (us : List Int) (c0 : Int) (k : Nat), LeastIn q.xs l m a b us ∧ RoomAt us sq.xs c0 k ∧ ((apartB r = true ∧ 1 < c0 ∧ c = 1 ∧ v = .str (Str.ofString "apart")) ∨ ((apartB r = false ∨ ¬ 1 < c0) ∧ c = c0 ∧ v = .int (k : Int)))
def spRoomL : Sp := fun vs H Q _ => ∃ (a b g c : Addr) (wa : WA) (sc bs sp : Int) (l : List KR) (ti si : Nat) (r : TR) (sq : SR) (m : Nat) (q : MR) (x y : Int) (hs : List Int), vs = [.ref a, .ref b, .ref g, .int (m : Int), .ref c] ∧ Wd7 H a wa sc bs sp ∧ WOk wa ∧ H b = some (.lst (l.map fun r => V.ref r.a)) ∧ RowsAt H l ∧ GdR wa l ∧ GgAt H wa g ti si r sq ∧ wa.ms[m]? = some q ∧
  H c = some (.lst (hs.map V.int)) ∧ hs ≠ [] ∧ hs.length ≤ 100 ∧ MkOk l x y hs ∧ ∀ T c1 v H', Same H H' → H' T = some (.tup [.int c1, v]) → RmOk r q sq l m x y c1 v → Q (.ref T) H'
structure Lfs (H : Hp) (D : Addr) (q : MR) (l : List KR) (m : Int) (hs : List Int) (i : Nat) : Prop where
  ex : ∃ L : List (Addr × Int), H D = some (.lst (L.map fun p => V.ref p.1)) ∧ L.map (·.2) = hs.take i ∧ ∀ p ∈ L, p.1 ≠ D ∧ ∃ fl, IsFr fl q.xs l m p.2 ∧ H p.1 = some (.lst (fl.map V.int))
theorem Lfs.snoc {H H2 : Hp} {D T : Addr} {q : MR} {l : List KR} {m h : Int} {hs fl : List Int} {i : Nat} {L : List (Addr × Int)} (eD : H D = some (.lst (L.map fun p => V.ref p.1))) (hL : L.map (·.2) = hs.take i) (hl : ∀ p ∈ L, p.1 ≠ D ∧ ∃ fl, IsFr fl q.xs l m p.2 ∧ H p.1 = some (.lst (fl.map V.int))) (s : Same H H2) (f : H T = none) (hT : H2 T = some (.lst (fl.map V.int))) (hF : IsFr fl q.xs l m h) (hh : hs[i]? = some h) :
    Lfs (upd H2 D (.lst ((L.map fun p => V.ref p.1) ++ [.ref T]))) D q l m hs (i + 1) := by
  have hTD : T ≠ D := fun z => by rw [z, eD] at f; cases f
  refine ⟨L ++ [(T, h)], by rw [upd_same, List.map_append]; rfl, by rw [List.map_append, hL, List.take_succ, hh]; rfl, fun p hp => ?_⟩
  rcases List.mem_append.mp hp with z | z
  · obtain ⟨n, fl2, a, b⟩ := hl p z
    exact ⟨n, fl2, a, by rw [upd_ne n]; exact s _ _ b⟩
  · rw [List.mem_singleton.mp z]
    exact ⟨hTD, fl, hF, by rw [upd_ne hTD]; exact hT⟩
def spCap : Sp := fun vs H Q _ => ∃ (a b g c o : Addr) (wa : WA) (sc bs sp : Int) (l : List KR) (ti si : Nat) (r : TR) (sq : SR) (m : Nat) (q : MR) (x y : Int) (hs out : List Int), vs = [.ref a, .ref b, .ref g, .int (m : Int), .ref c, .ref o] ∧ Wd7 H a wa sc bs sp ∧ WOk wa ∧ H b = some (.lst (l.map fun r => V.ref r.a)) ∧ RowsAt H l ∧ GdR wa l ∧ GgAt H wa g ti si r sq ∧ wa.ms[m]? = some q ∧
  H c = some (.lst (hs.map V.int)) ∧ hs ≠ [] ∧ hs.length ≤ 100 ∧ MkOk l x y hs ∧ H o = some (.tup (out.map V.int)) ∧ out.length ≤ 10 ∧ ∀ T c1 v H', Same H H' → H' T = some (.tup [.int c1, v]) → BndAt wa.ts r q sq l m x y out c1 v → Q (.ref T) H'
theorem BndAt.bar {ts : List TR} {r : TR} {q : MR} {sq : SR} {l : List KR} {m a b : Int} {out : List Int} {z : Str} (h : barO ts r q l m a b out = some z) : BndAt ts r q sq l m a b out 0 (.str z) := ⟨.inl ⟨z, h, rfl, rfl⟩⟩
theorem BndAt.rm {ts : List TR} {r : TR} {q : MR} {sq : SR} {l : List KR} {m a b : Int} {out : List Int} {c : Int} {v : V} (h : barO ts r q l m a b out = none) (k : RmOk r q sq l m a b c v) : BndAt ts r q sq l m a b out c v := ⟨.inr ⟨h, k.ex⟩⟩
theorem meet_eq {ts : List TR} {r : TR} {l : List KR} {m a b : Int} {hs : List Int} (k : MkOk l a b hs) : meetM ts r l m hs = meetB ts r l m a b := by
  rw [Bool.eq_iff_iff]
  unfold meetM meetB
  rw [List.any_eq_true, List.any_eq_true]
  constructor
  · rintro ⟨q, hq, e⟩
    rw [Bool.and_eq_true, Bool.and_eq_true, decide_eq_true_iff, decide_eq_true_iff] at e
    obtain ⟨⟨e1, e2⟩, e3⟩ := e
    obtain ⟨h, hm, g1, g2⟩ := inMk_get e3
    obtain ⟨g3, g4⟩ := k.rng h hm
    exact ⟨q, List.mem_filter.mpr ⟨hq, inSp_of g3 g4 e1 g1 g2⟩, decide_eq_true e2⟩
  · rintro ⟨q, hq, e⟩
    obtain ⟨q0, q1, q2, q3, q4⟩ := inSp_mx (List.mem_filter.mp hq).2
    refine ⟨q, comm_mem hq, ?_⟩
    rw [decide_eq_true q0, e, inMk_of (k.all q (comm_mem hq) q2) q3 q4]
    rfl
theorem none_all {α : Type} {f : α → Bool} {l : List α} (h : ¬ 0 < (l.filter fun z => !f z).length) : l.all f = true := by
  have e : (l.filter fun z => !f z) = [] := List.eq_nil_of_length_eq_zero (by omega)
  rw [List.all_eq_true]
  intro x hx
  have := List.filter_eq_nil_iff.mp e x hx
  simpa using this
theorem some_all {α : Type} {f : α → Bool} {l : List α} (h : 0 < (l.filter fun z => !f z).length) : l.all f = false := by
  cases e : l.all f with
  | false => rfl
  | true =>
    rw [List.all_eq_true] at e
    have : (l.filter fun z => !f z) = [] := List.filter_eq_nil_iff.mpr fun x hx => by rw [e x hx]; decide
    rw [this] at h
    exact absurd h (by simp)
theorem some_any {α : Type} {f : α → Bool} {l : List α} (h : 0 < (l.filter f).length) : l.any f = true := by
  obtain ⟨x, hx⟩ := List.exists_mem_of_length_pos h
  obtain ⟨h1, h2⟩ := List.mem_filter.mp hx
  exact List.any_eq_true.mpr ⟨x, h1, h2⟩
theorem none_any {α : Type} {f : α → Bool} {l : List α} (h : ¬ 0 < (l.filter f).length) : l.any f = false := by
  cases e : l.any f with
  | false => rfl
  | true =>
    obtain ⟨x, h1, h2⟩ := List.any_eq_true.mp e
    exact absurd (List.length_pos_of_mem (List.mem_filter.mpr ⟨h1, h2⟩)) h
structure FlL (H : Hp) (D : Addr) (f : Str → Bool) (l : List Str) (i : Nat) : Prop where
  e : H D = some (.lst (((l.take i).filter f).map V.str))
theorem FlL.yes {H : Hp} {D : Addr} {f : Str → Bool} {l : List Str} {i : Nat} {z : Str} (hz : l[i]? = some z) (h : f z = true) (e : H D = some (.lst (((l.take i).filter f).map V.str ++ [V.str z]))) : FlL H D f l (i + 1) := by
  refine ⟨?_⟩
  rw [show l.take (i + 1) = l.take i ++ [z] by rw [List.take_succ, hz]; rfl, List.filter_append, List.filter_cons, if_pos h, List.map_append]
  exact e
theorem FlL.no {H : Hp} {D : Addr} {f : Str → Bool} {l : List Str} {i : Nat} {z : Str} (hz : l[i]? = some z) (h : f z = false) (e : H D = some (.lst (((l.take i).filter f).map V.str))) : FlL H D f l (i + 1) := by
  refine ⟨?_⟩
  rw [show l.take (i + 1) = l.take i ++ [z] by rw [List.take_succ, hz]; rfl, List.filter_append, List.filter_cons, if_neg (by rw [h]; decide), List.filter_nil, List.append_nil]
  exact e
def spLimits : Sp := fun vs H Q _ => ∃ (a b g p o : Addr) (wa : WA) (sc bs sp : Int) (l : List KR) (ti si : Nat) (r : TR) (sq : SR) (i j : Nat) (out : List Int), vs = [.ref a, .ref b, .ref g, .ref p, .ref o] ∧ Wd7 H a wa sc bs sp ∧ Ck bs sp ∧ WOk wa ∧ H b = some (.lst (l.map fun r => V.ref r.a)) ∧ RowsAt H l ∧ GdR wa l ∧ (∀ q ∈ l, SpOk bs sp q.bg q.en) ∧ GgAt H wa g ti si r sq ∧
  H p = some (.tup [.int (bs + sp * i), .int (bs + sp * j)]) ∧ i < j ∧ j ≤ 7 ∧ H o = some (.tup (out.map V.int)) ∧ out.length ≤ 10 ∧ ∀ D H', Same H H' → BdsAt H' D wa r sq l (bs + sp * i) (bs + sp * j) out wa.ms.length → Q (.ref D) H'
theorem lsum_nn {i : Nat} {sp : Int} (h : 1 ≤ sp) : 0 ≤ sp * (i : Int) := Int.mul_nonneg (by omega) (Int.natCast_nonneg i)
theorem mul_lt {i j : Nat} {sp : Int} (h : 1 ≤ sp) : sp * (i : Int) < sp * (j : Int) ↔ i < j := by
  constructor
  · intro z
    have := Int.lt_of_mul_lt_mul_left z (by omega)
    omega
  · intro z
    exact Int.mul_lt_mul_of_pos_left (by omega) (by omega)
theorem mul_le {i j : Nat} {sp : Int} (h : 1 ≤ sp) : sp * (i : Int) ≤ sp * (j : Int) ↔ i ≤ j := by
  constructor
  · intro z
    have := Int.le_of_mul_le_mul_left z (by omega)
    omega
  · intro z
    exact Int.mul_le_mul_of_nonneg_left (by omega) (by omega)
/-- the marks of a span on the grid -/
def grid (bs sp : Int) (i j : Nat) : List Int := (List.range (j - i)).map fun k => bs + sp * ((i + k : Nat) : Int)
theorem grid_mk {bs sp : Int} {i j : Nat} {l : List KR} (hs : 1 ≤ sp) (hl : ∀ q ∈ l, SpOk bs sp q.bg q.en) : MkOk l (bs + sp * i) (bs + sp * j) (grid bs sp i j) := by
  refine ⟨fun h hh => ?_, fun q hq hb => ?_⟩
  · obtain ⟨k, hk, rfl⟩ := List.mem_map.mp hh
    have hk := List.mem_range.mp hk
    have h1 := (mul_le (i := i) (j := i + k) hs).mpr (by omega)
    have h2 := (mul_lt (i := i + k) (j := j) hs).mpr (by omega)
    exact ⟨by omega, by omega⟩
  · obtain ⟨u, v, e1, e2, huv, hv⟩ := (hl q hq).ex
    have key : ∀ n : Nat, i ≤ n → bs + sp * (n : Int) < bs + sp * j → bs + sp * (n : Int) ∈ grid bs sp i j := fun n h1 h2 => by
      have h3 := (mul_lt (i := n) (j := j) hs).mp (by omega)
      refine List.mem_map.mpr ⟨n - i, List.mem_range.mpr (by omega), ?_⟩
      rw [show i + (n - i) = n by omega]
    unfold mxs at hb ⊢
    split at hb <;> rename_i c <;> simp only [c, if_true, if_false]
    · exact key i (Nat.le_refl _) hb
    · rw [e1] at hb c ⊢
      refine key u ?_ hb
      have : ¬ u < i := fun z => c (by have := (mul_lt (i := u) (j := i) hs).mpr z; omega)
      omega
theorem grid_ne {bs sp : Int} {i j : Nat} (h : i < j) : grid bs sp i j ≠ [] := by
  intro z
  have := congrArg List.length z
  unfold grid at this
  rw [List.length_map, List.length_range] at this
  have e : ([] : List Int).length = 0 := rfl
  omega
theorem grid_len {bs sp : Int} {i j : Nat} : (grid bs sp i j).length = j - i := by unfold grid; rw [List.length_map, List.length_range]
theorem rgc_grid {bs sp : Int} {i j : Nat} (hb : 0 ≤ bs ∧ bs ≤ 98901) (hs : 1 ≤ sp ∧ sp ≤ 50) (hij : i < j) (hj : j ≤ 7) : RgC (bs + sp * (i : Int)) (bs + sp * (j : Int)) sp (j - i) := by
  have hlt := (mul_lt (i := i) (j := j) hs.1).mpr hij
  have h0 := lsum_nn (i := i) hs.1
  have hj7 : sp * (j : Int) ≤ 350 := by
    have h1 : sp * (j : Int) ≤ 50 * (j : Int) := Int.mul_le_mul_of_nonneg_right hs.2 (by omega)
    omega
  have hsz : Builtin.Range.rangeSize (bs + sp * (i : Int)) (bs + sp * (j : Int)) sp = ((j - i : Nat) : Int) := by
    unfold Builtin.Range.rangeSize
    rw [if_pos (by omega), if_pos (by omega)]
    obtain ⟨d, rfl⟩ : ∃ d : Nat, j = i + (d + 1) := ⟨j - i - 1, by omega⟩
    have e : bs + sp * ((i + (d + 1) : Nat) : Int) - (bs + sp * (i : Int)) - 1 = (sp - 1) + (d : Int) * sp := by
      have e1 : ((i + (d + 1) : Nat) : Int) = (i : Int) + ((d : Int) + 1) := by omega
      rw [e1, Int.mul_add, Int.mul_add, Int.mul_one, Int.mul_comm sp (d : Int)]
      omega
    rw [e, Int.add_mul_ediv_right _ _ (by omega), Int.ediv_eq_zero_of_lt (by omega) (by omega)]
    omega
  refine ⟨by omega, by omega, ?_, hsz⟩
  unfold Builtin.Range.small
  have hd7 : sp * ((j - i : Nat) : Int) ≤ 350 ∧ 0 ≤ sp * ((j - i : Nat) : Int) := by
    have h1 : sp * ((j - i : Nat) : Int) ≤ 50 * ((j - i : Nat) : Int) := Int.mul_le_mul_of_nonneg_right hs.2 (by omega)
    have h2 := lsum_nn (i := j - i) hs.1
    omega
  have hd8 : ((j - i : Nat) : Int) * sp ≤ 350 ∧ 0 ≤ ((j - i : Nat) : Int) * sp := by rw [Int.mul_comm]; exact hd7
  have hsp : sp > 0 := by omega
  simp only [hsz, if_pos hsp, Builtin.Range.rangeFitsLong, Bool.and_eq_true, Bool.or_eq_true, decide_eq_true_eq, beq_iff_eq]
  have hp : (2 : Int) ^ 63 = 9223372036854775808 := by decide +kernel
  rw [hp]
  omega
theorem LeastIn.uniq {xs us ws : List Int} {l : List KR} {m a b : Int} (q : LeastIn xs l m a b us) (p : LeastIn xs l m a b ws) : us = ws := by
  refine List.ext_getElem (q.len.trans p.len.symm) fun k hk1 hk2 => ?_
  have hk : k < xs.length := by rw [← q.len]; exact hk1
  have e1 : us.getD k 0 = us[k] := by rw [List.getD_eq_getElem?_getD, List.getElem?_eq_getElem hk1]; rfl
  have e2 : ws.getD k 0 = ws[k] := by rw [List.getD_eq_getElem?_getD, List.getElem?_eq_getElem hk2]; rfl
  rw [← e1, ← e2]
  have le1 : us.getD k 0 ≤ ws.getD k 0 := by
    rcases p.ex k hk with z | ⟨g, g1, g2, z⟩
    · rw [z]; exact q.le0 k hk
    · rw [z]; exact q.le k hk g g1 g2
  have le2 : ws.getD k 0 ≤ us.getD k 0 := by
    rcases q.ex k hk with z | ⟨g, g1, g2, z⟩
    · rw [z]; exact p.le0 k hk
    · rw [z]; exact p.le k hk g g1 g2
  omega
theorem RoomAt.uniq {us xs : List Int} {c c' : Int} {k k' : Nat} (q : RoomAt us xs c k) (p : RoomAt us xs c' k') : c = c' ∧ k = k' := by
  have h1 := q.le k' p.lt p.pos
  have h2 := p.le k q.lt q.pos
  rw [← p.val] at h1
  rw [← q.val] at h2
  omega
theorem BndAt.uniq {ts : List TR} {r : TR} {q : MR} {sq : SR} {l : List KR} {m a b : Int} {out : List Int} {c c' : Int} {v v' : V} (h : BndAt ts r q sq l m a b out c v) (g : BndAt ts r q sq l m a b out c' v') : c = c' ∧ v = v' := by
  rcases h.ex with ⟨z, h1, rfl, rfl⟩ | ⟨h1, us, c0, k, h2, h3, h4⟩
  · rcases g.ex with ⟨z', g1, rfl, rfl⟩ | ⟨g1, _⟩
    · rw [h1] at g1
      cases g1
      exact ⟨rfl, rfl⟩
    · rw [h1] at g1; cases g1
  · rcases g.ex with ⟨z', g1, _⟩ | ⟨g1, us', c0', k', g2, g3, g4⟩
    · rw [h1] at g1; cases g1
    · obtain rfl := h2.uniq g2
      obtain ⟨rfl, rfl⟩ := h3.uniq g3
      rcases h4 with ⟨a1, a2, rfl, rfl⟩ | ⟨a1, rfl, rfl⟩ <;> rcases g4 with ⟨b1, b2, rfl, rfl⟩ | ⟨b1, rfl, rfl⟩
      · exact ⟨rfl, rfl⟩
      · rcases b1 with b1 | b1
        · rw [a1] at b1; cases b1
        · exact absurd a2 b1
      · rcases a1 with a1 | a1
        · rw [b1] at a1; cases a1
        · exact absurd b2 a1
      · exact ⟨rfl, rfl⟩
theorem BndAt.kind {ts : List TR} {r : TR} {q : MR} {sq : SR} {l : List KR} {m a b : Int} {out : List Int} {c : Int} {v : V} (h : BndAt ts r q sq l m a b out c v) : (∃ n : Int, v = .int n) ∨ ∃ z ∈ [Str.ofString "barred", Str.ofString "needs", Str.ofString "bars", Str.ofString "never", Str.ofString "apart"], v = .str z := by
  rcases h.ex with ⟨z, h1, _, rfl⟩ | ⟨_, us, c0, k, _, _, h4⟩
  · right
    refine ⟨z, ?_, rfl⟩
    unfold barO at h1
    split at h1
    · cases h1; simp
    split at h1
    · cases h1; simp
    split at h1
    · cases h1; simp
    split at h1
    · cases h1; simp
    · cases h1
  · rcases h4 with ⟨_, _, _, rfl⟩ | ⟨_, _, rfl⟩
    · exact .inr ⟨_, by simp, rfl⟩
    · exact .inl ⟨_, rfl⟩
def spPairs : Sp := fun vs H Q _ => ∃ (a b : Addr) (w : WA) (r : TR) (sq : SR) (l : List KR) (x y : Int) (out : List Int), vs = [.ref a, .ref b] ∧ BdsAt H a w r sq l x y out w.ms.length ∧ BdsAt H b w r sq l x y out w.ms.length ∧ w.ms.length ≤ 6 ∧ ∀ H', Same H H' → Q (.bl true) H'
theorem kit_any1 {K : PySem.W.Frag} {t a b : Value} (h1 : PySem.W.kitOne K t a = some true) : PySem.W.kitAny K t [a, b] = some true := by
  unfold PySem.W.kitAny
  rw [h1]
theorem kit_anyX {K : PySem.W.Frag} {t a b : Value} (h1 : PySem.W.kitOne K t a = some false) (h2 : PySem.W.kitOne K t b = some true) : PySem.W.kitAny K t [a, b] = some true := by
  unfold PySem.W.kitAny
  rw [h1]
  show PySem.W.kitAny K t [b] = some true
  unfold PySem.W.kitAny
  rw [h2]
local macro_rules | `(tactic| walk_at "gb leaf") => `(tactic| ((with_reducible show PySem.Paired ClsV _ _); exact .cons (.ty _) (.cons (.ty _) .nil)))
local macro_rules | `(tactic| walk_at "gb leaf") => `(tactic| ((with_reducible show PySem.W.kitAny _ _ _ = some _); first | exact kit_any1 kit_same | exact kit_anyX (kit_ty (by decide +kernel)) kit_same | fail))
theorem eqD_two {K : PySem.W.Frag} {H : Hp} {a b : Addr} {xs : List V} {n : Nat} (h : SqT K H a xs) (h2 : SqT K H b xs) (g : EqDs K H xs n) (hn : n + 1 ≤ 64) : ∃ d, Dp K H (.ref a) d ∧ Dp K H (.ref b) d ∧ SeqAt.shaped d = true ∧ PyData.eqv d d = true := by
  obtain ⟨ds, b1, b2, b3, b4⟩ := g.ex
  refine ⟨.tuple ds, .tup h b1, .tup h2 b1, ?_, by simp [PyData.eqv, b4]⟩
  unfold SeqAt.shaped
  rw [decide_eq_true (by simp only [PyData.depth]; omega)]
  simp [PyData.canLay0, b2]
theorem five_ok : ([Str.ofString "barred", Str.ofString "needs", Str.ofString "bars", Str.ofString "never", Str.ofString "apart"].all fun z => PyData.strOk z) = true := by decide +kernel
structure GsL (H : Hp) (D : Addr) (wa : WA) (n : Nat) : Prop where
  ex : ∃ L : List (Addr × Nat × Nat), H D = some (.lst (L.map fun p => V.ref p.1)) ∧ L.length ≤ n ∧ ∀ p ∈ L, H p.1 = some (.tup [.int (p.2.1 : Int), .int (p.2.2 : Int)]) ∧ ∃ r sq, wa.ts[p.2.1]? = some r ∧ r.st[p.2.2]? = some sq
theorem GsL.le {H : Hp} {D : Addr} {wa : WA} {n m : Nat} (h : GsL H D wa n) (hm : n ≤ m) : GsL H D wa m := let ⟨L, a, b, c⟩ := h.ex; ⟨L, a, Nat.le_trans b hm, c⟩
theorem GsL.snoc {H H2 : Hp} {D T : Addr} {wa : WA} {n : Nat} {L : List (Addr × Nat × Nat)} {ti si : Nat} {r : TR} {sq : SR} (e : H D = some (.lst (L.map fun p => V.ref p.1))) (hl : L.length ≤ n) (ht : ∀ p ∈ L, H p.1 = some (.tup [.int (p.2.1 : Int), .int (p.2.2 : Int)]) ∧ ∃ r sq, wa.ts[p.2.1]? = some r ∧ r.st[p.2.2]? = some sq)
    (s : Same H H2) (eT : H2 T = some (.tup [.int (ti : Int), .int (si : Int)])) (h1 : wa.ts[ti]? = some r) (h2 : r.st[si]? = some sq) : GsL (upd H2 D (.lst ((L.map fun p => V.ref p.1) ++ [.ref T]))) D wa (n + 1) := by
  refine ⟨L ++ [(T, ti, si)], by rw [upd_same, List.map_append]; rfl, by rw [List.length_append]; exact Nat.succ_le_succ hl, fun p hp => ?_⟩
  have key : H2 p.1 = some (.tup [.int (p.2.1 : Int), .int (p.2.2 : Int)]) ∧ ∃ r sq, wa.ts[p.2.1]? = some r ∧ r.st[p.2.2]? = some sq := by
    rcases List.mem_append.mp hp with z | z
    · exact ⟨s _ _ (ht p z).1, (ht p z).2⟩
    · rw [List.mem_singleton.mp z]; exact ⟨eT, r, sq, h1, h2⟩
  refine ⟨?_, key.2⟩
  rw [upd_ne (fun z => by have := key.1; rw [z, s _ _ e] at this; cases this)]
  exact key.1
def spGangs : Sp := fun vs H Q _ => ∃ (a : Addr) (wa : WA) (sc bs sp : Int), vs = [.ref a] ∧ Wd7 H a wa sc bs sp ∧ WOk wa ∧ ∀ D H', Same H H' → GsL H' D wa 24 → Q (.ref D) H'
theorem BdsAt.mono {H H' : Hp} {D : Addr} {w : WA} {r : TR} {sq : SR} {l : List KR} {a b : Int} {out : List Int} {n : Nat} (h : BdsAt H D w r sq l a b out n) (s : Same H H') : BdsAt H' D w r sq l a b out n :=
  let ⟨L, e1, e2, e3, e4⟩ := h.ex; ⟨L, s _ _ e1, e2, fun p hp => s _ _ (e3 p hp), e4⟩
/-- a question of the law: the world, its rows, the takes made of them, a gang, a span, who is out -/
structure Qn (A : Adr) (H : Hp) (a b x g p o : Addr) (cl : Addr) (wa : WA) (sc bs sp : Int) (l : List KR) (ti si : Nat) (r : TR) (sq : SR) (i j : Nat) (out : List Int) : Prop where
  W : Wd7 H a wa sc bs sp
  b : H b = some (.lst (l.map fun r => V.ref r.a))
  R : RowsAt H l
  x : TkAt A H x cl (l.map fun r => V.ref r.a)
  C : CAt A H cl wa
  G : GgAt H wa g ti si r sq
  p : H p = some (.tup [.int (bs + sp * i), .int (bs + sp * j)])
  o : H o = some (.tup (out.map V.int))
theorem Qn.mono {A : Adr} {H H' : Hp} {a b x g p o cl : Addr} {wa : WA} {sc bs sp : Int} {l : List KR} {ti si : Nat} {r : TR} {sq : SR} {i j : Nat} {out : List Int} (h : Qn A H a b x g p o cl wa sc bs sp l ti si r sq i j out) (s : Same H H') : Qn A H' a b x g p o cl wa sc bs sp l ti si r sq i j out :=
  ⟨h.W.mono s, s _ _ h.b, h.R.mono (Same.tups s), h.x.fr (fr_same s), h.C.fr s, h.G.mono s, s _ _ h.p, s _ _ h.o⟩
theorem Qn.bq {K : PySem.W.Frag} {A : Adr} {H : Hp} {a b x g p o y dy o2 cl : Addr} {wa : WA} {sc bs sp : Int} {l : List KR} {ti si : Nat} {r : TR} {sq : SR} {i j : Nat} {out : List Int} (h : Qn A H a b x g p o cl wa sc bs sp l ti si r sq i j out) (hO : WOk wa) (hG : GdR wa l) (hy : H y = some (.ins A.c_Span dy (spfl (bs + sp * i) (bs + sp * j)))) (ho : SqT K H o2 (out.map V.int)) (ol : out.length ≤ 10) :
    BqAt K A H x g y o2 cl wa l ti si r sq (bs + sp * i) (bs + sp * j) out :=
  ⟨h.x.ex, h.R, h.C, h.W.w.mm, hO, hG, h.G.g, h.G.t, h.G.s, ⟨_, hy⟩, ho, ol⟩
def spRight7 (A : Adr) : Sp := fun vs H Q _ => ∃ (a b x g p o cl : Addr) (wa : WA) (sc bs sp : Int) (l : List KR) (ti si : Nat) (r : TR) (sq : SR) (i j : Nat) (out : List Int), vs = [.ref a, .ref b, .ref x, .ref g, .ref p, .ref o] ∧ Qn A H a b x g p o cl wa sc bs sp l ti si r sq i j out ∧ Ck bs sp ∧ WOk wa ∧ GdR wa l ∧ (∀ q ∈ l, SpOk bs sp q.bg q.en) ∧
  i < j ∧ j ≤ 7 ∧ out.length ≤ 10 ∧ ∀ H', Same H H' → Q (.bl true) H'
structure Rows7 (H : Hp) (D : Addr) (wa : WA) (bs sp : Int) (n : Nat) : Prop where
  ex : ∃ rl : List KR, H D = some (.lst (rl.map fun r => V.ref r.a)) ∧ rl.length = n ∧ RowsAt H rl ∧ ∀ r ∈ rl, K7 wa bs sp r
theorem Rows7.snoc {H H' : Hp} {D : Addr} {wa : WA} {bs sp : Int} {n : Nat} {rl : List KR} {r : KR} (hl : rl.length = n) (ha : RowsAt H rl) (ho : ∀ r ∈ rl, K7 wa bs sp r) (t : Tups H H') (e : H' D = some (.lst (rl.map fun r => V.ref r.a))) (hr : KRAt H' r) (hk : K7 wa bs sp r) :
    Rows7 (upd H' D (.lst ((rl.map fun r => V.ref r.a) ++ [.ref r.a]))) D wa bs sp (n + 1) :=
  ⟨rl ++ [r], by rw [upd_same, List.map_append]; rfl, by rw [List.length_append, hl]; rfl, ⟨fun q hq => (List.mem_append.mp hq).elim (fun m => (ha.all q m).mono (t.trans (tups_put e))) fun m => by rw [List.mem_singleton.mp m]; exact hr.mono (tups_put e)⟩,
    fun q hq => (List.mem_append.mp hq).elim (ho q) fun m => by rw [List.mem_singleton.mp m]; exact hk⟩
theorem gdr7 {wa : WA} {bs sp : Int} {l : List KR} (h : ∀ r ∈ l, K7 wa bs sp r) (hl : l.length ≤ 200) : GdR wa l := by
  refine ⟨⟨fun r hr => (h r hr).len, hl, (List.range 8).map fun i : Nat => bs + sp * (i : Int), by simp, fun r hr => ?_⟩, fun r hr => (h r hr).nn, fun r hr => (h r hr).us⟩
  obtain ⟨i, j, e1, e2, h1, h2⟩ := (h r hr).sp.ex
  rw [e1]
  exact List.mem_map.mpr ⟨i, List.mem_range.mpr (by omega), rfl⟩
structure OutL (H : Hp) (D : Addr) (n : Nat) : Prop where
  ex : ∃ l : List Int, H D = some (.lst (l.map V.int)) ∧ l.length ≤ n
theorem OutL.snoc {H : Hp} {D : Addr} {n : Nat} {l : List Int} {z : Int} (hl : l.length ≤ n) : OutL (upd H D (.lst (l.map V.int ++ [.int z]))) D (n + 1) :=
  ⟨l ++ [z], by rw [upd_same, List.map_append]; rfl, by rw [List.length_append]; exact Nat.succ_le_succ hl⟩
theorem OutL.le {H : Hp} {D : Addr} {n m : Nat} (h : OutL H D n) (hm : n ≤ m) : OutL H D m := let ⟨l, a, b⟩ := h.ex; ⟨l, a, Nat.le_trans b hm⟩
/-- all that stays through the law's questions -/
structure B7 (A : Adr) (H : Hp) (wd : Addr) (wa : WA) (sc bs sp : Int) (D : Addr) (rl : List KR) (E : Addr) (el : List KR) (pt : Addr) (i j : Nat) (x c m o : Addr) (out : List Int) : Prop where
  w : Wd7 H wd wa sc bs sp
  d : H D = some (.lst (rl.map fun r => V.ref r.a))
  e : H E = some (.lst (el.map fun r => V.ref r.a))
  rd : RowsAt H rl
  re : RowsAt H el
  p : H pt = some (.tup [.int (bs + sp * i), .int (bs + sp * j)])
  x : TkAt A H x c (rl.map fun r => V.ref r.a)
  m : TkAt A H m c ((rl ++ el).map fun r => V.ref r.a)
  c : CAt A H c wa
  o : H o = some (.tup (out.map V.int))
theorem B7.mono {A : Adr} {H H' : Hp} {wd : Addr} {wa : WA} {sc bs sp : Int} {D : Addr} {rl : List KR} {E : Addr} {el : List KR} {pt : Addr} {i j : Nat} {x c m o : Addr} {out : List Int} (h : B7 A H wd wa sc bs sp D rl E el pt i j x c m o out) (s : Same H H') : B7 A H' wd wa sc bs sp D rl E el pt i j x c m o out :=
  ⟨h.w.mono s, s _ _ h.d, s _ _ h.e, h.rd.mono (Same.tups s), h.re.mono (Same.tups s), s _ _ h.p, h.x.fr (fr_same s), h.m.fr (fr_same s), h.c.fr s, s _ _ h.o⟩
def spBuilt7 (A : Adr) : Sp := fun vs H Q _ => ∃ (a : Addr) (wa : WA) (sc bs sp : Int), vs = [.ref a] ∧ Wd7 H a wa sc bs sp ∧ WOk wa ∧ LamX.Tabs [(A.tb_check_rows, GL.lamQ "check_rows")] H ∧ ∀ c H', LamX.ExtN H H' → LamX.Tabs [(A.tb_check_rows, GL.lamQ "check_rows")] H' → CAt A H' c wa → Q (.ref c) H'

section
variable {P : Program} {w : World} {K : PySem.W.Frag} {mg : Str → Option Value} {base : Heap} {A : Adr}
theorem ok_GangError_init (T : Txt K mg A) : FnOk P w K mg base CX0 1 A.f_GangError_init A.d_GangError_init ["self", "subject"] (spGI K) := by
  refine T.F_GangError_init.ok sc_GangError_init (fun vs H Q E h => ?_) (fun cdv Ar outer s H vs Q E hr h => ?_)
  · obtain ⟨a, C, v, rfl, _⟩ := h
    rfl
  · obtain ⟨a, C, v, rfl, hT, hn, ha, k⟩ := h
    refine ⟨_, (pss_one (ps_ost (pv 0) (pv 1))), ?_⟩
    exact ⟨_, rfl, _, rfl, a, C, rfl, hT, hn, .inl ⟨ha, k⟩⟩
theorem ok_refuse_lengths (T : Txt K mg A) : FnOk P w K mg base (L2.CX P w) 3 A.f_refuse_lengths A.d_refuse_lengths ["left", "right"] (spRL A) := by
  refine T.F_refuse_lengths.okX sc_refuse_lengths (fun vs H Q E h => ?_) (fun cdv Ar outer s H vs Q E hr h => ?_)
  · obtain ⟨a, b, xs, ys, rfl, _⟩ := h
    rfl
  · obtain ⟨a, b, xs, ys, rfl, hX, hY, kG, kB⟩ := h
    refine ⟨_, (pss_one (ps_if (pt_cmpR op_ne (pe_callB (call_len_seqK K) (by rfl) T.n_len (by decide +kernel) (pa_cons (pe_fldK K (pv 0) rfl) pa_nil)) (pe_callB (call_len_seqK K) (by rfl) T.n_len (by decide +kernel) (pa_cons (pe_fldK K (pv 1) rfl) pa_nil)) (nomark _)) (pss_one (ps_raiseG rfl T.x_BadAmounts (ok_GangError_init T) (hr.mono (by decide)) T.b_GangError_init rfl T.g_BadAmounts (takes_of rfl rfl rfl rfl) (pe_fldK K (pv 1) rfl))) pss_nil)), ?_⟩
    obtain ⟨dx, t, hx, ht⟩ := id hX
    obtain ⟨dy, t2, hy, ht2⟩ := id hY
    refine ⟨_, rfl, a, A.c_Amounts, dx, _, _, rfl, hx, T.cl_Amounts, T.no_Amounts_numbers, afl_numbers _, t, _, rfl, .inr (SqT.of ht), _, rfl, b, A.c_Amounts, dy, _, _, rfl, hy, T.cl_Amounts, T.no_Amounts_numbers, afl_numbers _, t2, _, rfl, .inr (SqT.of ht2), rfl, _, rfl, ?_⟩
    have e : (V.int ((xs.map V.int).length : Int) = V.int ((ys.map V.int).length : Int)) ↔ xs.length = ys.length := by rw [V.int.injEq, List.length_map, List.length_map]; omega
    refine iteDN (fun c => kG (e.mp c)) (fun c => ?_)
    refine ⟨_, rfl, b, A.c_Amounts, dy, _, _, rfl, hy, T.cl_Amounts, T.no_Amounts_numbers, afl_numbers _, raiseG_in T.x_BadAmounts fun d hd => ?_⟩
    exact kB (fun z => c (e.mpr z)) t2 d _ (same_new hd) (same_new hd _ _ ht2) upd_same
theorem ok_Amounts_init (T : Txt K mg A) : FnR P w K mg base (L2.CX P w) 3 A.f_Amounts_init (spStar 1 (spAI A)) := by
  refine T.F_Amounts_init.okStar (p1 := "self") (pv := "numbers") sc_Amounts_init (fun kV doc pm an cdv ct us rest hu => match us, rest, hu with | [a], [], _ => rfl | [a], r :: rs, _ => rfl) (fun cdv Ar outer s H vs Q E hr h => ?_)
  obtain ⟨p, t, dx, ys, rfl, hp, ht, kG, kB⟩ := h
  refine ⟨_, (pss_cons (ps_if (pt_not (pt_chain op_le op_le pe_int (pe_callB (call_len_seqK K) (by rfl) T.n_len (by decide +kernel) (pa_cons (pv 1) pa_nil)) pe_int)) (pss_one (ps_raiseG rfl T.x_BadAmounts (ok_GangError_init T) (hr.mono (by decide)) T.b_GangError_init rfl T.g_BadAmounts (takes_of rfl rfl rfl rfl) (pv 1))) pss_nil)
      (pss_one (ps_fld (pv 0) (pv 1) rfl))), ?_⟩
  refine ⟨_, rfl, t, _, rfl, .inr (SqT.of ht), _, _, rfl, rfl, _, rfl, ?_⟩
  refine iteD (fun c1 => ?_) (fun c1 => ?_)
  · refine ⟨_, _, rfl, rfl, _, rfl, ?_⟩
    refine iteDN (fun c2 => ?_) (fun c2 => ?_)
    · exact ⟨_, rfl, _, rfl, p, A.c_Amounts, dx, _, rfl, hp, T.cl_Amounts, T.no_Amounts_numbers, (by show 0 < 1000; decide), kG ⟨by omega, by omega⟩⟩
    · exact ⟨_, rfl, raiseG_in T.x_BadAmounts fun d hd => kB (fun g => c2 (by have := g.2; omega)) d _ (same_new hd) upd_same⟩
  · refine ⟨_, rfl, iteT ?_⟩
    exact ⟨_, rfl, raiseG_in T.x_BadAmounts fun d hd => kB (fun g => c1 (by have := g.1; omega)) d _ (same_new hd) upd_same⟩
theorem ok_Amounts_add (T : Txt K mg A) : FnOk P w K mg base (L2.CX P w) 6 A.f_Amounts_add A.d_Amounts_add ["self", "other"] (spBin A (fun i j => i + j)) := by
  refine T.F_Amounts_add.okX sc_Amounts_add (fun vs H Q E h => ?_) (fun cdv Ar outer s H vs Q E hr h => ?_)
  · obtain ⟨a, b, xs, ys, rfl, _⟩ := h
    rfl
  · obtain ⟨a, b, xs, ys, rfl, hX, hY, hg, kG, kB⟩ := h
    refine ⟨_, (pss_cons (ps_expr (pe_call (ok_refuse_lengths T) (hr.mono (by decide)) rfl T.g_refuse_lengths T.F_refuse_lengths.kp T.b_refuse_lengths .nil (passes_call (takes_of rfl rfl rfl rfl) (fun _ _ _ _ h => h)) (pa_cons (pv 0) (pa_cons (pv 1) pa_nil))))
        (pss_cons (ps_setLc (i := 2) (own := [("one", 3), ("two", 4)]) (g := (gTup K 2 (gCons (gName 3) (gCons (gName 4) gNil)))) (tt := tYes) rfl sc_Amounts_add.nd rfl rfl (sw_true rfl rfl rfl (by decide +kernel)) (pi_zipK K rfl T.n_zip (pa_cons (pe_fldK K (pv 0) rfl) (pa_cons (pe_fldK K (pv 1) rfl) pa_nil))) (blkOk_by (N := ["self", "other", "numbers", "one", "two"]) (sc := defScope s_Amounts_add) (by decide +kernel)) (fun _ _ _ _ _ => (pg_tup rfl (pgs_cons (pg_name (i := 3) sc_Amounts_add.nd rfl (Or.inl rfl)) (pgs_cons (pg_name (i := 4) sc_Amounts_add.nd rfl (Or.inl rfl)) pgs_nil)))) (fun _ _ _ _ _ => pts_nil) (fun _ _ _ _ _ => (pe_op op_add (pv 3) (pv 4))))
        (pss_one (ps_ret (pe_makeStarK K T.mk_Amounts (ok_Amounts_init T) (hr.mono (by decide)) rfl T.g_Amounts (passes_call (takes_of rfl rfl rfl rfl) (fun _ _ _ _ h => h)) (pv 2)))))), ?_⟩
    obtain ⟨dx, t, hx, ht⟩ := id hX
    obtain ⟨dy, t2, hy, ht2⟩ := id hY
    refine ⟨_, rfl, _, rfl, a, b, xs, ys, rfl, hX, hY, fun he => ?_, fun hne => kB hne⟩
    refine ⟨_, rfl, a, A.c_Amounts, dx, _, _, rfl, hx, T.cl_Amounts, T.no_Amounts_numbers, afl_numbers _, _, rfl, b, A.c_Amounts, dy, _, _, rfl, hy, T.cl_Amounts, T.no_Amounts_numbers, afl_numbers _, t, t2, _, _, rfl, .inr ⟨SqT.of ht, SqT.of ht2, ?_⟩⟩
    intro D hD
    refine lc_it (walk_zipT (n := xs.length) (by rw [List.length_map, List.length_map]; omega)) (fun i H' => Same H H' ∧ H' D = some (.lst (((List.zipWith (fun i j => i + j) xs ys).take i).map V.int))) ⟨same_new hD, upd_same⟩ (fun i H' hi h => ⟨SqT.of (h.1 _ _ ht), SqT.of (h.1 _ _ ht2)⟩) ?_ ?_
    · rintro i x H' H'' hi ⟨s', hD'⟩ ⟨T1, v1, v2, rfl, hT1, rfl, e1, e2⟩
      obtain ⟨i1, g1, rfl⟩ := getMap e1
      obtain ⟨i2, g2, rfl⟩ := getMap e2
      have hDT : D ≠ T1 := ne_of_none hD' hT1
      refine ⟨T1, _, rfl, SqT.of upd_same, rfl, _, _, rfl, _, _, rfl, rfl, ?_⟩
      refine ⟨rfl, ?_⟩
      refine ⟨_, rfl, _, rfl, _, _, rfl, rfl, _, by rw [upd_ne hDT]; exact hD', small1000 (by rw [List.length_map, List.length_take]; have := hg.2; omega), same_put (s'.trans (same_new hT1)) hD, ?_⟩
      rw [upd_same]
      have hv : ((List.zipWith (fun i j => i + j) xs ys))[i]? = some ((fun i j => i + j) i1 i2) := by simp [List.getElem?_zipWith, g1, g2]
      rw [List.take_succ, hv, List.map_append]
      rfl
    · rintro H2 ⟨s2, hD2⟩
      rw [List.take_of_length_le (by rw [List.length_zipWith]; omega)] at hD2
      refine ⟨_, rfl, D, _, rfl, .inr (SqL.of hD2), ?_⟩
      exact amt_made ⟨by rw [List.length_zipWith]; have := hg.1; omega, by rw [List.length_zipWith]; have := hg.2; omega⟩ ((kG he).from s2)
theorem ok_Amounts_sub (T : Txt K mg A) : FnOk P w K mg base (L2.CX P w) 6 A.f_Amounts_sub A.d_Amounts_sub ["self", "other"] (spBin A (fun i j => i - j)) := by
  refine T.F_Amounts_sub.okX sc_Amounts_sub (fun vs H Q E h => ?_) (fun cdv Ar outer s H vs Q E hr h => ?_)
  · obtain ⟨a, b, xs, ys, rfl, _⟩ := h
    rfl
  · obtain ⟨a, b, xs, ys, rfl, hX, hY, hg, kG, kB⟩ := h
    refine ⟨_, (pss_cons (ps_expr (pe_call (ok_refuse_lengths T) (hr.mono (by decide)) rfl T.g_refuse_lengths T.F_refuse_lengths.kp T.b_refuse_lengths .nil (passes_call (takes_of rfl rfl rfl rfl) (fun _ _ _ _ h => h)) (pa_cons (pv 0) (pa_cons (pv 1) pa_nil))))
        (pss_cons (ps_setLc (i := 2) (own := [("one", 3), ("two", 4)]) (g := (gTup K 2 (gCons (gName 3) (gCons (gName 4) gNil)))) (tt := tYes) rfl sc_Amounts_sub.nd rfl rfl (sw_true rfl rfl rfl (by decide +kernel)) (pi_zipK K rfl T.n_zip (pa_cons (pe_fldK K (pv 0) rfl) (pa_cons (pe_fldK K (pv 1) rfl) pa_nil))) (blkOk_by (N := ["self", "other", "numbers", "one", "two"]) (sc := defScope s_Amounts_sub) (by decide +kernel)) (fun _ _ _ _ _ => (pg_tup rfl (pgs_cons (pg_name (i := 3) sc_Amounts_sub.nd rfl (Or.inl rfl)) (pgs_cons (pg_name (i := 4) sc_Amounts_sub.nd rfl (Or.inl rfl)) pgs_nil)))) (fun _ _ _ _ _ => pts_nil) (fun _ _ _ _ _ => (pe_op op_sub (pv 3) (pv 4))))
        (pss_one (ps_ret (pe_makeStarK K T.mk_Amounts (ok_Amounts_init T) (hr.mono (by decide)) rfl T.g_Amounts (passes_call (takes_of rfl rfl rfl rfl) (fun _ _ _ _ h => h)) (pv 2)))))), ?_⟩
    obtain ⟨dx, t, hx, ht⟩ := id hX
    obtain ⟨dy, t2, hy, ht2⟩ := id hY
    refine ⟨_, rfl, _, rfl, a, b, xs, ys, rfl, hX, hY, fun he => ?_, fun hne => kB hne⟩
    refine ⟨_, rfl, a, A.c_Amounts, dx, _, _, rfl, hx, T.cl_Amounts, T.no_Amounts_numbers, afl_numbers _, _, rfl, b, A.c_Amounts, dy, _, _, rfl, hy, T.cl_Amounts, T.no_Amounts_numbers, afl_numbers _, t, t2, _, _, rfl, .inr ⟨SqT.of ht, SqT.of ht2, ?_⟩⟩
    intro D hD
    refine lc_it (walk_zipT (n := xs.length) (by rw [List.length_map, List.length_map]; omega)) (fun i H' => Same H H' ∧ H' D = some (.lst (((List.zipWith (fun i j => i - j) xs ys).take i).map V.int))) ⟨same_new hD, upd_same⟩ (fun i H' hi h => ⟨SqT.of (h.1 _ _ ht), SqT.of (h.1 _ _ ht2)⟩) ?_ ?_
    · rintro i x H' H'' hi ⟨s', hD'⟩ ⟨T1, v1, v2, rfl, hT1, rfl, e1, e2⟩
      obtain ⟨i1, g1, rfl⟩ := getMap e1
      obtain ⟨i2, g2, rfl⟩ := getMap e2
      have hDT : D ≠ T1 := ne_of_none hD' hT1
      refine ⟨T1, _, rfl, SqT.of upd_same, rfl, _, _, rfl, _, _, rfl, rfl, ?_⟩
      refine ⟨rfl, ?_⟩
      refine ⟨_, rfl, _, rfl, _, _, rfl, rfl, _, by rw [upd_ne hDT]; exact hD', small1000 (by rw [List.length_map, List.length_take]; have := hg.2; omega), same_put (s'.trans (same_new hT1)) hD, ?_⟩
      rw [upd_same]
      have hv : ((List.zipWith (fun i j => i - j) xs ys))[i]? = some ((fun i j => i - j) i1 i2) := by simp [List.getElem?_zipWith, g1, g2]
      rw [List.take_succ, hv, List.map_append]
      rfl
    · rintro H2 ⟨s2, hD2⟩
      rw [List.take_of_length_le (by rw [List.length_zipWith]; omega)] at hD2
      refine ⟨_, rfl, D, _, rfl, .inr (SqL.of hD2), ?_⟩
      exact amt_made ⟨by rw [List.length_zipWith]; have := hg.1; omega, by rw [List.length_zipWith]; have := hg.2; omega⟩ ((kG he).from s2)
theorem ok_Amounts_mul (T : Txt K mg A) : FnOk P w K mg base (L2.CX P w) 6 A.f_Amounts_mul A.d_Amounts_mul ["self", "other"] (spMulA A) := by
  refine T.F_Amounts_mul.okX sc_Amounts_mul (fun vs H Q E h => ?_) (fun cdv Ar outer s H vs Q E hr h => ?_)
  · obtain ⟨a, xs, n, m, rfl, _⟩ := h
    rfl
  · obtain ⟨a, xs, n, m, rfl, hX, hg, hb, hn, h0, h1, k⟩ := h
    refine ⟨_, (pss_cons (ps_setLc (i := 2) (own := [("number", 3)]) (g := gName 3) (tt := tYes) rfl sc_Amounts_mul.nd rfl rfl (sw_true rfl rfl rfl (by decide +kernel)) (pi_tupK K (pe_fldK K (pv 0) rfl)) (blkOk_by (N := ["self", "other", "numbers", "number"]) (sc := defScope s_Amounts_mul) (by decide +kernel)) (fun _ _ _ _ _ => (pg_name (i := 3) sc_Amounts_mul.nd rfl (Or.inl rfl))) (fun _ _ _ _ _ => pts_nil) (fun _ _ _ _ _ => (pe_op op_mulX (pv 3) (pv 1))))
        (pss_one (ps_ret (pe_makeStarK K T.mk_Amounts (ok_Amounts_init T) (hr.mono (by decide)) rfl T.g_Amounts (passes_call (takes_of rfl rfl rfl rfl) (fun _ _ _ _ h => h)) (pv 2))))), ?_⟩
    obtain ⟨dx, t, hx, ht⟩ := id hX
    walk_at "gb go"
    rename_i D hD
    refine lc_tup (K := K) (a := t) (xs := xs.map V.int) (fun i H' => Same H H' ∧ H' D = some (.lst (((xs.map (· * n)).map V.int).take i))) ⟨same_new hD, upd_same⟩ (fun i H' hi h => SqT.of (h.1 _ _ ht)) ?_ ?_
    · rintro i x H' hi ⟨s', hD'⟩
      obtain ⟨i1, g1, rfl⟩ := getMap hi
      have hmem := List.mem_of_getElem? g1
      refine ⟨rfl, ?_⟩
      refine ⟨_, rfl, _, rfl, _, _, rfl, rfl, (hb _ hmem).ok hn h0 h0 (by omega), ?_⟩
      exact lc_put hD s' hD' (by rw [List.getElem?_map, List.getElem?_map, g1]; rfl) (by rw [List.length_map, List.length_map]; have := hg.2; omega)
    rintro H2 ⟨s2, hD2⟩
    rw [take_all (by simp)] at hD2
    refine ⟨_, rfl, D, _, rfl, .inr (SqL.of hD2), ?_⟩
    exact amt_made hg.map (k.from s2)
theorem ok_Amounts_rmul (T : Txt K mg A) : FnOk P w K mg base (L2.CX P w) 7 A.f_Amounts_rmul A.d_Amounts_rmul ["self", "other"] (spMulA A) := by
  refine T.F_Amounts_rmul.okX sc_Amounts_rmul (fun vs H Q E h => ?_) (fun cdv Ar outer s H vs Q E hr h => ?_)
  · obtain ⟨a, xs, n, m, rfl, _⟩ := h
    rfl
  · obtain ⟨a, xs, n, m, rfl, hX, hg, hb, hn, h0, h1, k⟩ := h
    refine ⟨_, (pss_one (ps_ret (pe_op (op_ownI T.me_Amounts_mul T.sf_Amounts T.i_Amounts_mul (ok_Amounts_mul T) (hr.mono (by decide)) T.b_Amounts_mul (passes_call (takes_of rfl rfl rfl rfl) (fun _ _ _ _ h => h))) (pv 0) (pv 1)))), ?_⟩
    obtain ⟨dx, t, hx, ht⟩ := id hX
    walk_at "gb go"
    exact k _ _ (by assumption) (by assumption)
theorem ok_Amounts_and (T : Txt K mg A) : FnOk P w K mg base (L2.CX P w) 6 A.f_Amounts_and A.d_Amounts_and ["self", "other"] (spBin A mn) := by
  refine T.F_Amounts_and.okX sc_Amounts_and (fun vs H Q E h => ?_) (fun cdv Ar outer s H vs Q E hr h => ?_)
  · obtain ⟨a, b, xs, ys, rfl, _⟩ := h
    rfl
  · obtain ⟨a, b, xs, ys, rfl, hX, hY, hg, kG, kB⟩ := h
    refine ⟨_, (pss_cons (ps_expr (pe_call (ok_refuse_lengths T) (hr.mono (by decide)) rfl T.g_refuse_lengths T.F_refuse_lengths.kp T.b_refuse_lengths .nil (passes_call (takes_of rfl rfl rfl rfl) (fun _ _ _ _ h => h)) (pa_cons (pv 0) (pa_cons (pv 1) pa_nil))))
        (pss_cons (ps_setLc (i := 2) (own := [("one", 3), ("two", 4)]) (g := (gTup K 2 (gCons (gName 3) (gCons (gName 4) gNil)))) (tt := tYes) rfl sc_Amounts_and.nd rfl rfl (sw_true rfl rfl rfl (by decide +kernel)) (pi_zipK K rfl T.n_zip (pa_cons (pe_fldK K (pv 0) rfl) (pa_cons (pe_fldK K (pv 1) rfl) pa_nil))) (blkOk_by (N := ["self", "other", "numbers", "one", "two"]) (sc := defScope s_Amounts_and) (by decide +kernel)) (fun _ _ _ _ _ => (pg_tup rfl (pgs_cons (pg_name (i := 3) sc_Amounts_and.nd rfl (Or.inl rfl)) (pgs_cons (pg_name (i := 4) sc_Amounts_and.nd rfl (Or.inl rfl)) pgs_nil)))) (fun _ _ _ _ _ => pts_nil) (fun _ _ _ _ _ => (pe_callB (call_min2 rfl) (by rfl) T.n_min (by decide +kernel) (pa_cons (pv 3) (pa_cons (pv 4) pa_nil)))))
        (pss_one (ps_ret (pe_makeStarK K T.mk_Amounts (ok_Amounts_init T) (hr.mono (by decide)) rfl T.g_Amounts (passes_call (takes_of rfl rfl rfl rfl) (fun _ _ _ _ h => h)) (pv 2)))))), ?_⟩
    obtain ⟨dx, t, hx, ht⟩ := id hX
    obtain ⟨dy, t2, hy, ht2⟩ := id hY
    refine ⟨_, rfl, _, rfl, a, b, xs, ys, rfl, hX, hY, fun he => ?_, fun hne => kB hne⟩
    refine ⟨_, rfl, a, A.c_Amounts, dx, _, _, rfl, hx, T.cl_Amounts, T.no_Amounts_numbers, afl_numbers _, _, rfl, b, A.c_Amounts, dy, _, _, rfl, hy, T.cl_Amounts, T.no_Amounts_numbers, afl_numbers _, t, t2, _, _, rfl, .inr ⟨SqT.of ht, SqT.of ht2, ?_⟩⟩
    intro D hD
    refine lc_it (walk_zipT (n := xs.length) (by rw [List.length_map, List.length_map]; omega)) (fun i H' => Same H H' ∧ H' D = some (.lst (((List.zipWith mn xs ys).take i).map V.int))) ⟨same_new hD, upd_same⟩ (fun i H' hi h => ⟨SqT.of (h.1 _ _ ht), SqT.of (h.1 _ _ ht2)⟩) ?_ ?_
    · rintro i x H' H'' hi ⟨s', hD'⟩ ⟨T1, v1, v2, rfl, hT1, rfl, e1, e2⟩
      obtain ⟨i1, g1, rfl⟩ := getMap e1
      obtain ⟨i2, g2, rfl⟩ := getMap e2
      have hDT : D ≠ T1 := ne_of_none hD' hT1
      refine ⟨T1, _, rfl, SqT.of upd_same, rfl, _, _, rfl, _, _, rfl, rfl, ?_⟩
      refine ⟨rfl, ?_⟩
      refine ⟨_, rfl, _, rfl, _, _, rfl, _, by rw [upd_ne hDT]; exact hD', small1000 (by rw [List.length_map, List.length_take]; have := hg.2; omega), same_put (s'.trans (same_new hT1)) hD, ?_⟩
      rw [upd_same]
      have hv : ((List.zipWith mn xs ys))[i]? = some (mn i1 i2) := by simp [List.getElem?_zipWith, g1, g2]
      rw [List.take_succ, hv, List.map_append]
      rfl
    · rintro H2 ⟨s2, hD2⟩
      rw [List.take_of_length_le (by rw [List.length_zipWith]; omega)] at hD2
      refine ⟨_, rfl, D, _, rfl, .inr (SqL.of hD2), ?_⟩
      exact amt_made ⟨by rw [List.length_zipWith]; have := hg.1; omega, by rw [List.length_zipWith]; have := hg.2; omega⟩ ((kG he).from s2)
theorem ok_Amounts_contains (T : Txt K mg A) : FnOk P w K mg base (L2.CX P w) 6 A.f_Amounts_contains A.d_Amounts_contains ["self", "x"] (spIn A) := by
  refine T.F_Amounts_contains.okX sc_Amounts_contains (fun vs H Q E h => ?_) (fun cdv Ar outer s H vs Q E hr h => ?_)
  · obtain ⟨a, b, xs, ys, rfl, _⟩ := h
    rfl
  · obtain ⟨a, b, xs, ys, rfl, hX, hY, hg, kG, kB⟩ := h
    refine ⟨_, (pss_cons (ps_expr (pe_call (ok_refuse_lengths T) (hr.mono (by decide)) rfl T.g_refuse_lengths T.F_refuse_lengths.kp T.b_refuse_lengths .nil (passes_call (takes_of rfl rfl rfl rfl) (fun _ _ _ _ h => h)) (pa_cons (pv 0) (pa_cons (pv 1) pa_nil))))
        (pss_one (ps_ret (pe_callB (cr_all rfl) (by rfl) T.n_all (by decide +kernel) (pa_cons (pe_lc (own := [("one", 2), ("two", 3)]) (g := (gTup K 2 (gCons (gName 2) (gCons (gName 3) gNil)))) (tt := tYes) rfl sc_Amounts_contains.nd (pi_zipK K rfl T.n_zip (pa_cons (pe_fldK K (pv 1) rfl) (pa_cons (pe_fldK K (pv 0) rfl) pa_nil))) (blkOk_by (N := ["self", "x", "one", "two"]) (sc := defScope s_Amounts_contains) (by decide +kernel)) (fun _ _ _ _ _ => (pg_tup rfl (pgs_cons (pg_name (i := 2) sc_Amounts_contains.nd rfl (Or.inl rfl)) (pgs_cons (pg_name (i := 3) sc_Amounts_contains.nd rfl (Or.inl rfl)) pgs_nil)))) (fun _ _ _ _ _ => pts_nil) (fun _ _ _ _ _ => (pe_cmpR op_le (pv 2) (pv 3) (nomark _)))) pa_nil))))), ?_⟩
    obtain ⟨dx, t, hx, ht⟩ := id hX
    obtain ⟨dy, t2, hy, ht2⟩ := id hY
    refine ⟨_, rfl, _, rfl, a, b, xs, ys, rfl, hX, hY, fun he => ?_, fun hne => kB hne⟩
    refine ⟨_, rfl, b, A.c_Amounts, dy, _, _, rfl, hy, T.cl_Amounts, T.no_Amounts_numbers, afl_numbers _, _, rfl, a, A.c_Amounts, dx, _, _, rfl, hx, T.cl_Amounts, T.no_Amounts_numbers, afl_numbers _, t2, t, _, _, rfl, .inr ⟨SqT.of ht2, SqT.of ht, ?_⟩⟩
    intro D hD
    refine lc_it (walk_zipT (n := xs.length) (by rw [List.length_map, List.length_map]; omega)) (fun i H' => Same H H' ∧ H' D = some (.lst (((List.zipWith (fun i j => decide (i ≤ j)) ys xs).take i).map V.bl))) ⟨same_new hD, upd_same⟩ (fun i H' hi h => ⟨SqT.of (h.1 _ _ ht2), SqT.of (h.1 _ _ ht)⟩) ?_ ?_
    · rintro i x H' H'' hi ⟨s', hD'⟩ ⟨T1, v1, v2, rfl, hT1, rfl, e1, e2⟩
      obtain ⟨i1, g1, rfl⟩ := getMap e1
      obtain ⟨i2, g2, rfl⟩ := getMap e2
      have hDT : D ≠ T1 := ne_of_none hD' hT1
      refine ⟨T1, _, rfl, SqT.of upd_same, rfl, _, _, rfl, _, _, rfl, rfl, ?_⟩
      refine ⟨rfl, ?_⟩
      refine ⟨_, rfl, _, rfl, _, _, rfl, rfl, _, by rw [upd_ne hDT]; exact hD', small1000 (by rw [List.length_map, List.length_take]; have := hg.2; omega), same_put (s'.trans (same_new hT1)) hD, ?_⟩
      rw [upd_same]
      have hv : ((List.zipWith (fun i j => decide (i ≤ j)) ys xs))[i]? = some (decide (i1 ≤ i2)) := by simp [List.getElem?_zipWith, g1, g2]
      rw [List.take_succ, hv, List.map_append]
      rfl
    · rintro H2 ⟨s2, hD2⟩
      rw [List.take_of_length_le (by rw [List.length_zipWith]; omega)] at hD2
      exact ⟨D, _, rfl, SqL.of hD2, kG he H2 s2⟩
theorem ok_Amounts_len (T : Txt K mg A) : FnOk P w K mg base CX0 1 A.f_Amounts_len A.d_Amounts_len ["self"] (spLen A) := by
  refine T.F_Amounts_len.ok sc_Amounts_len (fun vs H Q E h => ?_) (fun cdv Ar outer s H vs Q E hr h => ?_)
  · obtain ⟨a, dx, t, ys, rfl, _⟩ := h
    rfl
  · obtain ⟨a, dx, t, ys, rfl, ha, ht, k⟩ := h
    refine ⟨_, (pss_one (ps_ret (pe_callB (call_len_seqK K) (by rfl) T.n_len (by decide +kernel) (pa_cons (pe_fldK K (pv 0) rfl) pa_nil)))), ?_⟩
    exact ⟨_, rfl, a, A.c_Amounts, dx, _, _, rfl, ha, T.cl_Amounts, T.no_Amounts_numbers, afl_numbers _, t, _, rfl, .inr (SqT.of ht), k⟩
theorem ok_Amounts_iter (T : Txt K mg A) : FnOk P w K mg base CX0 1 A.f_Amounts_iter A.d_Amounts_iter ["self"] (spIter A) := by
  refine T.F_Amounts_iter.ok sc_Amounts_iter (fun vs H Q E h => ?_) (fun cdv Ar outer s H vs Q E hr h => ?_)
  · obtain ⟨a, dx, t, ys, rfl, _⟩ := h
    rfl
  · obtain ⟨a, dx, t, ys, rfl, ha, ht, k⟩ := h
    refine ⟨_, (pss_one (ps_ret (pe_callB (call_iterTK K) (by rfl) T.n_iter (by decide +kernel) (pa_cons (pe_fldK K (pv 0) rfl) pa_nil)))), ?_⟩
    exact ⟨_, rfl, a, A.c_Amounts, dx, _, _, rfl, ha, T.cl_Amounts, T.no_Amounts_numbers, afl_numbers _, t, _, rfl, SqT.of ht, k⟩
theorem ok_is_name (T : Txt K mg A) : FnOk P w K mg base CX0 1 A.f_is_name A.d_is_name ["text"] (spIsNm) := by
  refine T.F_is_name.ok sc_is_name (fun vs H Q E h => ?_) (fun cdv Ar outer s H vs Q E hr h => ?_)
  · obtain ⟨z, rfl, _⟩ := h
    rfl
  · obtain ⟨z, rfl, hz, k⟩ := h
    refine ⟨_, (pss_cons (ps_if (PW.pt (pw_or (pt_not (pt_chain op_le op_le pe_int (pe_callB call_len_str (by rfl) T.n_len (by decide +kernel) (pa_cons (pv 0) pa_nil)) pe_int)) (pw_or1 (pt_cmpR op_notIn_sign (pe_ix ix_str (pv 0) pe_int (fun _ _ => rfl)) (pe_glob (v := .str (Str.ofString "abcdefghijklmnopqrstuvwxyz")) rfl T.k_LETTERS.choose_spec ⟨_, rfl⟩) rfl)))) (pss_one (ps_ret pe_bl)) pss_nil)
        (pss_one (ps_ret (pe_callB (cr_all rfl) (by rfl) T.n_all (by decide +kernel) (pa_cons (pe_lc (own := [("char", 1)]) (g := gName 1) (tt := tYes) rfl sc_is_name.nd (pi_str (pv 0)) (blkOk_by (N := ["text", "char"]) (sc := defScope s_is_name) (by decide +kernel)) (fun _ _ _ _ _ => (pg_name (i := 1) sc_is_name.nd rfl (Or.inl rfl))) (fun _ _ _ _ _ => pts_nil) (fun _ _ _ _ _ => (pe_or (pe_cmpR op_in_sign (pv 1) (pe_glob (v := .str (Str.ofString "abcdefghijklmnopqrstuvwxyz")) rfl T.k_LETTERS.choose_spec ⟨_, rfl⟩) rfl) (pe_one (pe_cmpR op_in_sign (pv 1) (pe_glob (v := .str (Str.ofString "0123456789")) rfl T.k_DIGITS.choose_spec ⟨_, rfl⟩) rfl))))) pa_nil))))), ?_⟩
    obtain ⟨t, rfl, hn⟩ := hz.ex
    have hl := S_len t
    have h1 := hn.l1
    have h8 := hn.l8
    obtain ⟨c, hc⟩ : ∃ c, t[0]? = some c := ⟨_, List.getElem?_eq_getElem (by omega)⟩
    have hc0 : atI (S t).cps.toList 0 = some c := atI_nat (j := 0) hc
    have hcl : c ∈ (Str.ofString "abcdefghijklmnopqrstuvwxyz").cps.toList := hn.hd c hc
    walk_at "gb go"
    rename_i D hD
    refine lc_txt (t := t) (fun i Hq => Same H Hq ∧ Hq D = some (.lst (((List.replicate t.length true).map V.bl).take i))) ⟨same_new hD, upd_same⟩ ?_ ?_
    · rintro i c2 Hq hi ⟨s1, e1⟩
      have hi' : i < t.length := (List.getElem?_eq_some_iff.mp hi).1
      have hsl := @small_tt t.length i (by omega)
      have hch := hn.ch c2 (List.mem_of_getElem? hi)
      by_cases hm : c2 ∈ (Str.ofString "abcdefghijklmnopqrstuvwxyz").cps.toList
      · walk_at "gb go"
        all_goals (first | exact lc_end (tt_get hi') | (rw [decide_eq_true hm]; exact lc_end (tt_get hi')) | skip)
      · have hm2 : c2 ∈ (Str.ofString "0123456789").cps.toList := hch.elim (fun z => absurd z hm) id
        walk_at "gb go"
        all_goals (first | (rw [decide_eq_true hm2]; exact lc_end (tt_get hi')) | skip)
    · rintro Hq ⟨s9, e9⟩
      rw [take_all (by simp)] at e9
      walk_at "gb go"
      rw [all_tt]
      exact k _ (by walk_at "gb same")
theorem ok_names_after (T : Txt K mg A) : FnOk P w K mg base CX0 1 A.f_names_after A.d_names_after ["word", "wishes"] (spNAft) := by
  refine T.F_names_after.ok sc_names_after (fun vs H Q E h => ?_) (fun cdv Ar outer s H vs Q E hr h => ?_)
  · obtain ⟨w, a, ws, rfl, _⟩ := h
    rfl
  · obtain ⟨w, a, ws, rfl, ha, hw, hn, hl, k⟩ := h
    refine ⟨_, (pss_cons (ps_set (i := 2) sc_names_after.nd rfl (Or.inr rfl) (pe_op op_add_str (pv 0) pe_str))
        (pss_one (ps_ret (pe_lc (own := [("wish", 3)]) (g := gName 3) rfl sc_names_after.nd (pi_tupK K (pv 1)) (blkOk_by (N := ["word", "wishes", "start", "wish"]) (sc := defScope s_names_after) (by decide +kernel)) (fun _ _ _ _ _ => (pg_name (i := 3) sc_names_after.nd rfl (Or.inl rfl))) (fun _ _ _ _ _ => pts_one (by exact (pt_val (pe_bmK K PySem.F.plainAttrs_str PySem.F.slot_str_startswith PySem.F.type_str_startswith mt_startswith (pv 3) (pa_cons (pv 2) pa_nil)) (by intro _; rfl)))) (fun _ _ _ _ _ => (pe_slice sl_str (pv 3) (po_some (pe_callB call_len_str (by rfl) T.n_len (by decide +kernel) (pa_cons (pv 2) pa_nil))) po_none)))))), ?_⟩
    have hcol : (Str.ofString ":").length = 1 := by decide +kernel
    have hst : (w ++ Str.ofString ":").length ≤ 11 := by rw [Str.length_append]; omega
    walk_at "gb go"
    rename_i D hD
    refine lc_tup (K := K) (a := a) (xs := ws.map V.str) (fun i Hq => Same H Hq ∧ Hq D = some (.lst ((nAft w (ws.take i)).map V.str))) ⟨same_new hD, upd_same⟩ (fun i Hq _ h => SqT.of (h.1 _ _ ha)) ?_ ?_
    · rintro i x Hq hi ⟨s1, e1⟩
      obtain ⟨z, hz, rfl⟩ := get_map hi
      have hzl := hl z (List.mem_of_getElem? hz)
      have hsl : ((nAft w (ws.take i)).map V.str).length < sizeLine := by
        rw [List.length_map, sizeLine_eq]
        have := @nAft_len w (ws.take i)
        rw [List.length_take] at this
        omega
      have hst2 := @nAft_step w ws i z hz
      walk_at "gb go"
      · rename_i hx
        rw [hst2, if_pos hx, List.map_append]
        exact upd_same
      · rename_i hx
        rw [hst2, if_neg (by rw [hx]; decide), List.append_nil]
        exact e1
    · rintro Hq ⟨s1, e1⟩
      rw [List.length_map, List.take_length] at e1
      walk_at "gb go"
      exact k _ _ s1 e1
theorem ok_path_of (T : Txt K mg A) : FnOk P w K mg base CX0 1 A.f_path_of A.d_path_of ["groups", "at"] (spPath) := by
  refine T.F_path_of.ok sc_path_of (fun vs H Q E h => ?_) (fun cdv Ar outer s H vs Q E hr h => ?_)
  · obtain ⟨a, g, rfl, _⟩ := h
    rfl
  · obtain ⟨a, g, rfl, ha, hg, k⟩ := h
    refine ⟨_, (pss_cons (ps_setLc (i := 2) (own := [("row", 4)]) (g := gName 4) (tt := tYes) rfl sc_path_of.nd rfl rfl (sw_true rfl rfl rfl (by decide +kernel)) (pi_listK K (pv 0)) (blkOk_by (N := ["groups", "at", "names", "path", "row"]) (sc := defScope s_path_of) (by decide +kernel)) (fun _ _ _ _ _ => (pg_name (i := 4) sc_path_of.nd rfl (Or.inl rfl))) (fun _ _ _ _ _ => pts_nil) (fun _ _ _ _ _ => (pe_ix (ix_tupK K) (pv 4) pe_int (fun _ _ => rfl))))
        (pss_cons (ps_set (i := 3) sc_path_of.nd rfl (Or.inl rfl) (pe_lst (pa_cons (pv 1) pa_nil)))
        (pss_cons (ps_while PassesOwn.never (pt_cmpR op_ne (pe_ix (ix_tupK K) (pe_ix (ix_listK K) (pv 0) (pe_ix (ix_listK K) (pv 3) pe_int (fun _ _ => rfl)) (fun _ _ => rfl)) pe_int (fun _ _ => rfl)) pe_str (nomark _)) (pss_one (ps_set (i := 3) sc_path_of.nd rfl (Or.inl rfl) (pe_lst (pa_cons (pe_bm PySem.F.plainAttrs_list PySem.F.slot_list_index PySem.F.type_list_index mt_index (pv 2) (pa_cons (pe_ix (ix_tupK K) (pe_ix (ix_listK K) (pv 0) (pe_ix (ix_listK K) (pv 3) pe_int (fun _ _ => rfl)) (fun _ _ => rfl)) pe_int (fun _ _ => rfl)) pa_nil)) (StX.pa_star (pv 3) pa_nil))))))
        (pss_one (ps_ret (pe_callTy call_tuple_of (by rfl) T.n_tuple (by decide +kernel) (pa_cons (pv 3) pa_nil))))))), ?_⟩
    walk_at "gb go"
    rename_i D hD
    refine lc_list (K := K) (a := a) (xs := [V.ref g.a]) (fun i Hq => Same H Hq ∧ LenL Hq D i) ⟨same_new hD, [], upd_same, rfl⟩ (fun i Hq _ h => SqL.of (h.1 _ _ ha)) ?_ ?_
    · rintro i x Hq hi ⟨s1, ns, e1, hnl⟩
      obtain rfl : i = 0 := by have := (List.getElem?_eq_some_iff.mp hi).1; simp at this; exact this
      obtain rfl : x = V.ref g.a := by simpa using hi.symm
      have ge := s1 _ _ hg.e
      have hsl : ns.length < sizeLine := by rw [sizeLine_eq]; omega
      walk_at "gb go"
      exact ⟨_, upd_same, by rw [List.length_append, hnl]; rfl⟩
    · rintro Hq ⟨s1, ns, e1, hnl⟩
      have ge := s1 _ _ hg.e
      have ha1 := s1 _ _ ha
      walk_at "gb go"
      rename_i p hp
      have s2 : Same H (upd Hq p (.lst [.int 0])) := same_nw s1 hp
      have ge2 : (upd Hq p (.lst [.int 0])) g.a = some (.tup [.str g.nm, .str (Str.ofString ""), .int 1, .ref g.fa, .non]) := by walk_at "gb hp"
      have ha2 : (upd Hq p (.lst [.int 0])) a = some (.lst [.ref g.a]) := by walk_at "gb hp"
      have hp2 : (upd Hq p (.lst [.int 0])) p = some (.lst ([(0 : Int)].map V.int)) := upd_same
      clear hp
      generalize upd Hq p (.lst [.int 0]) = H5 at s2 ge2 ha2 hp2 ⊢
      refine ⟨fun m σ' H' => m = 0 ∧ σ' = [some (.ref a), some (.int 0), some (.ref D), some (.ref p), none] ∧ H' = H5, ⟨0, rfl, rfl, rfl⟩, ?_⟩
      rintro m σ' H' ⟨rfl, rfl, rfl⟩
      walk_at "gb go"
      exact k _ _ (by walk_at "gb same") upd_same
theorem ok_leaf_names (T : Txt K mg A) : FnOk P w K mg base CX0 1 A.f_leaf_names A.d_leaf_names ["groups"] (spLeaf) := by
  refine T.F_leaf_names.ok sc_leaf_names (fun vs H Q E h => ?_) (fun cdv Ar outer s H vs Q E hr h => ?_)
  · obtain ⟨a, g, rfl, _⟩ := h
    rfl
  · obtain ⟨a, g, rfl, ha, hg, hn, k⟩ := h
    refine ⟨_, (pss_cons (ps_set (i := 1) sc_leaf_names.nd rfl (Or.inr rfl) (pe_lc (own := [("row", 2)]) (g := gName 2) (tt := tYes) rfl sc_leaf_names.nd (pi_listK K (pv 0)) (blkOk_by (N := ["groups", "parents", "row"]) (sc := defScope s_leaf_names) (by decide +kernel)) (fun _ _ _ _ _ => (pg_name (i := 2) sc_leaf_names.nd rfl (Or.inl rfl))) (fun _ _ _ _ _ => pts_nil) (fun _ _ _ _ _ => (pe_ix (ix_tupK K) (pv 2) pe_int (fun _ _ => rfl)))))
        (pss_one (ps_ret (pe_lc (own := [("row", 2)]) (g := gName 2) rfl sc_leaf_names.nd (pi_listK K (pv 0)) (blkOk_by (N := ["groups", "parents", "row"]) (sc := defScope s_leaf_names) (by decide +kernel)) (fun _ _ _ _ _ => (pg_name (i := 2) sc_leaf_names.nd rfl (Or.inl rfl))) (fun _ _ _ _ _ => pts_one (pt_cmpR (op_notIn_seqK K) (pe_ix (ix_tupK K) (pv 2) pe_int (fun _ _ => rfl)) (pv 1) rfl)) (fun _ _ _ _ _ => (pe_ix (ix_tupK K) (pv 2) pe_int (fun _ _ => rfl))))))), ?_⟩
    have hne := hn.ne
    walk_at "gb go"
    rename_i D hD
    refine lc_list (K := K) (a := a) (xs := [V.ref g.a]) (fun i Hq => Same H Hq ∧ Hq D = some (.lst (([Str.ofString ""].map V.str).take i))) ⟨same_new hD, upd_same⟩ (fun i Hq _ h => SqL.of (h.1 _ _ ha)) ?_ ?_
    · rintro i x Hq hi ⟨s1, e1⟩
      obtain rfl : i = 0 := by have := (List.getElem?_eq_some_iff.mp hi).1; simp at this; exact this
      obtain rfl : x = V.ref g.a := by simpa using hi.symm
      have ge := s1 _ _ hg.e
      walk_at "gb go"
      exact upd_same
    · rintro Hq ⟨s1, e1⟩
      have ha1 := s1 _ _ ha
      have e1 : Hq D = some (.lst ([Str.ofString ""].map V.str)) := e1
      have hg1 := hg.mono (Same.tups s1)
      walk_at "gb go"
      rename_i D2 hD2
      refine lc_list (K := K) (a := a) (xs := [V.ref g.a]) (fun i H2 => Same Hq H2 ∧ H2 D2 = some (.lst (([g.nm].map V.str).take i))) ⟨same_new hD2, upd_same⟩ (fun i H2 _ h => SqL.of (h.1 _ _ ha1)) ?_ ?_
      · rintro i x H2 hi ⟨s2, e2⟩
        obtain rfl : i = 0 := by have := (List.getElem?_eq_some_iff.mp hi).1; simp at this; exact this
        obtain rfl : x = V.ref g.a := by simpa using hi.symm
        have ge := s2 _ _ hg1.e
        have e3 := s2 _ _ e1
        have hni : ¬ g.nm ∈ [Str.ofString ""] := fun z => hne (by rw [List.mem_singleton.mp z])
        walk_at "gb go"
        exact upd_same
      · rintro H2 ⟨s2, e2⟩
        walk_at "gb go"
        exact k _ _ (s1.trans s2) e2
theorem ok_is_name_new (T : Txt K mg A) : FnOk P w K mg base CX0 2 A.f_is_name_new A.d_is_name_new ["names", "at"] (spNew) := by
  refine T.F_is_name_new.ok sc_is_name_new (fun vs H Q E h => ?_) (fun cdv Ar outer s H vs Q E hr h => ?_)
  · obtain ⟨a, l, i, rfl, _⟩ := h
    rfl
  · obtain ⟨a, l, i, rfl, ha, hi, hl, hd, hn, k⟩ := h
    refine ⟨_, (pss_one (ps_ret (pe_and (pe_call (ok_is_name T) (hr.mono (by decide)) rfl T.g_is_name T.F_is_name.kp T.b_is_name .nil pass0 (pa_cons (pe_ix (ix_seqK K) (pv 0) (pv 1) (fun _ _ => rfl)) pa_nil)) (pe_one (pe_cmpR (op_notIn_seqK K) (pe_ix (ix_seqK K) (pv 0) (pv 1) (fun _ _ => rfl)) (pe_slice (sl_seqE K) (pv 0) po_none (po_some (pv 1))) rfl))))), ?_⟩
    obtain ⟨z, hz⟩ : ∃ z, l[i]? = some z := ⟨_, List.getElem?_eq_getElem hi⟩
    have hat : atI (l.map V.str) (i : Int) = some (.str z) := atI_nat (by rw [List.getElem?_map, hz]; rfl)
    have hnz := hn z (List.mem_of_getElem? hz)
    have hnt := nodup_take hd hz
    have hiv : inV (.str z) ((l.take i).map V.str) = false := by rw [inV_strs, decide_eq_false hnt]
    have hcut : cutV (l.map V.str) none (some (i : Int)) = (l.take i).map V.str := cut_lo l i
    rcases ha with ha | ha
    · walk_at "gb go"
      rename_i H2 s2
      have ha2 := s2 _ _ ha
      refine .inl ⟨a, _, rfl, SqL.of ha2, fun p hp => ?_⟩
      rw [hcut]
      walk_at "gb go"
      show Q (V.bl (!inV (V.str z) ((l.take i).map V.str))) _
      rw [hiv]
      exact k _ (by walk_at "gb same")
    · walk_at "gb go"
      rename_i H2 s2
      have ha2 := s2 _ _ ha
      refine .inr ⟨a, _, rfl, ha2, fun p H3 s3 e3 => ?_⟩
      rw [hcut] at e3
      walk_at "gb go"
      show Q (V.bl (!inV (V.str z) ((l.take i).map V.str))) _
      rw [hiv]
      exact k _ (by walk_at "gb same")
theorem ok_are_names (T : Txt K mg A) : FnOk P w K mg base CX0 3 A.f_are_names A.d_are_names ["texts"] (spAre) := by
  refine T.F_are_names.ok sc_are_names (fun vs H Q E h => ?_) (fun cdv Ar outer s H vs Q E hr h => ?_)
  · obtain ⟨a, l, rfl, _⟩ := h
    rfl
  · obtain ⟨a, l, rfl, ha, hl, hd, hn, k⟩ := h
    refine ⟨_, (pss_one (ps_ret (pe_callB (cr_all rfl) (by rfl) T.n_all (by decide +kernel) (pa_cons (pe_lc (own := [("at", 1)]) (g := gName 1) (tt := tYes) rfl sc_are_names.nd (pi_range1 rfl T.n_range (pa_cons (pe_callB (call_len_seqK K) (by rfl) T.n_len (by decide +kernel) (pa_cons (pv 0) pa_nil)) pa_nil)) (blkOk_by (N := ["texts", "at"]) (sc := defScope s_are_names) (by decide +kernel)) (fun _ _ _ _ _ => (pg_name (i := 1) sc_are_names.nd rfl (Or.inl rfl))) (fun _ _ _ _ _ => pts_nil) (fun _ _ _ _ _ => (pe_call (ok_is_name_new T) (hr.mono (by decide)) rfl T.g_is_name_new T.F_is_name_new.kp T.b_is_name_new .nil pass0 (pa_cons (pv 0) (pa_cons (pv 1) pa_nil))))) pa_nil)))), ?_⟩
    walk_at "gb go"
    rename_i D hD
    refine lc_range (lo := 0) (n := (((l.map V.str).length : Nat) : Int).toNat) (fun i Hq => Same H Hq ∧ Hq D = some (.lst (((List.replicate l.length true).map V.bl).take i))) ⟨same_new hD, upd_same⟩ ?_ ?_
    · rintro i Hq hi ⟨s1, e1⟩
      have hi' : i < l.length := by simpa using hi
      have hsl := @small_tt l.length i (by omega)
      walk_at "gb go"
      all_goals exact lc_end (tt_get hi')
    · rintro Hq ⟨s9, e9⟩
      rw [take_all (by simp)] at e9
      walk_at "gb go"
      rw [all_tt]
      exact k _ (by walk_at "gb same")
theorem ok_amounts_fit (T : Txt K mg A) : FnOk P w K mg base CX0 1 A.f_amounts_fit A.d_amounts_fit ["numbers", "many"] (spAFit) := by
  refine T.F_amounts_fit.ok sc_amounts_fit (fun vs H Q E h => ?_) (fun cdv Ar outer s H vs Q E hr h => ?_)
  · obtain ⟨a, xs, n, rfl, _⟩ := h
    rfl
  · obtain ⟨a, xs, n, rfl, ha, hx, hk, k⟩ := h
    refine ⟨_, (pss_one (ps_ret (pe_and (pe_cmpR op_eq (pe_callB (call_len_seqK K) (by rfl) T.n_len (by decide +kernel) (pa_cons (pv 0) pa_nil)) (pv 1) (nomark _)) (pe_one (pe_callB (cr_all rfl) (by rfl) T.n_all (by decide +kernel) (pa_cons (pe_lc (own := [("number", 2)]) (g := gName 2) (tt := tYes) rfl sc_amounts_fit.nd (pi_tupK K (pv 0)) (blkOk_by (N := ["numbers", "many", "number"]) (sc := defScope s_amounts_fit) (by decide +kernel)) (fun _ _ _ _ _ => (pg_name (i := 2) sc_amounts_fit.nd rfl (Or.inl rfl))) (fun _ _ _ _ _ => pts_nil) (fun _ _ _ _ _ => (pe_chain op_le op_le pe_int (pv 2) (pe_glob (v := .int 9999) rfl T.k_GREATEST_AMOUNT.choose_spec ⟨_, rfl⟩)))) pa_nil)))))), ?_⟩
    have hxl := hx.len
    walk_at "gb go"
    · rename_i hh D hD
      refine lc_tup (K := K) (a := a) (xs := xs.map V.int) (fun i Hq => Same H Hq ∧ Hq D = some (.lst (((List.replicate xs.length true).map V.bl).take i))) ⟨same_new hD, upd_same⟩ (fun i Hq _ h => SqT.of (h.1 _ _ ha)) ?_ ?_
      · rintro i x Hq hi ⟨s1, e1⟩
        obtain ⟨z, hz, rfl⟩ := get_map hi
        have hi' : i < xs.length := (List.getElem?_eq_some_iff.mp hz).1
        have hsl := @small_tt xs.length i (by omega)
        obtain ⟨r0, r1⟩ := hx.rng z (List.mem_of_getElem? hz)
        walk_at "gb go"
        show upd Hq D (.lst (_ ++ [V.bl (decide (z ≤ 9999))])) D = _
        rw [decide_eq_true r1]
        exact lc_end (tt_get hi')
      · rintro Hq ⟨s9, e9⟩
        rw [take_all (by simp)] at e9
        walk_at "gb go"
        rw [all_tt]
        exact k _ (by walk_at "gb same")
    · rename_i hh
      exact absurd (by rw [List.length_map, hxl]) hh
theorem ok_some_amounts_fit (T : Txt K mg A) : FnOk P w K mg base CX0 2 A.f_some_amounts_fit A.d_some_amounts_fit ["numbers", "many"] (spSFit) := by
  refine T.F_some_amounts_fit.ok sc_some_amounts_fit (fun vs H Q E h => ?_) (fun cdv Ar outer s H vs Q E hr h => ?_)
  · obtain ⟨a, xs, n, rfl, _⟩ := h
    rfl
  · obtain ⟨a, xs, n, rfl, ha, hx, hp, hk, k⟩ := h
    refine ⟨_, (pss_one (ps_ret (pe_and (pe_call (ok_amounts_fit T) (hr.mono (by decide)) rfl T.g_amounts_fit T.F_amounts_fit.kp T.b_amounts_fit .nil pass0 (pa_cons (pv 0) (pa_cons (pv 1) pa_nil))) (pe_one (pe_callB (cr_any rfl) (by rfl) T.n_any (by decide +kernel) (pa_cons (pe_lc (own := [("number", 2)]) (g := gName 2) (tt := tYes) rfl sc_some_amounts_fit.nd (pi_tupK K (pv 0)) (blkOk_by (N := ["numbers", "many", "number"]) (sc := defScope s_some_amounts_fit) (by decide +kernel)) (fun _ _ _ _ _ => (pg_name (i := 2) sc_some_amounts_fit.nd rfl (Or.inl rfl))) (fun _ _ _ _ _ => pts_nil) (fun _ _ _ _ _ => (pe_cmpR op_gt (pv 2) pe_int (nomark _)))) pa_nil)))))), ?_⟩
    have hxl := hx.len
    walk_at "gb go"
    rename_i H2 s2 D hD
    refine lc_tup (K := K) (a := a) (xs := xs.map V.int) (fun i Hq => Same H2 Hq ∧ Hq D = some (.lst (((xs.map fun z => decide (0 < z)).map V.bl).take i))) ⟨same_new hD, upd_same⟩ (fun i Hq _ h => SqT.of (h.1 _ _ (s2 _ _ ha))) ?_ ?_
    · rintro i x Hq hi ⟨s1, e1⟩
      obtain ⟨z, hz, rfl⟩ := get_map hi
      have hsl : (((xs.map fun z => decide (0 < z)).map V.bl).take i).length < sizeLine := by rw [List.length_take, List.length_map, List.length_map, sizeLine_eq]; omega
      walk_at "gb go"
      exact lc_end (by rw [List.getElem?_map, List.getElem?_map, hz]; rfl)
    · rintro Hq ⟨s1, e1⟩
      rw [take_all (by simp)] at e1
      have hany : ((xs.map fun z => decide (0 < z)).any id) = true := by
        obtain ⟨x, hx1, hx2⟩ := hp
        rw [List.any_eq_true]
        exact ⟨true, List.mem_map.mpr ⟨x, hx1, decide_eq_true hx2⟩, rfl⟩
      walk_at "gb go"
      rw [hany]
      exact k _ (by walk_at "gb same")
theorem ok_machine_fits (T : Txt K mg A) : FnOk P w K mg base CX0 4 A.f_machine_fits A.d_machine_fits ["machines", "at", "many"] (spMFit) := by
  refine T.F_machine_fits.ok sc_machine_fits (fun vs H Q E h => ?_) (fun cdv Ar outer s H vs Q E hr h => ?_)
  · obtain ⟨a, ms, i, n, rfl, _⟩ := h
    rfl
  · obtain ⟨a, ms, i, n, rfl, ha, hM, hi, hl, hd, hok, hk, k⟩ := h
    refine ⟨_, (pss_cons (ps_asg (pe_ix (ix_listK K) (pv 0) (pv 1) (fun _ _ => rfl)) (pg_tup rfl (pgs_cons (pg_name (i := 3) sc_machine_fits.nd rfl (Or.inl rfl)) (pgs_cons (pg_name (i := 4) sc_machine_fits.nd rfl (Or.inl rfl)) (pgs_cons (pg_name (i := 5) sc_machine_fits.nd rfl (Or.inl rfl)) (pgs_cons (pg_name (i := 6) sc_machine_fits.nd rfl (Or.inl rfl)) pgs_nil))))))
        (pss_cons (ps_if (PW.pt (pw_or (pt_not (pt_val (pe_call (ok_is_name_new T) (hr.mono (by decide)) rfl T.g_is_name_new T.F_is_name_new.kp T.b_is_name_new .nil pass0 (pa_cons (pe_lc (own := [("row", 7)]) (g := gName 7) (tt := tYes) rfl sc_machine_fits.nd (pi_listK K (pv 0)) (blkOk_by (N := ["machines", "at", "many", "_", "zone", "labels", "numbers", "row"]) (sc := defScope s_machine_fits) (by decide +kernel)) (fun _ _ _ _ _ => (pg_name (i := 7) sc_machine_fits.nd rfl (Or.inl rfl))) (fun _ _ _ _ _ => pts_nil) (fun _ _ _ _ _ => (pe_ix (ix_tupK K) (pv 7) pe_int (fun _ _ => rfl)))) (pa_cons (pv 1) pa_nil))) (by intro _; rfl))) (pw_or1 (pt_not (pt_val (pe_call (ok_is_name T) (hr.mono (by decide)) rfl T.g_is_name T.F_is_name.kp T.b_is_name .nil pass0 (pa_cons (pv 4) pa_nil)) (by intro _; rfl)))))) (pss_one (ps_ret pe_bl)) pss_nil)
        (pss_one (ps_ret (pe_and (pe_cmpR op_le (pe_callB (call_len_seqK K) (by rfl) T.n_len (by decide +kernel) (pa_cons (pv 5) pa_nil)) (pe_glob (v := .int 6) rfl T.k_MOST_LABELS.choose_spec ⟨_, rfl⟩) (nomark _)) (pe_and (pe_call (ok_are_names T) (hr.mono (by decide)) rfl T.g_are_names T.F_are_names.kp T.b_are_names .nil pass0 (pa_cons (pv 5) pa_nil)) (pe_one (pe_call (ok_some_amounts_fit T) (hr.mono (by decide)) rfl T.g_some_amounts_fit T.F_some_amounts_fit.kp T.b_some_amounts_fit .nil pass0 (pa_cons (pv 6) (pa_cons (pv 2) pa_nil)))))))))), ?_⟩
    obtain ⟨r, hr⟩ : ∃ r, ms[i]? = some r := ⟨_, List.getElem?_eq_getElem hi⟩
    have hat : atI (ms.map fun r => V.ref r.a) (i : Int) = some (.ref r.a) := atI_nat (by rw [List.getElem?_map, hr]; rfl)
    have hrm := List.mem_of_getElem? hr
    have hre := (hM r hrm).e
    have hrl := (hM r hrm).l
    have hrn := (hM r hrm).n
    have o := hok r hrm
    walk_at "gb go"
    rename_i D hD
    refine lc_list (K := K) (a := a) (xs := ms.map fun r => V.ref r.a) (fun i Hq => Same H Hq ∧ Hq D = some (.lst (((ms.map (·.nm)).map V.str).take i))) ⟨same_new hD, upd_same⟩ (fun i Hq _ h => SqL.of (h.1 _ _ ha)) ?_ ?_
    · rintro i2 x Hq hi2 ⟨s1, e1⟩
      obtain ⟨r, hr, rfl⟩ := get_map hi2
      have hre := s1 _ _ (hM r (List.mem_of_getElem? hr)).e
      have hi3 : i2 < ms.length := (List.getElem?_eq_some_iff.mp hr).1
      have hsl : (((ms.map (·.nm)).map V.str).take i2).length < sizeLine := by rw [List.length_take, sizeLine_eq]; omega
      walk_at "gb go"
      exact lc_end (by rw [List.getElem?_map, List.getElem?_map, hr]; rfl)
    · rintro Hq ⟨s1, e1⟩
      rw [take_all (by simp)] at e1
      have h6 := o.l6
      have hnl : (ms.map (·.nm)).length = ms.length := List.length_map ..
      have hnm : ∀ z ∈ ms.map (·.nm), Nm z := fun z hz => by
        obtain ⟨q, hq, rfl⟩ := List.mem_map.mp hz
        exact (hok q hq).nm
      have hz := o.zn
      have hnd := o.nd
      have hln := o.ln
      have hnum := o.num
      have hpos := o.pos
      walk_at "gb go"
      · exact k _ (by walk_at "gb same")
      · rename_i hh
        exact absurd (by rw [List.length_map]; omega) hh
theorem ok_limit_fits (T : Txt K mg A) : FnOk P w K mg base CX0 7 A.f_limit_fits A.d_limit_fits ["floor", "limit"] (spLim) := by
  refine T.F_limit_fits.ok sc_limit_fits (fun vs H Q E h => ?_) (fun cdv Ar outer s H vs Q E hr h => ?_)
  · obtain ⟨f, rfl, _⟩ := h
    rfl
  · obtain ⟨f, rfl, k⟩ := h
    refine ⟨_, (pss_cons (ps_if (pt_cmpR op_isN (pv 1) pe_non (nomark _)) (pss_one (ps_ret pe_bl)) pss_nil)
        (pss_one (ps_ret (pe_and (pe_call (ok_amounts_fit T) (hr.mono (by decide)) rfl T.g_amounts_fit T.F_amounts_fit.kp T.b_amounts_fit .nil pass0 (pa_cons (pv 1) (pa_cons (pe_callB (call_len_seqK K) (by rfl) T.n_len (by decide +kernel) (pa_cons (pv 0) pa_nil)) pa_nil))) (pe_one (pe_cmpR (op_inOwn T.me_Amounts_contains (ok_Amounts_contains T) (hr.mono (by decide)) T.b_Amounts_contains passL) (pe_makeStarK K T.mk_Amounts (ok_Amounts_init T) (hr.mono (by decide)) rfl T.g_Amounts passL (pv 0)) (pe_makeStarK K T.mk_Amounts (ok_Amounts_init T) (hr.mono (by decide)) rfl T.g_Amounts passL (pv 1)) (by rfl))))))), ?_⟩
    walk_at "gb go"
    exact k
theorem ok_floors_fit (T : Txt K mg A) : FnOk P w K mg base CX0 9 A.f_floors_fit A.d_floors_fit ["groups", "at", "total"] (spFloors A) := by
  refine T.F_floors_fit.ok sc_floors_fit (fun vs H Q E h => ?_) (fun cdv Ar outer s H vs Q E hr h => ?_)
  · obtain ⟨a, t, g, xs, rfl, _⟩ := h
    rfl
  · obtain ⟨a, t, g, xs, rfl, ha, hg, hn, hX, hxn, hf, hp, hb, k⟩ := h
    refine ⟨_, (pss_cons (ps_set (i := 3) sc_floors_fit.nd rfl (Or.inl rfl) (pe_ix (ix_tupK K) (pe_ix (ix_listK K) (pv 0) (pv 1) (fun _ _ => rfl)) pe_int (fun _ _ => rfl)))
        (pss_cons (ps_set (i := 4) sc_floors_fit.nd rfl (Or.inl rfl) (pv 2))
        (pss_cons (ps_set (i := 5) sc_floors_fit.nd rfl (Or.inl rfl) (pe_op (op_iown intMul T.me_Amounts_mul T.me_Amounts_rmul T.sf_Amounts T.si_Amounts (ok_Amounts_rmul T) (hr.mono (by decide)) T.b_Amounts_rmul passL) pe_int (pv 2)))
        (pss_cons (ps_for PassesOwn.never rfl (pi_listK K (pe_slice sl_list (pv 0) po_none (po_some (pe_op op_add (pv 1) pe_int)))) (pg_tup rfl (pgs_cons (pg_name (i := 6) sc_floors_fit.nd rfl (Or.inl rfl)) (pgs_cons (pg_name (i := 7) sc_floors_fit.nd rfl (Or.inl rfl)) (pgs_cons (pg_name (i := 8) sc_floors_fit.nd rfl (Or.inl rfl)) (pgs_cons (pg_name (i := 9) sc_floors_fit.nd rfl (Or.inl rfl)) (pgs_cons (pg_name (i := 8) sc_floors_fit.nd rfl (Or.inl rfl)) pgs_nil))))))
        (pss_cons (ps_if (pt_cmpR op_eq (pv 6) (pv 3) (nomark _)) (pss_one (ps_set (i := 4) sc_floors_fit.nd rfl (Or.inl rfl) (pe_makeStarK K T.mk_Amounts (ok_Amounts_init T) (hr.mono (by decide)) rfl T.g_Amounts passL (pv 9)))) pss_nil)
        (pss_one (ps_if (pt_cmpR op_eq (pv 7) (pv 3) (nomark _)) (pss_one (ps_set (i := 5) sc_floors_fit.nd rfl (Or.inl rfl) (pe_op (op_own T.me_Amounts_add T.sf_Amounts (ok_Amounts_add T) (hr.mono (by decide)) T.b_Amounts_add passL) (pv 5) (pe_makeStarK K T.mk_Amounts (ok_Amounts_init T) (hr.mono (by decide)) rfl T.g_Amounts passL (pv 9))))) pss_nil))))
        (pss_one (ps_ret (pe_cmpR (op_inOwn T.me_Amounts_contains (ok_Amounts_contains T) (hr.mono (by decide)) T.b_Amounts_contains passL) (pv 5) (pv 4) (by rfl)))))))), ?_⟩
    have ge := hg.e
    have gf := hg.f
    have hne := hn.ne
    have hf3 := hf.2
    have hb0 : Bits 100 0 := by unfold Bits; decide
    have hcut : cutV [V.ref g.a] none (some (0 + 1)) = [V.ref g.a] := rfl
    obtain ⟨dx, tt, hx, ht⟩ := id hX
    walk_at "gb go"
    rename_i fl H2 s2 hF p hp2
    rw [hcut]
    generalize hH3 : upd H2 p (.lst [V.ref g.a]) = H3
    have s3 : Same H H3 := by rw [← hH3]; exact same_nw s2 hp2
    have eP : H3 p = some (.lst [V.ref g.a]) := by rw [← hH3]; exact upd_same
    have hF3 : AmtAt A H3 fl (xs.map (· * 0)) := hF.mono (by rw [← hH3]; exact same_new hp2)
    refine for_list (K := K) (a := p) (xs := [V.ref g.a]) (fun i σ Hq => ∃ (v6 v7 v8 v9 : Option V) (f2 : Addr) (zs : List Int), σ = [some (.ref a), some (.int 0), some (.ref t), some (.str (Str.ofString "")), some (.ref t), some (.ref f2), v6, v7, v8, v9] ∧ Same H3 Hq ∧ AmtAt A Hq f2 zs ∧ zs.length = xs.length ∧ ∀ z ∈ zs, z = 0) ⟨_, _, _, _, fl, _, rfl, Same.refl _, hF3, List.length_map .., fun z hz => ?_⟩ (fun i σ Hq _ ⟨_, _, _, _, _, _, _, h, _⟩ => SqL.of (h _ _ eP)) ?_ ?_
    · obtain ⟨y, _, rfl⟩ := List.mem_map.mp hz
      exact Int.mul_zero y
    · rintro i x σ Hq hi ⟨v6, v7, v8, v9, f2, zs, rfl, s4, hZ, hzl, hz0⟩
      obtain rfl : i = 0 := by have := (List.getElem?_eq_some_iff.mp hi).1; simp at this; exact this
      obtain rfl : x = V.ref g.a := by simpa using hi.symm
      have s4k : Same H3 Hq ∧ True := ⟨s4, trivial⟩
      have s5 := s3.trans s4
      have ge5 := s5 _ _ ge
      have gf5 := s5 _ _ gf
      have hfz : Few zs := by unfold Few at *; omega
      have hfr : Few (List.replicate g.n (0 : Int)) := by unfold Few at *; rw [List.length_replicate]; omega
      have hzr : zs.length = (List.replicate g.n (0 : Int)).length := by rw [List.length_replicate]; omega
      obtain ⟨dz, tz, hzx, hzt⟩ := id hZ
      clear hX hx ht hF hF3 s2 s3 s4 ge gf hi eP
      walk_at "gb go"
      rename_i _ _ _ _ _ x2 H7 s7 hN
      exact ⟨s4k.1.trans (by walk_at "gb same"), hN, by rw [List.length_zipWith, List.length_replicate]; omega, zw_zero hz0⟩
    · rintro σ Hq ⟨v6, v7, v8, v9, f2, zs, rfl, s4, hZ, hzl, hz0⟩
      have s5 := s3.trans s4
      have hX5 := hX.mono s5
      have hwi := wi_zero hz0 hp
      have hfz : Few zs := by unfold Few at *; omega
      obtain ⟨dz, tz, hzx, hzt⟩ := id hZ
      have hx5 := s5 _ _ hx
      clear hX hx ht hF hF3 s2 s3 s4 ge gf eP
      walk_at "gb go"
      · show Q (V.bl (wi zs xs)) _
        rw [hwi]
        exact k _ (by walk_at "gb same")
theorem ok_group_fits (T : Txt K mg A) : FnOk P w K mg base CX0 10 A.f_group_fits A.d_group_fits ["groups", "at", "total"] (spFloors A) := by
  refine T.F_group_fits.ok sc_group_fits (fun vs H Q E h => ?_) (fun cdv Ar outer s H vs Q E hr h => ?_)
  · obtain ⟨a, t, g, xs, rfl, _⟩ := h
    rfl
  · obtain ⟨a, t, g, xs, rfl, ha, hg, hn, hX, hxn, hf, hp, hb, k⟩ := h
    refine ⟨_, (pss_cons (ps_asg (pe_ix (ix_listK K) (pv 0) (pv 1) (fun _ _ => rfl)) (pg_tup rfl (pgs_cons (pg_name (i := 3) sc_group_fits.nd rfl (Or.inl rfl)) (pgs_cons (pg_name (i := 4) sc_group_fits.nd rfl (Or.inl rfl)) (pgs_cons (pg_name (i := 5) sc_group_fits.nd rfl (Or.inl rfl)) (pgs_cons (pg_name (i := 6) sc_group_fits.nd rfl (Or.inl rfl)) (pgs_cons (pg_name (i := 7) sc_group_fits.nd rfl (Or.inl rfl)) pgs_nil)))))))
        (pss_cons (ps_setLc (i := 8) (own := [("row", 9)]) (g := gName 9) (tt := tYes) rfl sc_group_fits.nd rfl rfl (sw_true rfl rfl rfl (by decide +kernel)) (pi_listK K (pv 0)) (blkOk_by (N := ["groups", "at", "total", "_", "parent", "weight", "floor", "limit", "names", "row"]) (sc := defScope s_group_fits) (by decide +kernel)) (fun _ _ _ _ _ => (pg_name (i := 9) sc_group_fits.nd rfl (Or.inl rfl))) (fun _ _ _ _ _ => pts_nil) (fun _ _ _ _ _ => (pe_ix (ix_tupK K) (pv 9) pe_int (fun _ _ => rfl))))
        (pss_cons (ps_if (PW.pt (pw_or (pt_not (pt_val (pe_call (ok_is_name_new T) (hr.mono (by decide)) rfl T.g_is_name_new T.F_is_name_new.kp T.b_is_name_new .nil pass0 (pa_cons (pv 8) (pa_cons (pv 1) pa_nil))) (by intro _; rfl))) (pw_or1 (pt_not (pt_chain op_le op_le pe_int (pv 5) pe_int))))) (pss_one (ps_ret pe_bl)) pss_nil)
        (pss_cons (ps_if (PW.pt (pw_and (pt_cmpR op_ne (pv 4) pe_str (nomark _)) (pw_and1 (PW.pt (pw_or (pt_cmpR (op_notIn_seqK K) (pv 4) (pe_slice sl_list (pv 8) po_none (po_some (pv 1))) rfl) (pw_or1 (pt_cmpR op_gt (pe_callB (call_len_seqK K) (by rfl) T.n_len (by decide +kernel) (pa_cons (pe_call (ok_path_of T) (hr.mono (by decide)) rfl T.g_path_of T.F_path_of.kp T.b_path_of .nil pass0 (pa_cons (pv 0) (pa_cons (pv 1) pa_nil))) pa_nil)) (pe_op op_add (pe_glob (v := .int 3) rfl T.k_MOST_ABOVE.choose_spec ⟨_, rfl⟩) pe_int) (nomark _)))))))) (pss_one (ps_ret pe_bl)) pss_nil)
        (pss_cons (ps_if (PW.pt (pw_or (pt_not (pt_val (pe_call (ok_amounts_fit T) (hr.mono (by decide)) rfl T.g_amounts_fit T.F_amounts_fit.kp T.b_amounts_fit .nil pass0 (pa_cons (pv 6) (pa_cons (pe_callB (call_lenOwn T.me_Amounts_len (ok_Amounts_len T) (hr.mono (by decide)) T.b_Amounts_len pass0) (by rfl) T.n_len (by decide +kernel) (pa_cons (pv 2) pa_nil)) pa_nil))) (by intro _; rfl))) (pw_or1 (pt_not (pt_val (pe_call (ok_limit_fits T) (hr.mono (by decide)) rfl T.g_limit_fits T.F_limit_fits.kp T.b_limit_fits .nil pass0 (pa_cons (pv 6) (pa_cons (pv 7) pa_nil))) (by intro _; rfl)))))) (pss_one (ps_ret pe_bl)) pss_nil)
        (pss_one (ps_ret (pe_call (ok_floors_fit T) (hr.mono (by decide)) rfl T.g_floors_fit T.F_floors_fit.kp T.b_floors_fit .nil pass0 (pa_cons (pv 0) (pa_cons (pv 1) (pa_cons (pv 2) pa_nil))))))))))), ?_⟩
    have ge := hg.e
    have gf := hg.f
    have hne := hn.ne
    have hf3 := hf.2
    obtain ⟨dx, tt, hx, ht⟩ := id hX
    walk_at "gb go"
    rename_i D hD
    refine lc_list (K := K) (a := a) (xs := [V.ref g.a]) (fun i Hq => Same H Hq ∧ Hq D = some (.lst (([g.nm].map V.str).take i))) ⟨same_new hD, upd_same⟩ (fun i Hq _ h => SqL.of (h.1 _ _ ha)) ?_ ?_
    · rintro i x Hq hi ⟨s1, e1⟩
      obtain rfl : i = 0 := by have := (List.getElem?_eq_some_iff.mp hi).1; simp at this; exact this
      obtain rfl : x = V.ref g.a := by simpa using hi.symm
      have ge := s1 _ _ hg.e
      walk_at "gb go"
      exact upd_same
    · rintro Hq ⟨s1, e1⟩
      have e1 : Hq D = some (.lst ([g.nm].map V.str)) := e1
      have hnl : ([g.nm] : List Str).length = 1 := rfl
      have hnd : ([g.nm] : List Str).Nodup := List.nodup_cons.mpr ⟨by simp, List.nodup_nil⟩
      have hnm : ∀ z ∈ [g.nm], Nm z := fun z hz => by rw [List.mem_singleton.mp hz]; exact hn
      have hnum : NumOk (xs.map V.int).length (List.replicate g.n (0 : Int)) := ⟨by rw [List.length_replicate, List.length_map]; omega, fun x hx => by rw [(List.mem_replicate.mp hx).2]; omega⟩
      have hg3 : (xs.map V.int).length ≤ 3 := by rw [List.length_map]; omega
      have hX1 := hX.mono s1
      have hg1 := hg.mono (Same.tups s1)
      have ha1 := s1 _ _ ha
      have ge1 := s1 _ _ ge
      have gf1 := s1 _ _ gf
      have hx1 := s1 _ _ hx
      have ht1 := s1 _ _ ht
      clear hX hg ha ge gf hx ht
      walk_at "gb go"
      show Q (V.bl true) _
      exact k _ (by walk_at "gb same")
theorem ok_stage_fits (T : Txt K mg A) : FnOk P w K mg base CX0 3 A.f_stage_fits A.d_stage_fits ["stage", "many"] (spSt) := by
  refine T.F_stage_fits.ok sc_stage_fits (fun vs H Q E h => ?_) (fun cdv Ar outer s H vs Q E hr h => ?_)
  · obtain ⟨q, n, rfl, _⟩ := h
    rfl
  · obtain ⟨q, n, rfl, hq, ho, hk, k⟩ := h
    refine ⟨_, (pss_cons (ps_asg (pv 0) (pg_tup rfl (pgs_cons (pg_name (i := 2) sc_stage_fits.nd rfl (Or.inl rfl)) (pgs_cons (pg_name (i := 3) sc_stage_fits.nd rfl (Or.inl rfl)) (pgs_cons (pg_name (i := 4) sc_stage_fits.nd rfl (Or.inl rfl)) pgs_nil)))))
        (pss_one (ps_ret (pe_and (pe_chain op_le op_le pe_int (pv 2) pe_int) (pe_and (pe_call (ok_some_amounts_fit T) (hr.mono (by decide)) rfl T.g_some_amounts_fit T.F_some_amounts_fit.kp T.b_some_amounts_fit .nil pass0 (pa_cons (pv 3) (pa_cons (pv 1) pa_nil))) (pe_one (pe_chain op_le op_le pe_int (pv 4) pe_int))))))), ?_⟩
    have h1 := ho.tk
    have h2 := ho.hr
    have h3 := ho.num
    have h4 := ho.pos
    have e1 := hq.e
    have e2 := hq.n
    walk_at "gb go"
    show Q (V.bl (decide (q.hr ≤ 24))) _
    rw [decide_eq_true h2.2]
    exact k _ (by walk_at "gb same")
theorem ok_wish_fits (T : Txt K mg A) : FnOk P w K mg base CX0 2 A.f_wish_fits A.d_wish_fits ["wish"] (spWish) := by
  refine T.F_wish_fits.ok sc_wish_fits (fun vs H Q E h => ?_) (fun cdv Ar outer s H vs Q E hr h => ?_)
  · obtain ⟨z, rfl, _⟩ := h
    rfl
  · obtain ⟨z, rfl, hz, k⟩ := h
    refine ⟨_, (pss_cons (ps_asg (pe_bm PySem.F.plainAttrs_str PySem.F.slot_str_partition PySem.F.type_str_partition mt_partition (pv 0) (pa_cons pe_str pa_nil)) (pg_tup rfl (pgs_cons (pg_name (i := 1) sc_wish_fits.nd rfl (Or.inl rfl)) (pgs_cons (pg_name (i := 2) sc_wish_fits.nd rfl (Or.inl rfl)) (pgs_cons (pg_name (i := 3) sc_wish_fits.nd rfl (Or.inl rfl)) pgs_nil)))))
        (pss_one (ps_ret (pe_or (pe_cmpR (op_in_seqK K) (pv 0) (pe_glob (v := .ref A.tc_PLAIN_WISHES) rfl T.g_PLAIN_WISHES rfl) rfl) (pe_one (pe_and (pe_cmpR (op_in_seqK K) (pv 1) (pe_glob (v := .ref A.tc_NAMING_WISHES) rfl T.g_NAMING_WISHES rfl) rfl) (pe_one (pe_call (ok_is_name T) (hr.mono (by decide)) rfl T.g_is_name T.F_is_name.kp T.b_is_name .nil pass0 (pa_cons (pv 3) pa_nil))))))))), ?_⟩
    have hzl : z.length ≤ sizeLine := by rw [sizeLine_eq]; exact Nat.le_trans (wish_len hz) (by decide)
    have hzp := (wish_p hz).ex
    walk_at "gb go"
    · show Q (V.bl true) _
      exact k _ (by walk_at "gb same")
    · rename_i h1 h2
      have h1 : inV (V.str z) ([Str.ofString "near", Str.ofString "apart"].map V.str) = false := h1
      rw [inV_strs] at h1
      rcases hzp with m | ⟨_, _, m⟩
      · exact absurd m (of_decide_eq_false h1)
      · refine ⟨m, fun H' s => ?_⟩
        show Q (V.bl true) _
        exact k _ (by walk_at "gb same")
    · rename_i h1 h2
      have h1 : inV (V.str z) ([Str.ofString "near", Str.ofString "apart"].map V.str) = false := h1
      have h2 : inV (V.str (Txt.partition z (Str.ofString ":")).1) ([Str.ofString "needs", Str.ofString "bars", Str.ofString "likes", Str.ofString "never"].map V.str) = false := h2
      rw [inV_strs] at h1 h2
      rcases hzp with m | ⟨_, m, _⟩
      · exact absurd m (of_decide_eq_false h1)
      · exact absurd m (of_decide_eq_false h2)
theorem ok_template_fits (T : Txt K mg A) : FnOk P w K mg base CX0 4 A.f_template_fits A.d_template_fits ["templates", "at", "leaves", "many"] (spTFit) := by
  refine T.F_template_fits.ok sc_template_fits (fun vs H Q E h => ?_) (fun cdv Ar outer s H vs Q E hr h => ?_)
  · obtain ⟨a, lv, ts, gn, i, n, rfl, _⟩ := h
    rfl
  · obtain ⟨a, lv, ts, gn, i, n, rfl, ha, hT, hi, hl, hd, hv, hok, hk, k⟩ := h
    refine ⟨_, (pss_cons (ps_asg (pe_ix (ix_listK K) (pv 0) (pv 1) (fun _ _ => rfl)) (pg_tup rfl (pgs_cons (pg_name (i := 4) sc_template_fits.nd rfl (Or.inl rfl)) (pgs_cons (pg_name (i := 5) sc_template_fits.nd rfl (Or.inl rfl)) (pgs_cons (pg_name (i := 6) sc_template_fits.nd rfl (Or.inl rfl)) (pgs_cons (pg_name (i := 7) sc_template_fits.nd rfl (Or.inl rfl)) (pgs_cons (pg_name (i := 8) sc_template_fits.nd rfl (Or.inl rfl)) (pgs_cons (pg_name (i := 9) sc_template_fits.nd rfl (Or.inl rfl)) pgs_nil))))))))
        (pss_cons (ps_if (PW.pt (pw_or (pt_not (pt_val (pe_call (ok_is_name_new T) (hr.mono (by decide)) rfl T.g_is_name_new T.F_is_name_new.kp T.b_is_name_new .nil pass0 (pa_cons (pe_lc (own := [("row", 11)]) (g := gName 11) (tt := tYes) rfl sc_template_fits.nd (pi_listK K (pv 0)) (blkOk_by (N := ["templates", "at", "leaves", "many", "_", "group", "rank", "every", "stages", "wishes", "wish", "row", "stage"]) (sc := defScope s_template_fits) (by decide +kernel)) (fun _ _ _ _ _ => (pg_name (i := 11) sc_template_fits.nd rfl (Or.inl rfl))) (fun _ _ _ _ _ => pts_nil) (fun _ _ _ _ _ => (pe_ix (ix_tupK K) (pv 11) pe_int (fun _ _ => rfl)))) (pa_cons (pv 1) pa_nil))) (by intro _; rfl))) (pw_or1 (pt_cmpR (op_notIn_seqK K) (pv 5) (pv 2) rfl)))) (pss_one (ps_ret pe_bl)) pss_nil)
        (pss_cons (ps_if (PW.pt (pw_or (pt_not (pt_chain op_le op_le pe_int (pv 6) pe_int)) (pw_or1 (pt_not (pt_chain op_le op_le pe_int (pv 7) pe_int))))) (pss_one (ps_ret pe_bl)) pss_nil)
        (pss_cons (ps_if (PW.pt (pw_or (pt_not (pt_chain op_le op_le pe_int (pe_callB (call_len_seqK K) (by rfl) T.n_len (by decide +kernel) (pa_cons (pv 8) pa_nil)) (pe_glob (v := .int 3) rfl T.k_MOST_STAGES.choose_spec ⟨_, rfl⟩))) (pw_or1 (pt_not (pt_val (pe_callB (cr_all rfl) (by rfl) T.n_all (by decide +kernel) (pa_cons (pe_lc (own := [("stage", 12)]) (g := gName 12) (tt := tYes) rfl sc_template_fits.nd (pi_tupK K (pv 8)) (blkOk_by (N := ["templates", "at", "leaves", "many", "_", "group", "rank", "every", "stages", "wishes", "wish", "row", "stage"]) (sc := defScope s_template_fits) (by decide +kernel)) (fun _ _ _ _ _ => (pg_name (i := 12) sc_template_fits.nd rfl (Or.inl rfl))) (fun _ _ _ _ _ => pts_nil) (fun _ _ _ _ _ => (pe_call (ok_stage_fits T) (hr.mono (by decide)) rfl T.g_stage_fits T.F_stage_fits.kp T.b_stage_fits .nil pass0 (pa_cons (pv 12) (pa_cons (pv 3) pa_nil))))) pa_nil)) (by intro _; rfl)))))) (pss_one (ps_ret pe_bl)) pss_nil)
        (pss_cons (ps_if (PW.pt (pw_or (pt_cmpR op_gt (pe_callB (call_len_seqK K) (by rfl) T.n_len (by decide +kernel) (pa_cons (pv 9) pa_nil)) (pe_glob (v := .int 6) rfl T.k_MOST_WISHES.choose_spec ⟨_, rfl⟩) (nomark _)) (pw_or1 (pt_cmpR op_lt (pe_lenSetT K rfl rfl T.n_len rfl T.n_set (pv 9)) (pe_callB (call_len_seqK K) (by rfl) T.n_len (by decide +kernel) (pa_cons (pv 9) pa_nil)) (nomark _))))) (pss_one (ps_ret pe_bl)) pss_nil)
        (pss_one (ps_ret (pe_callB (cr_all rfl) (by rfl) T.n_all (by decide +kernel) (pa_cons (pe_lc (own := [("wish", 10)]) (g := gName 10) (tt := tYes) rfl sc_template_fits.nd (pi_tupK K (pv 9)) (blkOk_by (N := ["templates", "at", "leaves", "many", "_", "group", "rank", "every", "stages", "wishes", "wish", "row", "stage"]) (sc := defScope s_template_fits) (by decide +kernel)) (fun _ _ _ _ _ => (pg_name (i := 10) sc_template_fits.nd rfl (Or.inl rfl))) (fun _ _ _ _ _ => pts_nil) (fun _ _ _ _ _ => (pe_call (ok_wish_fits T) (hr.mono (by decide)) rfl T.g_wish_fits T.F_wish_fits.kp T.b_wish_fits .nil pass0 (pa_cons (pv 10) pa_nil)))) pa_nil))))))))), ?_⟩
    obtain ⟨r, hr⟩ : ∃ r, ts[i]? = some r := ⟨_, List.getElem?_eq_getElem hi⟩
    have hat : atI (ts.map fun r => V.ref r.a) (i : Int) = some (.ref r.a) := atI_nat (by rw [List.getElem?_map, hr]; rfl)
    have hrm := List.mem_of_getElem? hr
    have hre := (hT r hrm).e
    have hrs := (hT r hrm).s
    have hrw := (hT r hrm).w
    have hss := (hT r hrm).ss
    have o := hok r hrm
    walk_at "gb go"
    rename_i D hD
    refine lc_list (K := K) (a := a) (xs := ts.map fun r => V.ref r.a) (fun i Hq => Same H Hq ∧ Hq D = some (.lst (((ts.map (·.nm)).map V.str).take i))) ⟨same_new hD, upd_same⟩ (fun i Hq _ h => SqL.of (h.1 _ _ ha)) ?_ ?_
    · rintro i2 x Hq hi2 ⟨s1, e1⟩
      obtain ⟨r, hr, rfl⟩ := get_map hi2
      have hre := s1 _ _ (hT r (List.mem_of_getElem? hr)).e
      have hi3 : i2 < ts.length := (List.getElem?_eq_some_iff.mp hr).1
      have hsl : (((ts.map (·.nm)).map V.str).take i2).length < sizeLine := by rw [List.length_take, sizeLine_eq]; omega
      walk_at "gb go"
      exact lc_end (by rw [List.getElem?_map, List.getElem?_map, hr]; rfl)
    · rintro Hq ⟨s1, e1⟩
      rw [take_all (by simp)] at e1
      have hnl : (ts.map (·.nm)).length = ts.length := List.length_map ..
      have hnm : ∀ z ∈ ts.map (·.nm), Nm z := fun z hz => by
        obtain ⟨q, hq, rfl⟩ := List.mem_map.mp hz
        exact (hok q hq).nm
      have h1 := o.rk
      have h2 := o.ev
      have h3 := o.s1
      have h4 := o.w6
      have h5 := o.nd
      have h6 := o.gp
      have hv1 : Hq lv = some (.lst ([gn].map V.str)) := s1 _ _ hv
      have hgl : r.gp ∈ [gn] := by rw [h6]; exact List.mem_singleton.mpr rfl
      clear hv
      walk_at "gb go"
      · rename_i H6 s6 _ _ _ _ _ _ _ D6 hD6
        refine lc_tup (K := K) (a := r.sa) (xs := r.st.map fun q => V.ref q.a) (fun i H7 => Same H6 H7 ∧ H7 D6 = some (.lst (((List.replicate r.st.length true).map V.bl).take i))) ⟨same_new hD6, upd_same⟩ (fun i H7 _ h => SqT.of (h.1 _ _ (s6 _ _ (s1 _ _ hrs)))) ?_ ?_
        · rintro i3 x H7 hi3 ⟨s7, e7⟩
          obtain ⟨q, hq, rfl⟩ := get_map hi3
          have hqm := List.mem_of_getElem? hq
          have hi4 : i3 < r.st.length := (List.getElem?_eq_some_iff.mp hq).1
          have hqA := (hss q hqm).mono (Same.tups ((s1.trans s6).trans s7))
          have hqO := o.st q hqm
          have hsl := @small_tt r.st.length i3 (by omega)
          walk_at "gb go"
          all_goals exact lc_end (tt_get hi4)
        · rintro H7 ⟨s7, e7⟩
          rw [take_all (by simp)] at e7
          have hw7 := s7 _ _ (s6 _ _ (s1 _ _ hrw))
          have hall := all_tt r.st.length
          have s6k := s6
          clear hre hrs hrw hss hD6
          walk_at "gb go"
          · rename_i hh
            exact absurd hh (by rw [List.length_map]; omega)
          · rename_i D8 hD8
            refine lc_tup (K := K) (a := r.wa) (xs := r.ws.map V.str) (fun i H9 => Same H7 H9 ∧ H9 D8 = some (.lst (((List.replicate r.ws.length true).map V.bl).take i))) ⟨same_new hD8, upd_same⟩ (fun i H9 _ h => SqT.of (h.1 _ _ hw7)) ?_ ?_
            · rintro i5 x H9 hi5 ⟨s9, e9⟩
              obtain ⟨z, hz, rfl⟩ := get_map hi5
              have hzO := o.ws z (List.mem_of_getElem? hz)
              have hi6 : i5 < r.ws.length := (List.getElem?_eq_some_iff.mp hz).1
              have hsl := @small_tt r.ws.length i5 (by omega)
              walk_at "gb go"
              all_goals exact lc_end (tt_get hi6)
            · rintro H9 ⟨s9, e9⟩
              rw [take_all (by simp)] at e9
              walk_at "gb go"
              rw [all_tt]
              show Q (V.bl true) _
              exact k _ ((s1.trans (by assumption)).trans (s7.trans (by walk_at "gb same")))
      · rename_i hh
        exact absurd (by rw [List.length_map]; omega) hh
      · rename_i hh
        exact absurd (by rw [List.length_map]; omega) hh
theorem ok_check_foes (T : Txt K mg A) : FnOk P w K mg base (L2.CX P w) 3 A.f_check_foes A.d_check_foes ["templates"] (spFoes) := by
  refine T.F_check_foes.okX sc_check_foes (fun vs H Q E h => ?_) (fun cdv Ar outer s H vs Q E hr h => ?_)
  · obtain ⟨a, ts, rfl, _⟩ := h
    rfl
  · obtain ⟨a, ts, rfl, ha, hT, hl, hnv, hw, k⟩ := h
    refine ⟨_, (pss_cons (ps_set (i := 1) sc_check_foes.nd rfl (Or.inr rfl) (pe_lc (own := [("row", 3)]) (g := gName 3) (tt := tYes) rfl sc_check_foes.nd (pi_listK K (pv 0)) (blkOk_by (N := ["templates", "names", "at", "row", "name"]) (sc := defScope s_check_foes) (by decide +kernel)) (fun _ _ _ _ _ => (pg_name (i := 3) sc_check_foes.nd rfl (Or.inl rfl))) (fun _ _ _ _ _ => pts_nil) (fun _ _ _ _ _ => (pe_ix (ix_tupK K) (pv 3) pe_int (fun _ _ => rfl)))))
        (pss_one (ps_for (passes_of rfl) rfl (pi_enumL K rfl T.n_enumerate (pa_cons (pv 0) pa_nil)) (pg_tup rfl (pgs_cons (pg_name (i := 2) sc_check_foes.nd rfl (Or.inl rfl)) (pgs_cons (pg_name (i := 3) sc_check_foes.nd rfl (Or.inl rfl)) pgs_nil)))
        (pss_one (ps_if (pt_not (pt_val (pe_callB (cr_all rfl) (by rfl) T.n_all (by decide +kernel) (pa_cons (pe_lc (own := [("name", 4)]) (g := gName 4) (tt := tYes) rfl sc_check_foes.nd (pi_listK K (pe_call (ok_names_after T) (hr.mono (by decide)) rfl T.g_names_after T.F_names_after.kp T.b_names_after .nil pass0 (pa_cons pe_str (pa_cons (pe_ix (ix_tupK K) (pv 3) pe_int (fun _ _ => rfl)) pa_nil)))) (blkOk_by (N := ["templates", "names", "at", "row", "name"]) (sc := defScope s_check_foes) (by decide +kernel)) (fun _ _ _ _ _ => (pg_name (i := 4) sc_check_foes.nd rfl (Or.inl rfl))) (fun _ _ _ _ _ => pts_nil) (fun _ _ _ _ _ => (pe_cmpR (op_in_seqK K) (pv 4) (pv 1) rfl))) pa_nil)) (by intro _; rfl))) (pss_one (ps_raiseG rfl T.x_BadRow (ok_GangError_init T) (hr.mono (by decide)) T.b_GangError_init rfl T.g_BadRow (takes_of rfl rfl rfl rfl) (pe_tup (pa_cons pe_str (pa_cons (pv 2) pa_nil))))) pss_nil))))), ?_⟩
    walk_at "gb go"
    rename_i D hD
    refine lc_list (K := K) (a := a) (xs := ts.map fun r => V.ref r.a) (fun i Hq => Same H Hq ∧ Hq D = some (.lst (((ts.map (·.nm)).map V.str).take i))) ⟨same_new hD, upd_same⟩ (fun i Hq _ h => SqL.of (h.1 _ _ ha)) ?_ ?_
    · rintro i2 x Hq hi2 ⟨s1, e1⟩
      obtain ⟨r, hr, rfl⟩ := get_map hi2
      have hre := s1 _ _ (hT r (List.mem_of_getElem? hr)).e
      have hi3 : i2 < ts.length := (List.getElem?_eq_some_iff.mp hr).1
      have hsl : (((ts.map (·.nm)).map V.str).take i2).length < sizeLine := by rw [List.length_take, sizeLine_eq]; omega
      walk_at "gb go"
      exact lc_end (by rw [List.getElem?_map, List.getElem?_map, hr]; rfl)
    · rintro Hq ⟨s1, e1⟩
      rw [take_all (by simp)] at e1
      have ha1 := s1 _ _ ha
      walk_at "gb go"
      refine for_it (walk_enum (K := K) (a := a) (xs := ts.map fun r => V.ref r.a)) (fun i σ H6 => ∃ v2 v3 v4 : Option V, σ = [some (.ref a), some (.ref D), v2, v3, v4] ∧ Same Hq H6) ⟨_, _, _, rfl, Same.refl _⟩ (fun i σ H6 _ ⟨_, _, _, _, h⟩ => SqL.of (h _ _ ha1)) ?_ ?_
      · rintro i x σ H6 H7 hi ⟨v2, v3, v4, rfl, s6⟩ ⟨T2, v0, y, rfl, hT2, rfl, ev0, hy⟩
        cases ev0
        obtain ⟨r, hr, rfl⟩ := get_map hy
        have hrm := List.mem_of_getElem? hr
        have hR := (hT r hrm).mono (Same.tups (s1.trans s6))
        have hre := hR.e
        have hrw := hR.w
        have hnv1 := hnv r hrm
        obtain ⟨hw1, hw2⟩ := hw r hrm
        have e6 := s6 _ _ e1
        clear s1 hT ha ha1 e1
        walk_at "gb go"
        rename_i p5 H8 s8 e8 D8 hD8
        have e9 := s8 _ _ (same_new hT2 _ _ e6)
        have hnl : (nAft (Str.ofString "never") r.ws).length ≤ 6 := Nat.le_trans nAft_len hw1
        refine lc_list (K := K) (a := p5) (xs := (nAft (Str.ofString "never") r.ws).map V.str) (fun i H9 => Same H8 H9 ∧ H9 D8 = some (.lst (((List.replicate (nAft (Str.ofString "never") r.ws).length true).map V.bl).take i))) ⟨same_new hD8, upd_same⟩ (fun i H9 _ h => SqL.of (h.1 _ _ e8)) ?_ ?_
        · rintro i5 x H9 hi5 ⟨s9, e10⟩
          obtain ⟨z, hz, rfl⟩ := get_map hi5
          have hzm : z ∈ ts.map (·.nm) := hnv1 z (List.mem_of_getElem? hz)
          have hiv : inV (.str z) ((ts.map (·.nm)).map V.str) = true := by rw [inV_strs, decide_eq_true hzm]
          have hi6 : i5 < (nAft (Str.ofString "never") r.ws).length := (List.getElem?_eq_some_iff.mp hz).1
          have hsl := @small_tt (nAft (Str.ofString "never") r.ws).length i5 (by omega)
          have e11 := s9 _ _ e9
          walk_at "gb go"
          show upd H9 D8 (.lst (_ ++ [V.bl (inV (V.str z) ((ts.map (·.nm)).map V.str))])) D8 = _
          rw [hiv]
          exact lc_end (tt_get hi6)
        · rintro H9 ⟨s9, e10⟩
          rw [take_all (by simp)] at e10
          have hall := all_tt (nAft (Str.ofString "never") r.ws).length
          walk_at "gb go"
          all_goals skip
      · rintro σ H6 ⟨v2, v3, v4, rfl, s6⟩
        exact k _ (s1.trans s6)
theorem gv_check_part (T : Txt K mg A) : GL.Gives P w K mg base 11 ["part", "entries", "most", "fits", "at"] "check_part" (defScope s_check_part) A.f_check_part (defBody s_check_part) "fits" (GL.lamQ "check_rows") ttPart := by
  intro cdv Ar outer f c s H vs Q E tl hr act hc h hlen
  obtain ⟨nm, a, ys, m, rfl, ha, h1, hm, hm2, htl, k⟩ := h
  refine ⟨_, (pss_cons (ps_for (passes_of rfl) rfl (pi_range1 rfl T.n_range (pa_cons (pe_callB (call_len_seqK K) (by rfl) T.n_len (by decide +kernel) (pa_cons (pv 1) pa_nil)) pa_nil)) (pg_name (i := 4) sc_check_part.nd rfl (Or.inl rfl))
      (pss_one (ps_if (PW.pt (pw_or (pt_cmpR op_eq (pv 4) (pv 2) (nomark _)) (pw_or1 (pt_not (pt_val (act (pv 4) rfl) (by intro _; rfl)))))) (pss_one (ps_raiseG rfl T.x_BadRow (ok_GangError_init T) (hr.mono (by decide)) T.b_GangError_init rfl T.g_BadRow (takes_of rfl rfl rfl rfl) (pe_tup (pa_cons (pv 0) (pa_cons (pv 4) pa_nil))))) pss_nil)))
      (pss_one (ps_if (pt_not (pt_truth (pv 1) (by intro _; rfl))) (pss_one (ps_raiseG rfl T.x_BadRow (ok_GangError_init T) (hr.mono (by decide)) T.b_GangError_init rfl T.g_BadRow (takes_of rfl rfl rfl rfl) (pe_tup (pa_cons (pv 0) (pa_cons pe_int pa_nil))))) pss_nil))), ?_⟩
  walk_at "gb go"
  refine for_range (lo := 0) (n := ((ys.length : Nat) : Int).toNat) (fun i σ Hq => ∃ v4 : Option V, σ = [some (.str nm), some (.ref a), some (.int (m : Int)), some (.ref f), v4] ∧ Same H Hq) ⟨_, rfl, Same.refl _⟩ ?_ ?_
  · rintro i σ Hq hi ⟨v4, rfl, s1⟩
    have hi2 : i < ys.length := by simpa using hi
    have ha1 := s1 _ _ ha
    have hc1 := s1 _ _ hc
    walk_at "gb go"
    rw [Int.zero_add]
    refine htl i hi2 Hq _ s1 fun H2 s2 => ?_
    walk_at "gb go"
  · rintro σ Hq ⟨v4, rfl, s1⟩
    have ha1 := s1 _ _ ha
    cases ys with
    | nil => cases h1
    | cons y ys =>
      walk_at "gb go"
      refine ⟨(show TruV _ _ _ true from .inl ⟨y :: ys, SqL.of ha1, rfl⟩), ?_⟩
      walk_at "gb go"
      exact k _ s1
theorem ok_check_rows (T : Txt K mg A) (TB : LamX.TabB base mg A.co_check_rows A.tb_check_rows) : FnOk P w K mg base (L2.CX P w) 13 A.f_check_rows A.d_check_rows ["resources", "machines", "groups", "templates"] (spRows A) := by
  refine T.FC_check_rows.okX sc_check_rows (fun vs H Q E h => ?_) (fun Ar outer s H vs Q E hr h => ?_)
  · obtain ⟨w, rfl, _⟩ := h
    rfl
  · obtain ⟨w, rfl, hw, ho, hT, k⟩ := h
    refine ⟨_, (pss_cons (ps_expr (GL.pe_lam3 (T := [(A.tb_check_rows, GL.lamQ "check_rows")]) (TT := ttPart) T.F_check_part rfl T.g_check_part T.F_check_part.kp T.b_check_part rfl sc_check_part rfl (Or.inl rfl) (gv_check_part T) (passes_call (takes_of rfl rfl rfl rfl) (fun _ _ _ _ h => h)) TB rfl (List.mem_singleton.mpr rfl) (fun p hp _ => congrArg Prod.snd (List.mem_singleton.mp hp)) (hr.mono (by decide)) (GL.lamP_of (sc := defScope s_check_rows) (x := "at") (by decide +kernel)) (show ("at" : Str) ∉ (["resources", "machines", "groups", "templates", "most", "total", "leaves", "k", "row"] : List Str) by decide +kernel) rfl (fun _ _ _ _ _ _ => rfl) pe_str (pv 0) (pe_glob (v := .int 3) rfl T.k_MOST_RESOURCES.choose_spec ⟨_, rfl⟩) (fun _ _ _ _ _ _ hr => (pe_call (ok_is_name_new T) (hr.mono (by decide)) rfl T.g_is_name_new T.F_is_name_new.kp T.b_is_name_new .nil pass0 (pa_cons (pv 0) (pa_cons (pv 9) pa_nil))))))
        (pss_cons (ps_expr (GL.pe_lam3 (T := [(A.tb_check_rows, GL.lamQ "check_rows")]) (TT := ttPart) T.F_check_part rfl T.g_check_part T.F_check_part.kp T.b_check_part rfl sc_check_part rfl (Or.inl rfl) (gv_check_part T) (passes_call (takes_of rfl rfl rfl rfl) (fun _ _ _ _ h => h)) TB rfl (List.mem_singleton.mpr rfl) (fun p hp _ => congrArg Prod.snd (List.mem_singleton.mp hp)) (hr.mono (by decide)) (GL.lamP_of (sc := defScope s_check_rows) (x := "at") (by decide +kernel)) (show ("at" : Str) ∉ (["resources", "machines", "groups", "templates", "most", "total", "leaves", "k", "row"] : List Str) by decide +kernel) rfl (fun _ _ _ _ _ _ => rfl) pe_str (pv 1) (pe_glob (v := .int 6) rfl T.k_MOST_MACHINES.choose_spec ⟨_, rfl⟩) (fun _ _ _ _ _ _ hr => (pe_call (ok_machine_fits T) (hr.mono (by decide)) rfl T.g_machine_fits T.F_machine_fits.kp T.b_machine_fits .nil pass0 (pa_cons (pv 1) (pa_cons (pv 9) (pa_cons (pe_callB (call_len_seqK K) (by rfl) T.n_len (by decide +kernel) (pa_cons (pv 0) pa_nil)) pa_nil)))))))
        (pss_cons (ps_setLc (i := 4) (own := [("k", 7)]) (g := gName 7) (tt := tYes) rfl sc_check_rows.nd rfl rfl (sw_true rfl rfl rfl (by decide +kernel)) (pi_range1 rfl T.n_range (pa_cons (pe_callB (call_len_seqK K) (by rfl) T.n_len (by decide +kernel) (pa_cons (pv 0) pa_nil)) pa_nil)) (blkOk_by (N := ["resources", "machines", "groups", "templates", "most", "total", "leaves", "k", "row"]) (sc := defScope s_check_rows) (by decide +kernel)) (fun _ _ _ _ _ => (pg_name (i := 7) sc_check_rows.nd rfl (Or.inr rfl))) (fun _ _ _ _ _ => pts_nil) (fun _ _ _ _ _ => (pe_callB (cr_sumK K rfl) (by rfl) T.n_sum (by decide +kernel) (pa_cons (pe_lc (own := [("row", 8)]) (g := gName 8) (tt := tYes) rfl sc_check_rows.nd (pi_listK K (pv 1)) (blkOk_by (N := ["resources", "machines", "groups", "templates", "most", "total", "leaves", "k", "row"]) rfl) (fun _ _ _ _ _ => (pg_name (i := 8) sc_check_rows.nd rfl (Or.inl rfl))) (fun _ _ _ _ _ => pts_nil) (fun _ _ _ _ _ => (pe_ix (ix_tupK K) (pe_ix (ix_tupK K) (pv 8) pe_int (fun _ _ => rfl)) (pv 7) (fun _ _ => rfl)))) pa_nil))))
        (pss_cons (ps_set (i := 5) sc_check_rows.nd rfl (Or.inr rfl) (pe_makeStarK K T.mk_Amounts (ok_Amounts_init T) (hr.mono (by decide)) rfl T.g_Amounts (passes_call (takes_of rfl rfl rfl rfl) (fun _ _ _ _ h => h)) (pv 4)))
        (pss_cons (ps_expr (GL.pe_lam3 (T := [(A.tb_check_rows, GL.lamQ "check_rows")]) (TT := ttPart) T.F_check_part rfl T.g_check_part T.F_check_part.kp T.b_check_part rfl sc_check_part rfl (Or.inl rfl) (gv_check_part T) (passes_call (takes_of rfl rfl rfl rfl) (fun _ _ _ _ h => h)) TB rfl (List.mem_singleton.mpr rfl) (fun p hp _ => congrArg Prod.snd (List.mem_singleton.mp hp)) (hr.mono (by decide)) (GL.lamP_of (sc := defScope s_check_rows) (x := "at") (by decide +kernel)) (show ("at" : Str) ∉ (["resources", "machines", "groups", "templates", "most", "total", "leaves", "k", "row"] : List Str) by decide +kernel) rfl (fun _ _ _ _ _ _ => rfl) pe_str (pv 2) (pe_glob (v := .int 8) rfl T.k_MOST_GROUPS.choose_spec ⟨_, rfl⟩) (fun _ _ _ _ _ _ hr => (pe_call (ok_group_fits T) (hr.mono (by decide)) rfl T.g_group_fits T.F_group_fits.kp T.b_group_fits .nil pass0 (pa_cons (pv 2) (pa_cons (pv 9) (pa_cons (pv 5) pa_nil)))))))
        (pss_cons (ps_set (i := 6) sc_check_rows.nd rfl (Or.inr rfl) (pe_call (ok_leaf_names T) (hr.mono (by decide)) rfl T.g_leaf_names T.F_leaf_names.kp T.b_leaf_names .nil pass0 (pa_cons (pv 2) pa_nil)))
        (pss_cons (ps_expr (GL.pe_lam3 (T := [(A.tb_check_rows, GL.lamQ "check_rows")]) (TT := ttPart) T.F_check_part rfl T.g_check_part T.F_check_part.kp T.b_check_part rfl sc_check_part rfl (Or.inl rfl) (gv_check_part T) (passes_call (takes_of rfl rfl rfl rfl) (fun _ _ _ _ h => h)) TB rfl (List.mem_singleton.mpr rfl) (fun p hp _ => congrArg Prod.snd (List.mem_singleton.mp hp)) (hr.mono (by decide)) (GL.lamP_of (sc := defScope s_check_rows) (x := "at") (by decide +kernel)) (show ("at" : Str) ∉ (["resources", "machines", "groups", "templates", "most", "total", "leaves", "k", "row"] : List Str) by decide +kernel) rfl (fun _ _ _ _ _ _ => rfl) pe_str (pv 3) (pe_glob (v := .int 8) rfl T.k_MOST_TEMPLATES.choose_spec ⟨_, rfl⟩) (fun _ _ _ _ _ _ hr => (pe_call (ok_template_fits T) (hr.mono (by decide)) rfl T.g_template_fits T.F_template_fits.kp T.b_template_fits .nil pass0 (pa_cons (pv 3) (pa_cons (pv 9) (pa_cons (pv 6) (pa_cons (pe_callB (call_len_seqK K) (by rfl) T.n_len (by decide +kernel) (pa_cons (pv 0) pa_nil)) pa_nil))))))))
        (pss_one (ps_expr (pe_call (ok_check_foes T) (hr.mono (by decide)) rfl T.g_check_foes T.F_check_foes.kp T.b_check_foes .nil (passes_call (takes_of rfl rfl rfl rfl) (fun _ _ _ _ h => h)) (pa_cons (pv 3) pa_nil))))))))))), ?_⟩
    have hr1 := ho.r1
    have hr2 := ho.rd
    have hr3 := ho.rn
    have hm1 := ho.m1
    have hm2 := ho.md
    have hm3 := ho.mo
    have hg1 := ho.gn
    have hg2 := ho.gk
    have ht1 := ho.t1
    have ht2 := ho.td
    have ht3 := ho.to
    have ht4 := ho.nv
    have h1 := hw.r
    have h2 := hw.m
    have h3 := hw.g
    have h4 := hw.t
    have h5 := hw.mm
    have h6 := hw.gg
    have h7 := hw.tt
    walk_at "gb go"
    refine ⟨fun i hi H1 Q1 s1 kq => ?_, fun H5 s5 => ?_⟩
    · have hi2 : i < w.rs.length := by simpa using hi
      walk_at "gb go"
      exact kq _ (by walk_at "gb same")
    walk_at "gb go"
    refine ⟨fun i hi H1 Q1 s1 kq => ?_, fun H6 s6 => ?_⟩
    · have hi2 : i < w.ms.length := by simpa using hi
      walk_at "gb go"
      exact kq _ (by walk_at "gb same")
    walk_at "gb go"
    rename_i D hD
    have w6 : WAt H6 w := hw.ext (by walk_at "gb ext")
    have x6 : LamX.ExtN H H6 := by walk_at "gb ext"
    have T6 : LamX.Tabs [(A.tb_check_rows, GL.lamQ "check_rows")] H6 := by walk_at "gb tabs"
    clear h1 h2 h3 h4 h5 h6 h7 hw
    refine lc_range (lo := 0) (n := (((w.rs.map V.str).length : Nat) : Int).toNat) (fun i Hq => Same H6 Hq ∧ Hq D = some (.lst (((tots w).map V.int).take i))) ⟨same_new hD, upd_same⟩ ?_ ?_
    · rintro i Hq hi ⟨s1, e1⟩
      have hi2 : i < w.rs.length := by simpa using hi
      have w1 := w6.ext (ext_same s1)
      have h2 := w1.m
      have hsl : (((tots w).map V.int).take i).length < sizeLine := by
        rw [List.length_take, sizeLine_eq]; omega
      walk_at "gb go"
      rename_i D2 hD2
      refine lc_list (K := K) (a := w.ma) (xs := w.ms.map fun r => V.ref r.a) (fun i2 H2 => Same Hq H2 ∧ H2 D2 = some (.lst (((w.ms.map fun r => r.xs.getD i 0).map V.int).take i2))) ⟨same_new hD2, upd_same⟩ (fun i2 H2 _ h => SqL.of (h.1 _ _ h2)) ?_ ?_
      · rintro i2 x H2 hi3 ⟨s2, e2⟩
        obtain ⟨r, hr, rfl⟩ := get_map hi3
        have hrm := List.mem_of_getElem? hr
        have hre := s2 _ _ (w1.mm r hrm).e
        have hrn := s2 _ _ (w1.mm r hrm).n
        have hxl := (hm3 r hrm).num.len
        have hat : atI (r.xs.map V.int) (0 + (i : Int)) = some (.int (r.xs.getD i 0)) := by
          rw [Int.zero_add]
          exact atI_nat (by rw [List.getElem?_map, getD_some (by omega)]; rfl)
        have hi4 : i2 < w.ms.length := (List.getElem?_eq_some_iff.mp hr).1
        have hsl2 : (((w.ms.map fun r => r.xs.getD i 0).map V.int).take i2).length < sizeLine := by
          rw [List.length_take, sizeLine_eq]; omega
        walk_at "gb go"
        exact lc_end (by rw [List.getElem?_map, List.getElem?_map, hr]; rfl)
      · rintro H2 ⟨s2, e2⟩
        rw [take_all (by simp)] at e2
        have e3 := s2 _ _ e1
        walk_at "gb go"
        exact lc_end (by unfold tots; rw [List.getElem?_map, List.getElem?_map, List.getElem?_range hi2]; rfl)
    · rintro Hq ⟨s1, e1⟩
      rw [take_all (by simp [tots])] at e1
      have w1 := w6.ext (ext_same s1)
      have hfew : Few (tots w) := by unfold Few tots; rw [List.length_map, List.length_range]; omega
      have x7 := x6.trans (ext_same s1)
      have T7 := tabs_same s1 T6
      have h3 := w1.g
      have h4 := w1.t
      have h1 := w1.r
      have h6 := w1.gg
      have h7 := w1.tt
      have hl1 := tots_len hg2
      have hl2 := tots_nn hm3
      have hl3 := tots_bits hm1.2 hm3
      have hws := fun r hr => foes_ws (ht3 r hr)
      clear s5 s6 x6 T6 w6 s1
      walk_at "gb go"
      refine ⟨fun i hi H1 Q1 s1 kq => ?_, fun H8 s8 => ?_⟩
      · obtain rfl : i = 0 := by simpa using hi
        walk_at "gb go"
        exact kq _ (by walk_at "gb same")
      walk_at "gb go"
      refine ⟨fun i hi H1 Q1 s1 kq => ?_, fun H9 s9 => ?_⟩
      · have hi2 : i < w.ts.length := by simpa using hi
        walk_at "gb go"
        exact kq _ (by walk_at "gb same")
      walk_at "gb go"
      exact k _ (x7.trans (by walk_at "gb ext")) (by walk_at "gb tabs")
theorem ok_index_of (T : Txt K mg A) : FnOk P w K mg base (L2.CX P w) 3 A.f_index_of A.d_index_of ["rows", "name"] (spIdx A) := by
  refine T.F_index_of.okX sc_index_of (fun vs H Q E h => ?_) (fun cdv Ar outer s H vs Q E hr h => ?_)
  · obtain ⟨rt, go, dx, fa, pa, g, rfl, _⟩ := h
    rfl
  · obtain ⟨rt, go, dx, fa, pa, g, rfl, h1, h2, k⟩ := h
    refine ⟨_, (pss_cons (ps_for (passes_of rfl) rfl (pi_enumT K rfl T.n_enumerate (pa_cons (pv 0) pa_nil)) (pg_tup rfl (pgs_cons (pg_name (i := 2) sc_index_of.nd rfl (Or.inl rfl)) (pgs_cons (pg_name (i := 3) sc_index_of.nd rfl (Or.inl rfl)) pgs_nil)))
        (pss_one (ps_if (pt_cmpR op_eq (pe_fldK K (pv 3) rfl) (pv 1) (nomark _)) (pss_one (ps_ret (pv 2))) pss_nil)))
        (pss_one (ps_raiseG rfl T.x_Unknown (ok_GangError_init T) (hr.mono (by decide)) T.b_GangError_init rfl T.g_Unknown (takes_of rfl rfl rfl rfl) (pv 1)))), ?_⟩
    walk_at "gb go"
    refine for_it (walk_ET (K := K) (a := rt) (xs := [V.ref go])) (fun i σ H6 => i = 0 ∧ ∃ v2 v3 : Option V, σ = [some (.ref rt), some (.str g.nm), v2, v3] ∧ Same H H6) ⟨rfl, _, _, rfl, Same.refl _⟩ (fun i σ H6 _ ⟨_, _, _, _, h⟩ => SqT.of (h _ _ h1)) ?_ ?_
    · rintro i x σ H6 H7 hi ⟨rfl, v2, v3, rfl, s6⟩ ⟨T2, y, rfl, hT2, rfl, hy⟩
      obtain rfl : y = V.ref go := by simpa using hy.symm
      have e2 := s6 _ _ h2
      walk_at "gb go"
      exact k _ (by walk_at "gb same")
    · rintro σ H6 ⟨z, _⟩
      cases z
theorem ok_foes_of (T : Txt K mg A) : FnOk P w K mg base CX0 2 A.f_foes_of A.d_foes_of ["templates", "at"] (spFoesOf) := by
  refine T.F_foes_of.ok sc_foes_of (fun vs H Q E h => ?_) (fun cdv Ar outer s H vs Q E hr h => ?_)
  · obtain ⟨a, ts, i, r, rfl, _⟩ := h
    rfl
  · obtain ⟨a, ts, i, r, rfl, ha, hT, hi, hl, hw, k⟩ := h
    refine ⟨_, (pss_cons (ps_set (i := 2) sc_foes_of.nd rfl (Or.inr rfl) (pe_ix (ix_tupK K) (pe_ix (ix_listK K) (pv 0) (pv 1) (fun _ _ => rfl)) pe_int (fun _ _ => rfl)))
        (pss_cons (ps_set (i := 3) sc_foes_of.nd rfl (Or.inr rfl) (pe_call (ok_names_after T) (hr.mono (by decide)) rfl T.g_names_after T.F_names_after.kp T.b_names_after .nil pass0 (pa_cons pe_str (pa_cons (pe_ix (ix_tupK K) (pe_ix (ix_listK K) (pv 0) (pv 1) (fun _ _ => rfl)) pe_int (fun _ _ => rfl)) pa_nil))))
        (pss_one (ps_ret (pe_callTy call_tuple_of (by rfl) T.n_tuple (by decide +kernel) (pa_cons (pe_lc (own := [("k", 4), ("row", 5)]) (g := (gTup K 2 (gCons (gName 4) (gCons (gName 5) gNil)))) rfl sc_foes_of.nd (pi_enumL K rfl T.n_enumerate (pa_cons (pv 0) pa_nil)) (blkOk_by (N := ["templates", "at", "name", "named", "k", "row"]) (sc := defScope s_foes_of) (by decide +kernel)) (fun _ _ _ _ _ => (pg_tup rfl (pgs_cons (pg_name (i := 4) sc_foes_of.nd rfl (Or.inl rfl)) (pgs_cons (pg_name (i := 5) sc_foes_of.nd rfl (Or.inl rfl)) pgs_nil)))) (fun _ _ _ _ _ => pts_one (by exact (PW.pt (pw_or (pt_cmpR (op_in_seqK K) (pe_ix (ix_tupK K) (pv 5) pe_int (fun _ _ => rfl)) (pv 3) rfl) (pw_or1 (pt_cmpR (op_in_seqK K) (pv 2) (pe_call (ok_names_after T) (hr.mono (by decide)) rfl T.g_names_after T.F_names_after.kp T.b_names_after .nil pass0 (pa_cons pe_str (pa_cons (pe_ix (ix_tupK K) (pv 5) pe_int (fun _ _ => rfl)) pa_nil))) rfl)))))) (fun _ _ _ _ _ => (pv 4))) pa_nil)))))), ?_⟩
    have hat : atI (ts.map fun r => V.ref r.a) (i : Int) = some (.ref r.a) := atI_nat (by rw [List.getElem?_map, hi]; rfl)
    have hrm := List.mem_of_getElem? hi
    have hre := (hT r hrm).e
    have hrw := (hT r hrm).w
    obtain ⟨hw1, hw2⟩ := hw r hrm
    walk_at "gb go"
    rename_i p1 H1 s1 e1 D hD
    have ha1 := s1 _ _ ha
    refine lc_it (walk_enum (K := K) (a := a) (xs := ts.map fun r => V.ref r.a)) (fun j Hq => Same H1 Hq ∧ Hq D = some (.lst ((foesN ts r j).map V.int))) ⟨same_new hD, upd_same⟩ (fun j Hq _ h => SqL.of (h.1 _ _ ha1)) ?_ ?_
    · rintro j x Hq H2 hj ⟨s2, e2⟩ ⟨T2, v0, y, rfl, hT2, rfl, ev0, hy⟩
      cases ev0
      obtain ⟨q, hq, rfl⟩ := get_map hy
      have hqm := List.mem_of_getElem? hq
      have hqA := (hT q hqm).mono (Same.tups (s1.trans s2))
      have hqe := hqA.e
      have hqw := hqA.w
      obtain ⟨hq1, hq2⟩ := hw q hqm
      have e3 := s2 _ _ e1
      have hfl := @foesN_len ts r j
      have hj2 : j < ts.length := (List.getElem?_eq_some_iff.mp hq).1
      have hfs := @foesN_succ ts r q j hq
      walk_at "gb go"
      · rename_i m
        rw [hfs, if_pos (by unfold isFoe; rw [decide_eq_true m]; rfl), List.map_append]
        exact upd_same
      · rename_i m1 p2 H5 s5 e5 m2
        rw [hfs, if_pos (by unfold isFoe; rw [decide_eq_true m2, Bool.or_true]), List.map_append]
        exact upd_same
      · rename_i m1 p2 H5 s5 e5 m2
        rw [hfs, if_neg (by unfold isFoe; rw [decide_eq_false m1, decide_eq_false m2]; decide), List.append_nil]
        walk_at "gb hp"
    · rintro Hq ⟨s2, e2⟩
      rw [List.length_map] at e2
      walk_at "gb go"
      exact k _ _ (by walk_at "gb same") upd_same
theorem ok_Machine_init (T : Txt K mg A) : FnOk P w K mg base CX0 6 A.f_Machine_init A.d_Machine_init ["self", "name", "zone", "labels", "numbers"] (spMI A) := by
  refine T.F_Machine_init.ok sc_Machine_init (fun vs H Q E h => ?_) (fun cdv Ar outer s H vs Q E hr h => ?_)
  · obtain ⟨p, dx, r, rfl, _⟩ := h
    rfl
  · obtain ⟨p, dx, r, rfl, hp, hx, hf, k⟩ := h
    refine ⟨_, (pss_cons (ps_fld (pv 0) (pv 1) rfl)
        (pss_cons (ps_fld (pv 0) (pv 2) rfl)
        (pss_cons (ps_fld (pv 0) (pv 3) rfl)
        (pss_one (ps_fld (pv 0) (pe_makeStarK K T.mk_Amounts (ok_Amounts_init T) (hr.mono (by decide)) rfl T.g_Amounts passL (pv 4)) rfl))))), ?_⟩
    walk_at "gb go"
    exact k _ _ (by walk_at "gb but") (by walk_at "gb amt") upd_same
theorem ok_Group_init (T : Txt K mg A) : FnOk P w K mg base CX0 6 A.f_Group_init A.d_Group_init ["self", "row", "path", "leaf"] (spGrI A) := by
  refine T.F_Group_init.ok sc_Group_init (fun vs H Q E h => ?_) (fun cdv Ar outer s H vs Q E hr h => ?_)
  · obtain ⟨p, dx, pa, g, rfl, _⟩ := h
    rfl
  · obtain ⟨p, dx, pa, g, rfl, hp, hg, hpa, hn1, hn3, k⟩ := h
    refine ⟨_, (pss_cons (ps_asg (pv 1) (pg_tup rfl (pgs_cons (pg_name (i := 4) sc_Group_init.nd rfl (Or.inl rfl)) (pgs_cons (pg_name (i := 5) sc_Group_init.nd rfl (Or.inl rfl)) (pgs_cons (pg_name (i := 6) sc_Group_init.nd rfl (Or.inl rfl)) (pgs_cons (pg_name (i := 7) sc_Group_init.nd rfl (Or.inl rfl)) (pgs_cons (pg_name (i := 8) sc_Group_init.nd rfl (Or.inl rfl)) pgs_nil)))))))
        (pss_cons (ps_fld (pv 0) (pv 4) rfl)
        (pss_cons (ps_fld (pv 0) (pe_ifExp (pt_cmpR op_gt (pe_callB (call_len_seqK K) (by rfl) T.n_len (by decide +kernel) (pa_cons (pv 2) pa_nil)) pe_int (nomark _)) (pe_ix (ix_tupK K) (pv 2) (pe_un un_neg pe_int) (fun _ _ => rfl)) pe_non) rfl)
        (pss_cons (ps_fld (pv 0) (pv 6) rfl)
        (pss_cons (ps_fld (pv 0) (pe_makeStarK K T.mk_Amounts (ok_Amounts_init T) (hr.mono (by decide)) rfl T.g_Amounts passL (pv 7)) rfl)
        (pss_cons (ps_fld (pv 0) (pe_ifExp (pt_cmpR op_isN (pv 8) pe_non (nomark _)) pe_non (pe_makeStarK K T.mk_Amounts (ok_Amounts_init T) (hr.mono (by decide)) rfl T.g_Amounts passL (pv 8))) rfl)
        (pss_cons (ps_fld (pv 0) (pv 2) rfl)
        (pss_one (ps_fld (pv 0) (pv 3) rfl))))))))), ?_⟩
    have ge := hg.e
    have gf := hg.f
    have hfr : Few (List.replicate g.n (0 : Int)) := by unfold Few; rw [List.length_replicate]; omega
    walk_at "gb go"
    exact k _ _ (by walk_at "gb but") (by walk_at "gb amt") upd_same
theorem ok_Stage_init (T : Txt K mg A) : FnOk P w K mg base CX0 9 A.f_Stage_init A.d_Stage_init ["self", "tasks", "numbers", "hours"] (spSgI A) := by
  refine T.F_Stage_init.ok sc_Stage_init (fun vs H Q E h => ?_) (fun cdv Ar outer s H vs Q E hr h => ?_)
  · obtain ⟨p, dx, q, n, rfl, _⟩ := h
    rfl
  · obtain ⟨p, dx, q, n, rfl, hp, hx, ho, hn1, hn3, k⟩ := h
    refine ⟨_, (pss_cons (ps_fld (pv 0) (pv 1) rfl)
        (pss_cons (ps_fld (pv 0) (pe_makeStarK K T.mk_Amounts (ok_Amounts_init T) (hr.mono (by decide)) rfl T.g_Amounts passL (pv 2)) rfl)
        (pss_cons (ps_fld (pv 0) (pv 3) rfl)
        (pss_one (ps_fld (pv 0) (pe_op (op_iown intMul T.me_Amounts_mul T.me_Amounts_rmul T.sf_Amounts T.si_Amounts (ok_Amounts_rmul T) (hr.mono (by decide)) T.b_Amounts_rmul passL) (pv 1) (pe_fldK K (pv 0) rfl)) rfl))))), ?_⟩
    have hfr : Few q.xs := by unfold Few; rw [ho.num.len]; omega
    have htk := ho.tk
    have hb1 : Bits 100 q.tk := by
      unfold Bits
      have h2 : (2 : Nat) ^ 100 = 1267650600228229401496703205376 := by decide +kernel
      rw [h2]; omega
    have hb2 := num_bits ho.num
    walk_at "gb go"
    exact k _ _ _ (by walk_at "gb but") (by walk_at "gb amt") (by walk_at "gb amt") upd_same
theorem ok_Template_init (T : Txt K mg A) : FnOk P w K mg base CX0 11 A.f_Template_init A.d_Template_init ["self", "row", "group", "foes"] (spTI A) := by
  refine T.F_Template_init.ok sc_Template_init (fun vs H Q E h => ?_) (fun cdv Ar outer s H vs Q E hr h => ?_)
  · obtain ⟨p, dx, fo, r, n, gn, rfl, _⟩ := h
    rfl
  · obtain ⟨p, dx, fo, r, n, gn, rfl, hp, hr0, ho, hn1, hn3, k⟩ := h
    refine ⟨_, (pss_cons (ps_asg (pv 1) (pg_tup rfl (pgs_cons (pg_name (i := 4) sc_Template_init.nd rfl (Or.inl rfl)) (pgs_cons (pg_name (i := 5) sc_Template_init.nd rfl (Or.inl rfl)) (pgs_cons (pg_name (i := 6) sc_Template_init.nd rfl (Or.inl rfl)) (pgs_cons (pg_name (i := 7) sc_Template_init.nd rfl (Or.inl rfl)) (pgs_cons (pg_name (i := 8) sc_Template_init.nd rfl (Or.inl rfl)) (pgs_cons (pg_name (i := 9) sc_Template_init.nd rfl (Or.inl rfl)) pgs_nil))))))))
        (pss_cons (ps_fld (pv 0) (pv 4) rfl)
        (pss_cons (ps_fld (pv 0) (pv 2) rfl)
        (pss_cons (ps_fld (pv 0) (pv 6) rfl)
        (pss_cons (ps_fld (pv 0) (pv 7) rfl)
        (pss_cons (ps_fld (pv 0) (pe_callTy call_tuple_of (by rfl) T.n_tuple (by decide +kernel) (pa_cons (pe_lc (own := [("stage", 10)]) (g := gName 10) (tt := tYes) rfl sc_Template_init.nd (pi_tupK K (pv 8)) (blkOk_by (N := ["self", "row", "group", "foes", "name", "_", "rank", "every", "stages", "wishes", "stage"]) (sc := defScope s_Template_init) (by decide +kernel)) (fun _ _ _ _ _ => (pg_name (i := 10) sc_Template_init.nd rfl (Or.inl rfl))) (fun _ _ _ _ _ => pts_nil) (fun _ _ _ _ _ => (pe_makeStarK K T.mk_Stage ((ok_Stage_init T).toR T.b_Stage_init) (hr.mono (by decide)) rfl T.g_Stage pass0 (pv 10)))) pa_nil)) rfl)
        (pss_cons (ps_fld (pv 0) (pv 9) rfl)
        (pss_cons (ps_fld (pv 0) (pe_callTy call_tuple_of (by rfl) T.n_tuple (by decide +kernel) (pa_cons (pe_call (ok_names_after T) (hr.mono (by decide)) rfl T.g_names_after T.F_names_after.kp T.b_names_after .nil pass0 (pa_cons pe_str (pa_cons (pv 9) pa_nil))) pa_nil)) rfl)
        (pss_cons (ps_fld (pv 0) (pe_callTy call_tuple_of (by rfl) T.n_tuple (by decide +kernel) (pa_cons (pe_call (ok_names_after T) (hr.mono (by decide)) rfl T.g_names_after T.F_names_after.kp T.b_names_after .nil pass0 (pa_cons pe_str (pa_cons (pv 9) pa_nil))) pa_nil)) rfl)
        (pss_cons (ps_fld (pv 0) (pe_callTy call_tuple_of (by rfl) T.n_tuple (by decide +kernel) (pa_cons (pe_call (ok_names_after T) (hr.mono (by decide)) rfl T.g_names_after T.F_names_after.kp T.b_names_after .nil pass0 (pa_cons pe_str (pa_cons (pv 9) pa_nil))) pa_nil)) rfl)
        (pss_cons (ps_fld (pv 0) (pv 3) rfl)
        (pss_cons (ps_fld (pv 0) (pe_cmpR (op_in_seqK K) pe_str (pv 9) rfl) rfl)
        (pss_one (ps_fld (pv 0) (pe_cmpR (op_in_seqK K) pe_str (pv 9) rfl) rfl)))))))))))))), ?_⟩
    have hre := hr0.e
    have hrs := hr0.s
    have hrw := hr0.w
    have hss := hr0.ss
    have hw1 := ho.w6
    have hw2 : ∀ z ∈ r.ws, z.length ≤ 20 := fun z hz => wish_len (ho.ws z hz)
    have hw3 : r.ws.length ≤ 10 := by omega
    walk_at "gb go"
    rename_i D hD
    generalize hH4 : (upd (upd (upd (upd H p (.ins A.c_Template dx (putF "name" (.str r.nm) []))) p (.ins A.c_Template dx (putF "group" (.int 0) (putF "name" (.str r.nm) [])))) p (.ins A.c_Template dx (putF "rank" (.int r.rk) (putF "group" (.int 0) (putF "name" (.str r.nm) []))))) p (.ins A.c_Template dx (putF "every" (.int r.ev) (putF "rank" (.int r.rk) (putF "group" (.int 0) (putF "name" (.str r.nm) [])))))) = H4 at hD ⊢
    have s4 : SameBut p H H4 := by rw [← hH4]; walk_at "gb but"
    have e4 : H4 p = some (.ins A.c_Template dx (putF "every" (.int r.ev) (putF "rank" (.int r.rk) (putF "group" (.int 0) (putF "name" (.str r.nm) []))))) := by rw [← hH4]; exact upd_same
    have t4 : Tups H H4 := sb_tups s4 hp
    have hrs4 := t4 _ _ hrs
    have hrw4 := t4 _ _ hrw
    have hss4 : ∀ q ∈ r.st, SRAt H4 q := fun q hq => (hss q hq).mono t4
    clear hH4 hrs hrw hss hre
    refine lc_tup (K := K) (a := r.sa) (xs := r.st.map fun q => V.ref q.a) (fun i Hq => Same H4 Hq ∧ ∃ sl : List Addr, Hq D = some (.lst (sl.map V.ref)) ∧ StN A Hq sl r.st i ∧ ∀ x ∈ sl, x ≠ p) ⟨same_new hD, [], upd_same, ⟨rfl, fun i x q h => by cases h⟩, fun x h => by cases h⟩ (fun i Hq _ h => SqT.of (h.1 _ _ hrs4)) ?_ ?_
    · rintro i x Hq hi ⟨s5, sl, e5, hN, hxp⟩
      obtain ⟨q, hq, rfl⟩ := get_map hi
      have hqm := List.mem_of_getElem? hq
      have hqA := (hss4 q hqm).mono (Same.tups s5)
      have hqe := hqA.e
      have hqO := ho.st q hqm
      have e6 := s5 _ _ e4
      have hnl := hN.len
      have hi4 : i < r.st.length := (List.getElem?_eq_some_iff.mp hq).1
      have hs3 := ho.s1.2
      have hsl : (sl.map V.ref).length < sizeLine := by rw [List.length_map, sizeLine_eq]; omega
      clear s4 hp hr0
      walk_at "gb go"
      rename_i x1 H1 hx1 s1 ob1
      have eD : H1 D = some (.lst (sl.map V.ref)) := s1 _ _ e5
      refine ⟨?a, hN.next (fun x q o => (o.mono s1).put eD) hq (ob1.put eD), fun y hy => ?_⟩
      case a => rw [List.map_append]; exact upd_same
      rcases List.mem_append.mp hy with m | m
      · exact hxp y m
      · rw [List.mem_singleton.mp m]
        exact fun z => by rw [z, e6] at hx1; cases hx1
    · rintro Hq ⟨s5, sl, e5, hN, hxp⟩
      rw [List.length_map] at hN
      have hrw5 := s5 _ _ hrw4
      have e6 := s5 _ _ e4
      have sbq := s4.trans (Same.but s5)
      clear s4 s5 hp hr0 hD hss4 t4 e4
      walk_at "gb go"
      rename_i l3 hl3 p2 H2 s2 e2 l2 hl2 p1 H1 s1 e1 l1 hl1 p0 H0 s0 e0 l0 hl0
      have n3 : l3 ≠ p := fun z => by rw [z, e6] at hl3; cases hl3
      have g2 := s2 p _ upd_same
      have n2 : l2 ≠ p := fun z => by rw [z, g2] at hl2; cases hl2
      have g1 := s1 p _ upd_same
      have n1 : l1 ≠ p := fun z => by rw [z, g1] at hl1; cases hl1
      have g0 := s0 p _ upd_same
      have n0 : l0 ≠ p := fun z => by rw [z, g0] at hl0; cases hl0
      clear g2 g1 g0
      refine k l3 l2 l1 l0 sl _ (sbq.trans (?sb)) ?e3 ⟨hN.len, fun i x q hx hq => (hN.ob i x q hx hq).sb ?sb e6 (by decide +kernel) (hxp x (List.mem_of_getElem? hx))⟩ ?e2 ?e1 ?e0 upd_same
      case sb => clear sbq; walk_at "gb but"
      case e3 => clear sbq; walk_at "gb hp"
      case e2 => clear sbq; walk_at "gb hp"
      case e1 => clear sbq; walk_at "gb hp"
      case e0 => clear sbq; walk_at "gb hp"
theorem ok_Cluster_init (T : Txt K mg A) (TB : LamX.TabB base mg A.co_check_rows A.tb_check_rows) : FnOk P w K mg base CX0 14 A.f_Cluster_init A.d_Cluster_init ["self", "resources", "machines", "groups", "templates"] (spCI A) := by
  refine T.F_Cluster_init.ok sc_Cluster_init (fun vs H Q E h => ?_) (fun cdv Ar outer s H vs Q E hr h => ?_)
  · obtain ⟨p, dx, w, rfl, _⟩ := h
    rfl
  · obtain ⟨p, dx, w, rfl, hp, hw, ho, hT, k⟩ := h
    refine ⟨_, (pss_cons (ps_expr (pe_call (ok_check_rows T TB) (hr.mono (by decide)) rfl T.g_check_rows T.F_check_rows.kp T.b_check_rows .nil passL (pa_cons (pv 1) (pa_cons (pv 2) (pa_cons (pv 3) (pa_cons (pv 4) pa_nil))))))
        (pss_cons (ps_fld (pv 0) (pe_tup (pa_cons (pe_callTy call_tuple_of (by rfl) T.n_tuple (by decide +kernel) (pa_cons (pv 1) pa_nil)) (pa_cons (pe_callTy call_tuple_of (by rfl) T.n_tuple (by decide +kernel) (pa_cons (pv 2) pa_nil)) (pa_cons (pe_callTy call_tuple_of (by rfl) T.n_tuple (by decide +kernel) (pa_cons (pv 3) pa_nil)) (pa_cons (pe_callTy call_tuple_of (by rfl) T.n_tuple (by decide +kernel) (pa_cons (pv 4) pa_nil)) pa_nil))))) rfl)
        (pss_cons (ps_fld (pv 0) (pe_callTy call_tuple_of (by rfl) T.n_tuple (by decide +kernel) (pa_cons (pv 1) pa_nil)) rfl)
        (pss_cons (ps_fld (pv 0) (pe_callTy call_tuple_of (by rfl) T.n_tuple (by decide +kernel) (pa_cons (pe_lc (own := [("row", 8)]) (g := gName 8) (tt := tYes) rfl sc_Cluster_init.nd (pi_listK K (pv 2)) (blkOk_by (N := ["self", "resources", "machines", "groups", "templates", "leaves", "total", "machine", "row", "at"]) (sc := defScope s_Cluster_init) (by decide +kernel)) (fun _ _ _ _ _ => (pg_name (i := 8) sc_Cluster_init.nd rfl (Or.inl rfl))) (fun _ _ _ _ _ => pts_nil) (fun _ _ _ _ _ => (pe_makeStarK K T.mk_Machine ((ok_Machine_init T).toR T.b_Machine_init) (hr.mono (by decide)) rfl T.g_Machine pass0 (pv 8)))) pa_nil)) rfl)
        (pss_cons (ps_set (i := 5) sc_Cluster_init.nd rfl (Or.inr rfl) (pe_call (ok_leaf_names T) (hr.mono (by decide)) rfl T.g_leaf_names T.F_leaf_names.kp T.b_leaf_names .nil pass0 (pa_cons (pv 3) pa_nil)))
        (pss_cons (ps_fld (pv 0) (pe_callTy call_tuple_of (by rfl) T.n_tuple (by decide +kernel) (pa_cons (pe_lc (own := [("at", 9), ("row", 8)]) (g := (gTup K 2 (gCons (gName 9) (gCons (gName 8) gNil)))) (tt := tYes) rfl sc_Cluster_init.nd (pi_enumL K rfl T.n_enumerate (pa_cons (pv 3) pa_nil)) (blkOk_by (N := ["self", "resources", "machines", "groups", "templates", "leaves", "total", "machine", "row", "at"]) (sc := defScope s_Cluster_init) (by decide +kernel)) (fun _ _ _ _ _ => (pg_tup rfl (pgs_cons (pg_name (i := 9) sc_Cluster_init.nd rfl (Or.inl rfl)) (pgs_cons (pg_name (i := 8) sc_Cluster_init.nd rfl (Or.inl rfl)) pgs_nil)))) (fun _ _ _ _ _ => pts_nil) (fun _ _ _ _ _ => (pe_make T.mk_Group (ok_Group_init T) (hr.mono (by decide)) rfl T.g_Group T.b_Group_init .nil pass0 (pa_cons (pv 8) (pa_cons (pe_call (ok_path_of T) (hr.mono (by decide)) rfl T.g_path_of T.F_path_of.kp T.b_path_of .nil pass0 (pa_cons (pv 3) (pa_cons (pv 9) pa_nil))) (pa_cons (pe_cmpR (op_in_seqK K) (pe_ix (ix_tupK K) (pv 8) pe_int (fun _ _ => rfl)) (pv 5) rfl) pa_nil)))))) pa_nil)) rfl)
        (pss_cons (ps_fld (pv 0) (pe_callTy call_tuple_of (by rfl) T.n_tuple (by decide +kernel) (pa_cons (pe_lc (own := [("at", 9), ("row", 8)]) (g := (gTup K 2 (gCons (gName 9) (gCons (gName 8) gNil)))) (tt := tYes) rfl sc_Cluster_init.nd (pi_enumL K rfl T.n_enumerate (pa_cons (pv 4) pa_nil)) (blkOk_by (N := ["self", "resources", "machines", "groups", "templates", "leaves", "total", "machine", "row", "at"]) (sc := defScope s_Cluster_init) (by decide +kernel)) (fun _ _ _ _ _ => (pg_tup rfl (pgs_cons (pg_name (i := 9) sc_Cluster_init.nd rfl (Or.inl rfl)) (pgs_cons (pg_name (i := 8) sc_Cluster_init.nd rfl (Or.inl rfl)) pgs_nil)))) (fun _ _ _ _ _ => pts_nil) (fun _ _ _ _ _ => (pe_make T.mk_Template (ok_Template_init T) (hr.mono (by decide)) rfl T.g_Template T.b_Template_init .nil pass0 (pa_cons (pv 8) (pa_cons (pe_call (ok_index_of T) (hr.mono (by decide)) rfl T.g_index_of T.F_index_of.kp T.b_index_of .nil passL (pa_cons (pe_fldK K (pv 0) rfl) (pa_cons (pe_ix (ix_tupK K) (pv 8) pe_int (fun _ _ => rfl)) pa_nil))) (pa_cons (pe_call (ok_foes_of T) (hr.mono (by decide)) rfl T.g_foes_of T.F_foes_of.kp T.b_foes_of .nil pass0 (pa_cons (pv 4) (pa_cons (pv 9) pa_nil))) pa_nil)))))) pa_nil)) rfl)
        (pss_cons (ps_set (i := 6) sc_Cluster_init.nd rfl (Or.inl rfl) (pe_op (op_iown intMul T.me_Amounts_mul T.me_Amounts_rmul T.sf_Amounts T.si_Amounts (ok_Amounts_rmul T) (hr.mono (by decide)) T.b_Amounts_rmul passL) pe_int (pe_fldK K (pe_ix (ix_tupK K) (pe_fldK K (pv 0) rfl) pe_int (fun _ _ => rfl)) rfl)))
        (pss_cons (ps_for PassesOwn.never rfl (pi_tupK K (pe_fldK K (pv 0) rfl)) (pg_name (i := 7) sc_Cluster_init.nd rfl (Or.inl rfl))
        (pss_one (ps_set (i := 6) sc_Cluster_init.nd rfl (Or.inl rfl) (pe_op (op_own T.me_Amounts_add T.sf_Amounts (ok_Amounts_add T) (hr.mono (by decide)) T.b_Amounts_add passL) (pv 6) (pe_fldK K (pv 7) rfl)))))
        (pss_one (ps_fld (pv 0) (pv 6) rfl))))))))))), ?_⟩
    walk_at "gb go"
    rename_i H1 x1 T1
    have w1 : WAt H1 w := hw.ext x1
    have p1 : H1 p = some (.ins A.c_Cluster dx []) := ext_hp x1 hp (fun _ z => by cases z)
    have g1 := w1.r
    have g2 := w1.m
    have g3 := w1.g
    have g4 := w1.t
    have hr1 := ho.r1
    have hm1 := ho.m1
    have hm3 := ho.mo
    have ht1 := ho.t1
    walk_at "gb go"
    rename_i l0 hl0 l1 hl1 l2 hl2 l3 hl3 pt hpt rt hrt D hD
    have c0 := upd_fr (o := .tup (w.rs.map V.str)) p1 hl0
    have n1 : l1 ≠ p := (none_ne hl1 c0).symm
    have c1 := upd_fr (o := .tup (w.ms.map fun r => V.ref r.a)) c0 hl1
    have n2 : l2 ≠ p := (none_ne hl2 c1).symm
    have c2 := upd_fr (o := .tup [.ref w.g.a]) c1 hl2
    have n3 : l3 ≠ p := (none_ne hl3 c2).symm
    have c3 := upd_fr (o := .tup (w.ts.map fun r => V.ref r.a)) c2 hl3
    have np : pt ≠ p := (none_ne hpt c3).symm
    clear c0 c1 c2 c3
    generalize hH4 : (upd (upd (upd (upd (upd (upd (upd (upd H1 l0 (.tup (w.rs.map V.str))) l1 (.tup (w.ms.map fun r => V.ref r.a))) l2 (.tup [.ref w.g.a])) l3 (.tup (w.ts.map fun r => V.ref r.a))) pt (.tup [.ref l0, .ref l1, .ref l2, .ref l3])) p (.ins A.c_Cluster dx (putF "parts" (.ref pt) []))) rt (.tup (w.rs.map V.str))) p (.ins A.c_Cluster dx (putF "resources" (.ref rt) (putF "parts" (.ref pt) [])))) = H4 at hD ⊢
    have s4 : SameBut p H1 H4 := by rw [← hH4]; walk_at "gb but"
    have e4 : H4 p = some (.ins A.c_Cluster dx (putF "resources" (.ref rt) (putF "parts" (.ref pt) []))) := by rw [← hH4]; exact upd_same
    have q0 : H4 l0 = some (.tup (w.rs.map V.str)) := by rw [← hH4]; walk_at "gb hp"
    have q1 : H4 l1 = some (.tup (w.ms.map fun r => V.ref r.a)) := by rw [← hH4]; walk_at "gb hp"
    have q2 : H4 l2 = some (.tup [.ref w.g.a]) := by rw [← hH4]; walk_at "gb hp"
    have q3 : H4 l3 = some (.tup (w.ts.map fun r => V.ref r.a)) := by rw [← hH4]; walk_at "gb hp"
    have qp : H4 pt = some (.tup [.ref l0, .ref l1, .ref l2, .ref l3]) := by rw [← hH4]; walk_at "gb hp"
    have qr : H4 rt = some (.tup (w.rs.map V.str)) := by rw [← hH4]; walk_at "gb hp"
    have g24 : H4 w.ma = some (.lst (w.ms.map fun r => V.ref r.a)) := by rw [← hH4]; walk_at "gb hp"
    have g34 : H4 w.ga = some (.lst [.ref w.g.a]) := by rw [← hH4]; walk_at "gb hp"
    have g44 : H4 w.ta = some (.lst (w.ts.map fun r => V.ref r.a)) := by rw [← hH4]; walk_at "gb hp"
    have T4 : LamX.Tabs [(A.tb_check_rows, GL.lamQ "check_rows")] H4 := tabs_but s4 p1 T1
    have t4 : Tups H1 H4 := sb_tups s4 p1
    have m4 := w1.mm.mono t4
    have gg4 := w1.gg.mono t4
    have tt4 := w1.tt.mono t4
    clear hH4
    refine lc_list (K := K) (a := w.ma) (xs := w.ms.map fun r => V.ref r.a) (fun i Hq => Same H4 Hq ∧ ∃ mo : List Addr, Hq D = some (.lst (mo.map V.ref)) ∧ Obs (MOb A) Hq mo w.ms i) ⟨same_new hD, [], upd_same, Obs.nil⟩ (fun i Hq _ h => SqL.of (h.1 _ _ g24)) ?_ ?_
    · rintro i x Hq hi ⟨s5, mo, e5, hN⟩
      obtain ⟨r, hr, rfl⟩ := get_map hi
      have hrm := List.mem_of_getElem? hr
      have hrA := (m4 r hrm).mono (Same.tups s5)
      have hre := hrA.e
      have hrf : Few r.xs := by unfold Few; rw [(hm3 r hrm).num.len]; exact hr1
      have hnl := hN.len
      have hi4 : i < w.ms.length := (List.getElem?_eq_some_iff.mp hr).1
      have hsl : (mo.map V.ref).length < sizeLine := by rw [List.length_map, sizeLine_eq]; omega
      clear s4 hp
      walk_at "gb go"
      rename_i x1 H6 hx1 s6 ob1
      have eD : H6 D = some (.lst (mo.map V.ref)) := s6 _ _ e5
      have hfr := (fr_same s6).trans (fr_lst (o := .lst (mo.map V.ref ++ [V.ref x1])) eD)
      refine ⟨?a, hN.next (fun x q o => o.fr hfr) hr (ob1.fr (fr_lst eD))⟩
      case a => rw [List.map_append]; exact upd_same
    · rintro Hq ⟨s5, mo, e5, hN⟩
      rw [List.length_map] at hN
      walk_at "gb go"
      rename_i mt hmt
      generalize hH6 : (upd (upd Hq mt (.tup (mo.map V.ref))) p (.ins A.c_Cluster dx (putF "machines" (.ref mt) (putF "resources" (.ref rt) (putF "parts" (.ref pt) []))))) = H6
      have e5p := s5 _ _ e4
      have s6 : SameBut p Hq H6 := by rw [← hH6]; walk_at "gb but"
      have s46 : SameBut p H4 H6 := (Same.but s5).trans s6
      have e6 : H6 p = some (.ins A.c_Cluster dx (putF "machines" (.ref mt) (putF "resources" (.ref rt) (putF "parts" (.ref pt) [])))) := by rw [← hH6]; exact upd_same
      have qm : H6 mt = some (.tup (mo.map V.ref)) := by rw [← hH6]; walk_at "gb hp"
      have f6 : Fr Hq H6 := fr_but s6 e5p (.inr ⟨_, by rw [lookup_putF, if_neg (by decide +kernel), lookup_putF, if_pos rfl]⟩)
      have oM := hN.fr (fun x q o => MOb.fr o f6)
      have t46 : Tups H4 H6 := sb_tups s46 e4
      have gg6 := gg4.mono t46
      have tt6 := tt4.mono t46
      have T6 := tabs_but s46 e4 T4
      have g36 : H6 w.ga = some (.lst [.ref w.g.a]) := s46 _ _ (fun z => by rw [z, e4] at g34; cases g34) g34
      have g46 : H6 w.ta = some (.lst (w.ts.map fun r => V.ref r.a)) := s46 _ _ (fun z => by rw [z, e4] at g44; cases g44) g44
      have hgn := ho.gn
      have hgk := ho.gk
      have sb6 : SameBut p H1 H6 := s4.trans s46
      clear hH6 s5 hN f6 e5 hmt e5p hD
      walk_at "gb go"
      rename_i lv H7 s7 qlv D2 hD2
      have e7 := s7 _ _ e6
      have g37 := s7 _ _ g36
      have g47 := s7 _ _ g46
      have gg7 := gg6.mono (Same.tups s7)
      have hin : inV (.str w.g.nm) [.str w.g.nm] = true := by
        have := inV_strs w.g.nm [w.g.nm]
        rw [decide_eq_true (List.mem_singleton.mpr rfl)] at this
        exact this
      refine lc_it (walk_enum (K := K) (a := w.ga) (xs := [V.ref w.g.a])) (fun j Hq2 => Same H7 Hq2 ∧ ∃ go : List Addr, Hq2 D2 = some (.lst (go.map V.ref)) ∧ Obs (GOb A) Hq2 go [w.g] j) ⟨same_new hD2, [], upd_same, Obs.nil⟩ (fun j Hq2 _ h => SqL.of (h.1 _ _ g37)) ?_ ?_
      · rintro j x Hq2 H8 hj ⟨s8, go, e8, hG⟩ ⟨T2, v0, y, rfl, hT2, rfl, ev0, hy⟩
        cases ev0
        obtain rfl : j = 0 := by simpa using hj
        obtain rfl : y = V.ref w.g.a := by simpa using hy.symm
        have gg8 := gg7.mono (Same.tups s8)
        have hge := gg8.e
        have qlv8 := s8 _ _ qlv
        have g38 := s8 _ _ g37
        have hgo := hG.len
        have hgl : w.g.n ≤ 3 := by omega
        have hg1 : 1 ≤ w.g.n := by omega
        have hsl : (go.map V.ref).length < sizeLine := by rw [List.length_map, sizeLine_eq]; omega
        clear s7 s4 sb6 s46 s6
        walk_at "gb go"
        rename_i pa H9 s9 epa x1 H10 hx1 s10 ob1
        have s8T : Same Hq2 H9 := (same_new hT2).trans s9
        have eD : H10 D2 = some (.lst (go.map V.ref)) := s10 _ _ (s8T _ _ e8)
        have hfr := (fr_same (s8T.trans s10)).trans (fr_lst (o := .lst (go.map V.ref ++ [V.ref x1])) eD)
        refine ⟨?a, hG.next (fun x q o => o.fr hfr) rfl (ob1.fr (fr_lst eD))⟩
        case a => rw [List.map_append]; exact upd_same
      · rintro Hq2 ⟨s8, go, e8, hG⟩
        obtain ⟨go1, rfl⟩ : ∃ x, go = [x] := List.length_eq_one_iff.mp hG.len
        walk_at "gb go"
        rename_i gt hgt D3 hD3
        generalize hH10 : (upd (upd Hq2 gt (.tup ([go1].map V.ref))) p (.ins A.c_Cluster dx (putF "groups" (.ref gt) (putF "machines" (.ref mt) (putF "resources" (.ref rt) (putF "parts" (.ref pt) [])))))) = H10 at hD3 ⊢
        have e8p := s8 _ _ e7
        have s10 : SameBut p Hq2 H10 := by rw [← hH10]; walk_at "gb but"
        have s610 : SameBut p H6 H10 := (Same.but (s7.trans s8)).trans s10
        have e10 : H10 p = some (.ins A.c_Cluster dx (putF "groups" (.ref gt) (putF "machines" (.ref mt) (putF "resources" (.ref rt) (putF "parts" (.ref pt) []))))) := by rw [← hH10]; exact upd_same
        have qg : H10 gt = some (.tup [.ref go1]) := by rw [← hH10]; walk_at "gb hp"
        have f10 : Fr Hq2 H10 := fr_but s10 e8p (.inr ⟨_, lk1 (lk1 lk0 (by decide +kernel)) (by decide +kernel)⟩)
        have oG := (hG.ob 0 go1 w.g rfl rfl).fr f10
        have oM10 := oM.fr (fun x q o => MOb.fr o (((fr_same s7).trans (fr_same s8)).trans f10))
        have t610 : Tups H6 H10 := sb_tups s610 e6
        have tt10 := tt6.mono t610
        have qm10 := t610 _ _ qm
        have g410 : H10 w.ta = some (.lst (w.ts.map fun r => V.ref r.a)) := s610 _ _ (fun z => by rw [z, e6] at g46; cases g46) g46
        have T10 := tabs_but s610 e6 T6
        have sb10 := sb6.trans s610
        obtain ⟨gdx, gfa, gpa, eG, aG, epG⟩ := oG.ex
        have hws := fun r hr => foes_ws (ho.to r hr)
        clear hH10 s7 s8 s10 f10 hG hgt e8p hD2 e8 e7 g37 g47
        refine lc_it (walk_enum (K := K) (a := w.ta) (xs := w.ts.map fun r => V.ref r.a)) (fun j Hq3 => Same H10 Hq3 ∧ ∃ to : List Addr, Hq3 D3 = some (.lst (to.map V.ref)) ∧ Obs (fun H x r => TOb A H x r w.ts) Hq3 to w.ts j) ⟨same_new hD3, [], upd_same, Obs.nil⟩ (fun j Hq3 _ h => SqL.of (h.1 _ _ g410)) ?_ ?_
        · rintro j x Hq3 H11 hj ⟨s11, to, e11, hN⟩ ⟨T2, v0, y, rfl, hT2, rfl, ev0, hy⟩
          cases ev0
          obtain ⟨r, hr, rfl⟩ := get_map hy
          have hrm := List.mem_of_getElem? hr
          have hrA := (tt10 r hrm).mono (Same.tups s11)
          have hrO := ho.to r hrm
          have hre := hrA.e
          rw [hrO.gp] at hre
          have tt11 := tt10.mono (Same.tups s11)
          have g411 := s11 _ _ g410
          have e10p := s11 _ _ e10
          have qg11 := s11 _ _ qg
          have eG11 := s11 _ _ eG
          have hnl := hN.len
          have hi4 : j < w.ts.length := (List.getElem?_eq_some_iff.mp hr).1
          have hsl : (to.map V.ref).length < sizeLine := by rw [List.length_map, sizeLine_eq]; omega
          have hr13 := hr1.1
          have hr33 := hr1.2
          clear s4 s46 s6 s610 sb6 sb10
          walk_at "gb go"
          rename_i Ha sa fo Hb sb efo x1 Hc hx1 sc ob1
          have s8T : Same Hq3 Hb := ((same_new hT2).trans sa).trans sb
          have eD : Hc D3 = some (.lst (to.map V.ref)) := sc _ _ (s8T _ _ e11)
          have hfr := (fr_same (s8T.trans sc)).trans (fr_lst (o := .lst (to.map V.ref ++ [V.ref x1])) eD)
          refine ⟨?a, hN.next (fun x q o => TOb.fr o hfr) hr (ob1.fr (fr_lst eD))⟩
          case a => rw [List.map_append]; exact upd_same
        · rintro Hq3 ⟨s11, to, e11, hN⟩
          rw [List.length_map] at hN
          obtain ⟨m0, hm0⟩ : ∃ m0, mo[0]? = some m0 := ⟨_, List.getElem?_eq_getElem (by rw [oM10.len]; omega)⟩
          obtain ⟨r0, hr0⟩ : ∃ r0, w.ms[0]? = some r0 := ⟨_, List.getElem?_eq_getElem (by omega)⟩
          have hat : atI (mo.map V.ref) 0 = some (.ref m0) := atI_nat (j := 0) (by rw [List.getElem?_map, hm0]; rfl)
          have hnum0 := (hm3 r0 (List.mem_of_getElem? hr0)).num
          have hf0 : Few r0.xs := by unfold Few; rw [hnum0.len]; exact hr1
          have hb0 := num_bits hnum0
          have hbz : Bits 100 0 := by unfold Bits; decide
          have oM11 := oM10.fr (fun x q o => MOb.fr o (fr_same s11))
          obtain ⟨mdx, mam, eM, aM⟩ := (oM11.ob 0 m0 r0 hm0 hr0).ex
          have e10p := s11 _ _ e10
          have qm11 := s11 _ _ qm10
          walk_at "gb go"
          rename_i tt htt
          generalize hH12 : (upd (upd Hq3 tt (.tup (to.map V.ref))) p (.ins A.c_Cluster dx (putF "templates" (.ref tt) (putF "groups" (.ref gt) (putF "machines" (.ref mt) (putF "resources" (.ref rt) (putF "parts" (.ref pt) []))))))) = H12
          have s12 : SameBut p Hq3 H12 := by rw [← hH12]; walk_at "gb but"
          have e12 : H12 p = some (.ins A.c_Cluster dx (putF "templates" (.ref tt) (putF "groups" (.ref gt) (putF "machines" (.ref mt) (putF "resources" (.ref rt) (putF "parts" (.ref pt) [])))))) := by rw [← hH12]; exact upd_same
          have qt : H12 tt = some (.tup (to.map V.ref)) := by rw [← hH12]; walk_at "gb hp"
          have f12 : Fr Hq3 H12 := fr_but s12 e10p (.inr ⟨_, lk1 (lk1 (lk1 (lk0) (by decide +kernel)) (by decide +kernel)) (by decide +kernel)⟩)
          have f1012 : Fr H10 H12 := (fr_same s11).trans f12
          have oM12 := oM11.fr (fun x q o => MOb.fr o f12)
          have oT12 := hN.fr (fun x q o => TOb.fr o f12)
          have oG12 := oG.fr f1012
          have eM12 := f12 _ _ eM (okI (mfl_parts _ _) (mfl_name _ _))
          have aM12 := aM.fr f12
          have qm12 := f12 _ _ qm11 okT
          have sb1012 : SameBut p H10 H12 := (Same.but s11).trans s12
          have sbA : (SameBut p H1 H12) ∧ True := ⟨sb10.trans sb1012, trivial⟩
          have T12 := tabs_but sb1012 e10 T10
          have f412 : Fr H4 H12 := ((fr_but s46 e4 (.inr ⟨_, lk1 (lk0) (by decide +kernel)⟩)).trans (fr_but s610 e6 (.inr ⟨_, lk1 (lk1 (lk0) (by decide +kernel)) (by decide +kernel)⟩))).trans f1012
          try clear sb10
          try clear sb1012
          try clear s610
          try clear s46
          try clear sb6
          try clear s12
          try clear s6
          try clear s4
          try clear s11
          try clear hH12
          try clear qm11
          try clear e11
          walk_at "gb go"
          rename_i tot0 H13 s13 aT0
          have qm13 := s13 _ _ qm12
          refine for_tup (K := K) (a := mt) (xs := mo.map V.ref) (fun i σ H14 => ∃ (v7 : Option V) (tot : Addr), σ = [some (.ref p), some (.ref w.ra), some (.ref w.ma), some (.ref w.ga), some (.ref w.ta), some (.ref lv), some (.ref tot), v7, none, none] ∧ Same H13 H14 ∧ AmtAt A H14 tot (totsN w i)) ⟨_, tot0, rfl, Same.refl _, by rw [← totsN_zero hnum0.len]; exact aT0⟩ (fun i σ H14 _ ⟨_, _, _, h, _⟩ => SqT.of (h _ _ qm13)) ?_ ?_
          · rintro i x σ H14 hi ⟨v7, tot, rfl, s14, aT⟩
            obtain ⟨mi, hmi, rfl⟩ := get_map hi
            have hil : i < w.ms.length := by have := (List.getElem?_eq_some_iff.mp hmi).1; rw [oM12.len] at this; exact this
            obtain ⟨ri, hri⟩ : ∃ ri, w.ms[i]? = some ri := ⟨_, List.getElem?_eq_getElem hil⟩
            have hnum := (hm3 ri (List.mem_of_getElem? hri)).num
            have oi := (oM12.ob i mi ri hmi hri).fr ((fr_same s13).trans (fr_same s14))
            obtain ⟨idx, iam, eI, aI⟩ := oi.ex
            have hfi : Few (totsN w i) := by unfold Few; rw [totsN_len]; exact hr1
            have hle : (totsN w i).length = ri.xs.length := by rw [totsN_len, hnum.len]
            clear aT0 aM12
            walk_at "gb go"
            rename_i _ x1 H15 s15 a15
            rw [← totsN_succ hri hnum.len]
            exact AmtAt.num a15
          · rintro σ H14 ⟨v7, tot, rfl, s14, aT⟩
            rw [List.length_map, oM12.len, totsN_all] at aT
            have s1214 : Same H12 H14 := s13.trans s14
            have e14 := s1214 _ _ e12
            clear aT0 aM12
            walk_at "gb go"
            have sb15 : SameBut p H12 (upd H14 p (.ins A.c_Cluster dx (putF "total" (.ref tot) (putF "templates" (.ref tt) (putF "groups" (.ref gt) (putF "machines" (.ref mt) (putF "resources" (.ref rt) (putF "parts" (.ref pt) [])))))))) := but_own (Same.but s1214)
            have f15 := fr_but sb15 e12 (.inr ⟨_, lk1 (lk1 (lk1 (lk1 (lk0) (by decide +kernel)) (by decide +kernel)) (by decide +kernel)) (by decide +kernel)⟩)
            have f415 := f412.trans f15
            refine k _ ⟨dx, pt, rt, mt, gt, tt, tot, go1, l0, l1, l2, l3, mo, to, upd_same, f415 _ _ qr okT, f15 _ _ qm12 okT, oM12.fr (fun x q o => MOb.fr o f15), (f1012.trans f15) _ _ qg okT, oG12.fr f15, f15 _ _ qt okT, oT12.fr (fun x q o => TOb.fr o f15),
              amt_fld e14 (by decide +kernel) aT, f415 _ _ qp okT, f415 _ _ q0 okT, f415 _ _ q1 okT, f415 _ _ q2 okT, f415 _ _ q3 okT⟩ (fun b o e hb hn => sb15 _ _ hb (sbA.1 _ _ hb (x1 _ _ e hn))) (tabs_but sb15 e12 T12)
theorem ok_used_at (T : Txt K mg A) : FnOk P w K mg base CX0 6 A.f_used_at A.d_used_at ["rows", "hour", "many"] (spUsed A) := by
  refine T.F_used_at.ok sc_used_at (fun vs H Q E h => ?_) (fun cdv Ar outer s H vs Q E hr h => ?_)
  · obtain ⟨a, l, h, n, rfl, _⟩ := h
    rfl
  · obtain ⟨a, l, h, n, rfl, ha, hK, hx, hl, hn1, hn3, k⟩ := h
    refine ⟨_, (pss_cons (ps_setLc (i := 3) (own := [("k", 4)]) (g := gName 4) (tt := tYes) rfl sc_used_at.nd rfl rfl (sw_true rfl rfl rfl (by decide +kernel)) (pi_range1 rfl T.n_range (pa_cons (pv 2) pa_nil)) (blkOk_by (N := ["rows", "hour", "many", "numbers", "k", "row"]) (sc := defScope s_used_at) (by decide +kernel)) (fun _ _ _ _ _ => (pg_name (i := 4) sc_used_at.nd rfl (Or.inr rfl))) (fun _ _ _ _ _ => pts_nil) (fun _ _ _ _ _ => (pe_callB (cr_sumK K rfl) (by rfl) T.n_sum (by decide +kernel) (pa_cons (pe_lc (own := [("row", 5)]) (g := gName 5) rfl sc_used_at.nd (pi_listK K (pv 0)) (blkOk_by (N := ["rows", "hour", "many", "numbers", "k", "row"]) rfl) (fun _ _ _ _ _ => (pg_name (i := 5) sc_used_at.nd rfl (Or.inl rfl))) (fun _ _ _ _ _ => pts_one (pt_chain op_le op_lt (pe_ix (ix_tupK K) (pv 5) pe_int (fun _ _ => rfl)) (pv 1) (pe_ix (ix_tupK K) (pv 5) pe_int (fun _ _ => rfl)))) (fun _ _ _ _ _ => (pe_ix (ix_tupK K) (pe_ix (ix_tupK K) (pv 5) pe_int (fun _ _ => rfl)) (pv 4) (fun _ _ => rfl)))) pa_nil))))
        (pss_one (ps_ret (pe_makeStarK K T.mk_Amounts (ok_Amounts_init T) (hr.mono (by decide)) rfl T.g_Amounts passL (pv 3))))), ?_⟩
    walk_at "gb go"
    rename_i D hD
    refine lc_range (lo := 0) (n := ((n : Nat) : Int).toNat) (fun i Hq => Same H Hq ∧ Hq D = some (.lst (((used l h n).map V.int).take i))) ⟨same_new hD, upd_same⟩ ?_ ?_
    · rintro i Hq hi ⟨s1, e1⟩
      have hi2 : i < n := by simpa using hi
      have h2 := s1 _ _ ha
      have hsl : (((used l h n).map V.int).take i).length < sizeLine := by
        rw [List.length_take, sizeLine_eq]; omega
      walk_at "gb go"
      rename_i D2 hD2
      refine lc_list (K := K) (a := a) (xs := l.map fun r => V.ref r.a) (fun i2 H2 => Same Hq H2 ∧ H2 D2 = some (.lst ((usedK (l.take i2) h i).map V.int))) ⟨same_new hD2, upd_same⟩ (fun i2 H2 _ g => SqL.of (g.1 _ _ h2)) ?_ ?_
      · rintro i2 x H2 hi3 ⟨s2, e2⟩
        obtain ⟨r, hr, rfl⟩ := get_map hi3
        have hrm := List.mem_of_getElem? hr
        have hre := s2 _ _ (s1 _ _ (hK r hrm).e)
        have hrn := s2 _ _ (s1 _ _ (hK r hrm).n)
        have hxl := hx r hrm
        have hat : atI (r.xs.map V.int) (0 + (i : Int)) = some (.int (r.xs.getD i 0)) := by
          rw [Int.zero_add]
          exact atI_nat (by rw [List.getElem?_map, getD_some (by omega)]; rfl)
        have hul := @usedK_len l h i i2
        have hsl2 : ((usedK (l.take i2) h i).map V.int).length < sizeLine := by
          rw [List.length_map, sizeLine_eq]; omega
        have hus := @usedK_succ l h i i2 r hr
        walk_at "gb go"
        · rename_i a1 a2
          rw [hus, if_pos (by unfold onAt; rw [decide_eq_true a1, decide_eq_true a2]; rfl), List.map_append]
          exact upd_same
        · rename_i a1 a2
          rw [hus, if_neg (by unfold onAt; rw [decide_eq_false a2, Bool.and_false]; decide), List.append_nil]
          exact e2
        · rename_i a1
          rw [hus, if_neg (by unfold onAt; rw [decide_eq_false a1, Bool.false_and]; decide), List.append_nil]
          exact e2
      · rintro H2 ⟨s2, e2⟩
        rw [List.length_map, List.take_length] at e2
        have e3 := s2 _ _ e1
        walk_at "gb go"
        exact lc_end (by unfold used; rw [List.getElem?_map, List.getElem?_map, List.getElem?_range hi2]; rfl)
    · rintro Hq ⟨s1, e1⟩
      rw [take_all (by simp [used])] at e1
      have hfew : Few (used l h n) := by unfold Few used; rw [List.length_map, List.length_range]; omega
      walk_at "gb go"
theorem ok_Takes_init (T : Txt K mg A) : FnOk P w K mg base CX0 1 A.f_Takes_init A.d_Takes_init ["self", "cluster", "rows"] (spTkI A) := by
  refine T.F_Takes_init.ok sc_Takes_init (fun vs H Q E h => ?_) (fun cdv Ar outer s H vs Q E hr h => ?_)
  · obtain ⟨p, dx, c, a, ys, rfl, _⟩ := h
    rfl
  · obtain ⟨p, dx, c, a, ys, rfl, hp, ha, k⟩ := h
    refine ⟨_, (pss_cons (ps_fld (pv 0) (pv 1) rfl)
        (pss_one (ps_fld (pv 0) (pe_callTy call_tuple_of (by rfl) T.n_tuple (by decide +kernel) (pa_cons (pv 2) pa_nil)) rfl))), ?_⟩
    walk_at "gb go"
    rename_i l hl
    have n1 : l ≠ p := (none_ne hl upd_same).symm
    exact k l _ (by walk_at "gb but") (by walk_at "gb hp") upd_same
theorem ok_Span_init (T : Txt K mg A) : FnOk P w K mg base (L2.CX P w) 3 A.f_Span_init A.d_Span_init ["self", "start", "end"] (spSpanI A) := by
  refine T.F_Span_init.okX sc_Span_init (fun vs H Q E h => ?_) (fun cdv Ar outer s H vs Q E hr h => ?_)
  · obtain ⟨p, dx, a, b, rfl, _⟩ := h
    rfl
  · obtain ⟨p, dx, a, b, rfl, hp, h0, h1, k⟩ := h
    refine ⟨_, (pss_cons (ps_if (pt_not (pt_chain op_le op_le pe_int (pv 1) (pv 2))) (pss_one (ps_raiseG rfl T.x_BadSpan (ok_GangError_init T) (hr.mono (by decide)) T.b_GangError_init rfl T.g_BadSpan (takes_of rfl rfl rfl rfl) (pe_tup (pa_cons (pv 1) (pa_cons (pv 2) pa_nil))))) pss_nil)
        (pss_cons (ps_fld (pv 0) (pv 1) rfl)
        (pss_one (ps_fld (pv 0) (pv 2) rfl)))), ?_⟩
    walk_at "gb go"
    exact k _ (by walk_at "gb but") (by first | exact upd_same | (rw [upd_upd]; exact upd_same))
theorem ok_Takes_common (T : Txt K mg A) : FnOk P w K mg base CX0 1 A.f_Takes_common A.d_Takes_common ["self", "machine", "span"] (spCommon A) := by
  refine T.F_Takes_common.ok sc_Takes_common (fun vs H Q E h => ?_) (fun cdv Ar outer s H vs Q E hr h => ?_)
  · obtain ⟨x, dx, c, t, l, m, y, dy, a, b, rfl, _⟩ := h
    rfl
  · obtain ⟨x, dx, c, t, l, m, y, dy, a, b, rfl, hx, ht, hK, hl, hy, k⟩ := h
    refine ⟨_, (pss_one (ps_ret (pe_lc (own := [("row", 3)]) (g := gName 3) rfl sc_Takes_common.nd (pi_tupK K (pe_fldK K (pv 0) rfl)) (blkOk_by (N := ["self", "machine", "span", "row"]) (sc := defScope s_Takes_common) (by decide +kernel)) (fun _ _ _ _ _ => (pg_name (i := 3) sc_Takes_common.nd rfl (Or.inl rfl))) (fun _ _ _ _ _ => pts_one (by exact (PW.pt (pw_and (pt_cmpR op_eq (pe_ix (ix_tupK K) (pv 3) pe_int (fun _ _ => rfl)) (pv 1) (nomark _)) (pw_and1 (pt_cmpR op_lt (pe_callB (call_max2 rfl) (by rfl) T.n_max (by decide +kernel) (pa_cons (pe_ix (ix_tupK K) (pv 3) pe_int (fun _ _ => rfl)) (pa_cons (pe_fldK K (pv 2) rfl) pa_nil))) (pe_callB (call_min2 rfl) (by rfl) T.n_min (by decide +kernel) (pa_cons (pe_ix (ix_tupK K) (pv 3) pe_int (fun _ _ => rfl)) (pa_cons (pe_fldK K (pv 2) rfl) pa_nil))) (nomark _))))))) (fun _ _ _ _ _ => (pv 3))))), ?_⟩
    walk_at "gb go"
    rename_i D hD
    refine lc_tup (K := K) (a := t) (xs := l.map fun r => V.ref r.a) (fun j Hq => Same H Hq ∧ Hq D = some (.lst ((comm (l.take j) m a b).map fun r => V.ref r.a))) ⟨same_new hD, upd_same⟩ (fun j Hq _ h => SqT.of (h.1 _ _ ht)) ?_ ?_
    · rintro j x9 Hq hj ⟨s8, e8⟩
      obtain ⟨r, hr, rfl⟩ := get_map hj
      have hre := s8 _ _ (hK.all r (List.mem_of_getElem? hr)).e
      have hy8 := s8 _ _ hy
      have hsl : ((comm (l.take j) m a b).map fun r => V.ref r.a).length < sizeLine := by
        have := @comm_take l m a b j
        rw [List.length_map, sizeLine_eq]; omega
      have hus := @comm_succ l m a b j r hr
      walk_at "gb go"
      · rename_i c1 c2
        rw [hus, if_pos (show inSp m a b r = true by unfold inSp; rw [decide_eq_true c1, decide_eq_true c2]; rfl), List.map_append]
        exact upd_same
      · rename_i c1 c2
        rw [hus, if_neg (show ¬ inSp m a b r = true by unfold inSp; rw [decide_eq_true c1, decide_eq_false c2]; decide), List.append_nil]
        exact e8
      · rename_i c1
        rw [hus, if_neg (show ¬ inSp m a b r = true by unfold inSp; rw [decide_eq_false c1]; simp), List.append_nil]
        exact e8
    · rintro Hq ⟨s8, e8⟩
      rw [List.length_map, List.take_length] at e8
      exact k D Hq s8 e8
theorem ok_Takes_free (T : Txt K mg A) : FnOk P w K mg base CX0 8 A.f_Takes_free A.d_Takes_free ["self", "machine", "span"] (spFree A) := by
  refine T.F_Takes_free.ok sc_Takes_free (fun vs H Q E h => ?_) (fun cdv Ar outer s H vs Q E hr h => ?_)
  · obtain ⟨x, dx, c, t, l, m, y, dy, a, b, wa, r, rfl, _⟩ := h
    rfl
  · obtain ⟨x, dx, c, t, l, m, y, dy, a, b, wa, r, rfl, hx, ht, hK, hy, hC, hO, hnn, hw, hm, k⟩ := h
    refine ⟨_, (pss_cons (ps_set (i := 3) sc_Takes_free.nd rfl (Or.inl rfl) (pe_fldK K (pe_ix (ix_tupK K) (pe_fldK K (pe_fldK K (pv 0) rfl) rfl) (pv 1) (fun _ _ => rfl)) rfl))
        (pss_cons (ps_set (i := 4) sc_Takes_free.nd rfl (Or.inl rfl) (pe_meth (pv 0) T.cl_Takes T.me_Takes_common (ok_Takes_common T) (hr.mono (by decide)) T.b_Takes_common .nil pass0 (pa_cons (pv 1) (pa_cons (pv 2) pa_nil))))
        (pss_cons (ps_set (i := 5) sc_Takes_free.nd rfl (Or.inl rfl) (pv 3))
        (pss_cons (ps_for PassesOwn.never rfl (pi_listK K (pe_callB (cr_sortedSet rfl) (by rfl) T.n_sorted (by decide +kernel) (pa_cons (pe_scI (own := [("row", 7)]) (g := gName 7) (tt := tYes) rfl sc_Takes_free.nd (pi_listK K (pv 4)) (blkOk_by (N := ["self", "machine", "span", "amounts", "rows", "least", "hour", "row"]) (sc := defScope s_Takes_free) (by decide +kernel)) (fun _ _ _ _ _ => (pg_name (i := 7) sc_Takes_free.nd rfl (Or.inl rfl))) (fun _ _ _ _ _ => pts_nil) (fun _ _ _ _ _ => (pe_callB (call_max2 rfl) (by rfl) T.n_max (by decide +kernel) (pa_cons (pe_ix (ix_tupK K) (pv 7) pe_int (fun _ _ => rfl)) (pa_cons (pe_fldK K (pv 2) rfl) pa_nil))))) pa_nil))) (pg_name (i := 6) sc_Takes_free.nd rfl (Or.inl rfl))
        (pss_one (ps_set (i := 5) sc_Takes_free.nd rfl (Or.inl rfl) (pe_op (op_own T.me_Amounts_and T.sf_Amounts (ok_Amounts_and T) (hr.mono (by decide)) T.b_Amounts_and passL) (pv 5) (pe_op (op_own T.me_Amounts_sub T.sf_Amounts (ok_Amounts_sub T) (hr.mono (by decide)) T.b_Amounts_sub passL) (pv 3) (pe_call (ok_used_at T) (hr.mono (by decide)) rfl T.g_used_at T.F_used_at.kp T.b_used_at .nil pass0 (pa_cons (pv 4) (pa_cons (pv 6) (pa_cons (pe_callB (call_lenOwn T.me_Amounts_len (ok_Amounts_len T) (hr.mono (by decide)) T.b_Amounts_len pass0) (by rfl) T.n_len (by decide +kernel) (pa_cons (pv 3) pa_nil)) pa_nil)))))))))
        (pss_one (ps_ret (pv 5))))))), ?_⟩
    obtain ⟨cdx, pt, rt, mt, gt, tt, tot, go, r0, m0, g0, t0, mo, to, eC, eR, eM, oM, _⟩ := hC.ex
    have hr1 := hw.r1
    have hl2 := hO.l2
    have hmm := List.mem_of_getElem? hm
    obtain ⟨mi, hmi⟩ : ∃ mi, mo[m]? = some mi := ⟨_, List.getElem?_eq_getElem (by rw [oM.len]; exact (List.getElem?_eq_some_iff.mp hm).1)⟩
    have oi := oM.ob m mi r hmi hm
    have hat : atI (mo.map V.ref) (m : Int) = some (.ref mi) := atI_nat (by rw [List.getElem?_map, hmi]; rfl)
    obtain ⟨idx, iam, eI, aI⟩ := oi.ex
    walk_at "gb go"
    rename_i D H1 s1 e1 z hz
    have hK1 := hK.mono (Same.tups s1)
    have hy1 := s1 _ _ hy
    obtain ⟨ps, hps, hst⟩ := hO.st
    have hcl := @comm_len l m a b
    refine sci_it (w := w) (walk_list (K := K) (a := D) (xs := (comm l m a b).map fun r => V.ref r.a)) (fun j H9 => Same H1 H9 ∧ ∃ S n, H9 z = some (SetO w z S n) ∧ SOkL S n (((comm l m a b).take j).map (mxs a))) ⟨same_new hz, _, _, upd_same, SOkL.nil⟩ (fun j H9 _ h => SqL.of (h.1 _ _ e1)) ?_ ?_
    · rintro j y H9 H9' hj ⟨s9, S, n, eS, oS⟩ ⟨rfl, hy9⟩
      obtain ⟨q, hq, rfl⟩ := get_map hy9
      have hrm := List.mem_of_getElem? hq
      have hre := s9 _ _ (hK1.all q (comm_mem hrm)).e
      have hy9 := s9 _ _ hy1
      have hsb : n + 1 < scanBound := by
        have : n ≤ (a :: ps).length := oS.le fun q hq => by
          obtain ⟨r2, h2, rfl⟩ := List.mem_map.mp hq
          have := hst r2 (comm_mem (List.mem_of_mem_take h2))
          unfold mxs
          split
          · exact List.mem_cons_self
          · exact List.mem_cons_of_mem _ this
        rw [List.length_cons] at this
        show n + 1 < 4096
        omega
      walk_at "gb go"
      rw [List.take_succ, hq, List.map_append]
      exact oS.step
    · rintro H9 ⟨s9, S, n, eS, oS⟩
      rw [List.length_map, List.take_length] at oS
      have hn12 : n ≤ 12 := by
        have : n ≤ (a :: ps).length := oS.le fun q hq => by
          obtain ⟨r2, h2, rfl⟩ := List.mem_map.mp hq
          have := hst r2 (comm_mem h2)
          unfold mxs
          split
          · exact List.mem_cons_self
          · exact List.mem_cons_of_mem _ this
        rw [List.length_cons] at this
        omega
      walk_at "gb go"
      rename_i ns p q1 q2 q3 q4
      have hss : ∀ x, x ∈ ns ↔ ∃ q ∈ comm l m a b, mxs a q = x := fun x => (q2 x).trans ((oS.mem x).trans List.mem_map)
      have s10 : Same H9 (upd H9 p (.lst (ns.map V.int))) := same_new q4
      have ep : (upd H9 p (.lst (ns.map V.int))) p = some (.lst (ns.map V.int)) := upd_same
      generalize upd H9 p (.lst (ns.map V.int)) = H10 at s10 ep ⊢
      have sA : Same H H10 := (s1.trans s9).trans s10
      have eD := (s9.trans s10) _ _ e1
      have aI10 := aI.mono sA
      have hK10 := hK.mono (Same.tups sA)
      have hnum := (hw.mo r hmm).num
      have hfew : Few r.xs := by unfold Few; rw [hnum.len]; exact hr1
      clear eI aI hK1 hy1 e1 hK s9 s10 eS hz q4
      refine for_list (K := K) (a := p) (xs := ns.map V.int) (fun j σ Hr => ∃ (z : Addr) (us : List Int) (v6 v7 : Option V), σ = [some (.ref x), some (.int (m : Int)), some (.ref y), some (.ref iam), some (.ref D), some (.ref z), v6, v7] ∧ Same H10 Hr ∧ AmtAt A Hr z us ∧ LowH r.xs l m (ns.take j) us) ⟨iam, r.xs, _, _, rfl, Same.refl _, aI10, LowH.nil⟩ (fun j σ Hr _ ⟨_, _, _, _, _, h, _⟩ => SqL.of (h _ _ ep)) ?_ ?_
      · rintro j y σ Hr hj ⟨z, us, v6, v7, rfl, sb, aZ, hL⟩
        obtain ⟨hh, hhj, rfl⟩ := get_map hj
        obtain ⟨qh, hqh, hqe⟩ := (hss hh).mp (List.mem_of_getElem? hhj)
        obtain ⟨_, g1, g2, _, _⟩ := inSp_mx (List.mem_filter.mp hqh).2
        rw [hqe] at g1 g2
        have aIr := aI10.mono sb
        have eDr := sb _ _ eD
        have hKr : ∀ q ∈ comm l m a b, KRAt Hr q := fun q hq => (hK10.all q (comm_mem hq)).mono (Same.tups sb)
        have hLr : ∀ q ∈ comm l m a b, q.xs.length = (r.xs.map V.int).length := fun q hq => by rw [List.length_map, hnum.len]; exact hO.len q (comm_mem hq)
        have hjl : j < ns.length := (List.getElem?_eq_some_iff.mp hhj).1
        clear aI10 eD hK10
        obtain ⟨adx, atu, haI, haT⟩ := id aIr
        have hmn : (r.xs.map V.int).length ≤ 3 := by rw [List.length_map, hnum.len]; exact hr1.2
        have hmn1 : 1 ≤ (r.xs.map V.int).length := by rw [List.length_map, hnum.len]; exact hr1.1
        have hr3 : r.xs.length ≤ 3 := by rw [hnum.len]; exact hr1.2
        have hl63 : (((r.xs.map V.int).length : Nat) : Int) < 2 ^ 63 := by omega
        have hul : (used (comm l m a b) hh (r.xs.map V.int).length).length = r.xs.length := by unfold used; rw [List.length_map, List.length_range, List.length_map]
        have hul2 : r.xs.length = (used (comm l m a b) hh (r.xs.map V.int).length).length := hul.symm
        have husl : us.length = r.xs.length := hL.len
        have hfewu : Few us := by unfold Few; rw [husl, hnum.len]; exact hr1
        walk_at "gb go"
        rename_i x2 H11 s11 a2 _ x3 H12 s12 a3
        have e1 : List.zipWith (fun i j => i - j) r.xs (used (comm l (m : Int) a b) hh (r.xs.map V.int).length) = (List.range r.xs.length).map fun k => fr r.xs l m hh k := by
          rw [used_comm g1 g2, List.length_map]
          exact free_eq
        rw [e1]
        refine ⟨fun _ => ?_, fun z => absurd (by rw [husl, List.length_map, List.length_range]) z⟩
        intro x4 H13 s13 a4
        refine ⟨x4, _, _, _, rfl, ((sb.trans s11).trans s12).trans s13, a4, ?_⟩
        rw [List.take_succ, hhj]
        refine hL.step (by rw [List.length_zipWith, husl, List.length_map, List.length_range, Nat.min_self]) fun k hk => ?_
        rw [List.getD_eq_getElem?_getD, List.getElem?_zipWith, List.getElem?_map, List.getElem?_range hk, getD_some (l := us) (by omega)]
        rfl
      · rintro σ Hr ⟨z, us, v6, v7, rfl, sb, aZ, hL⟩
        rw [List.length_map, List.take_length] at hL
        have hL2 := hL.fin hnn hss
        walk_at "gb go"
        exact k z us _ (sA.trans sb) aZ hL2
theorem ok_Takes_users (T : Txt K mg A) : FnOk P w K mg base CX0 3 A.f_Takes_users A.d_Takes_users ["self", "machine", "span"] (spUsers A) := by
  refine T.F_Takes_users.ok sc_Takes_users (fun vs H Q E h => ?_) (fun cdv Ar outer s H vs Q E hr h => ?_)
  · obtain ⟨x, dx, c, t, l, m, y, dy, a, b, rfl, _⟩ := h
    rfl
  · obtain ⟨x, dx, c, t, l, m, y, dy, a, b, rfl, hx, ht, hK, hl, hy, hu, k⟩ := h
    refine ⟨_, (pss_one (ps_ret (pe_callTy call_tuple_of (by rfl) T.n_tuple (by decide +kernel) (pa_cons (pe_callB (cr_sortedSet rfl) (by rfl) T.n_sorted (by decide +kernel) (pa_cons (pe_scI (own := [("row", 3)]) (g := gName 3) rfl sc_Takes_users.nd (pi_listK K (pe_meth (pv 0) T.cl_Takes T.me_Takes_common (ok_Takes_common T) (hr.mono (by decide)) T.b_Takes_common .nil pass0 (pa_cons (pv 1) (pa_cons (pv 2) pa_nil)))) (blkOk_by (N := ["self", "machine", "span", "row"]) (sc := defScope s_Takes_users) (by decide +kernel)) (fun _ _ _ _ _ => (pg_name (i := 3) sc_Takes_users.nd rfl (Or.inl rfl))) (fun _ _ _ _ _ => pts_one (pt_cmpR op_ne (pe_ix (ix_tupK K) (pv 3) pe_int (fun _ _ => rfl)) (pe_un un_neg pe_int) (nomark _))) (fun _ _ _ _ _ => (pe_ix (ix_tupK K) (pv 3) pe_int (fun _ _ => rfl)))) pa_nil)) pa_nil)))), ?_⟩
    walk_at "gb go"
    rename_i D H1 s1 e1 z hz
    refine sci_it (w := w) (walk_list (K := K) (a := D) (xs := (comm l m a b).map fun r => V.ref r.a)) (fun j H9 => Same H1 H9 ∧ ∃ S n, H9 z = some (SetO w z S n) ∧ SOkL S n ((((comm l m a b).take j).map (·.us)).filter fun u => decide (u ≠ -1))) ⟨same_new hz, _, _, upd_same, SOkL.nil⟩ (fun j H9 _ h => SqL.of (h.1 _ _ e1)) ?_ ?_
    · rintro j y H9 H9' hj ⟨s9, S, n, eS, oS⟩ ⟨rfl, hy9⟩
      obtain ⟨r, hr, rfl⟩ := get_map hy9
      have hrm := List.mem_of_getElem? hr
      have hre := s9 _ _ (s1 _ _ (hK.all r (comm_mem hrm)).e)
      obtain ⟨ps, hps, hpm⟩ := hu
      have hsb : n + 1 < scanBound := by
        have : n ≤ ps.length := oS.le fun q hq => by
          obtain ⟨r2, h2, rfl⟩ := List.mem_map.mp (List.mem_filter.mp hq).1
          exact hpm r2 (comm_mem (List.mem_of_mem_take h2))
        show n + 1 < 4096
        omega
      walk_at "gb go"
      · rename_i c1
        rw [List.take_succ, hr, List.map_append, List.filter_append]
        have : ([r].map (·.us)).filter (fun u => decide (u ≠ -1)) = [r.us] := by
          show List.filter _ [r.us] = _
          rw [List.filter_cons, if_pos (decide_eq_true c1)]; rfl
        rw [show (some r).toList = [r] from rfl, this]
        exact oS.step
      · rename_i c1
        rw [List.take_succ, hr, List.map_append, List.filter_append]
        have : ([r].map (·.us)).filter (fun u => decide (u ≠ -1)) = [] := by
          show List.filter _ [r.us] = _
          rw [List.filter_cons, if_neg (by rw [decide_eq_true_iff]; exact fun z => z c1)]; rfl
        rw [show (some r).toList = [r] from rfl, this, List.append_nil]
        exact oS
    · rintro H9 ⟨s9, S, n, eS, oS⟩
      rw [List.length_map, List.take_length] at oS
      obtain ⟨ps, hps, hpm⟩ := hu
      have hn11 : n ≤ 11 := Nat.le_trans (oS.le fun q hq => by
          obtain ⟨r2, h2, rfl⟩ := List.mem_map.mp (List.mem_filter.mp hq).1
          exact hpm r2 (comm_mem h2)) hps
      walk_at "gb go"
      rename_i ns p q1 q2 q3 q4 l2 hl2
      refine k l2 ns _ (by walk_at "gb same") upd_same ⟨q1, fun u => (q2 u).trans ((oS.mem u).trans ?_)⟩
      rw [List.mem_filter, List.mem_map, decide_eq_true_iff]
      exact And.comm
theorem ok_Takes_iter (T : Txt K mg A) : FnOk P w K mg base CX0 1 A.f_Takes_iter A.d_Takes_iter ["self"] (spTkIter A) := by
  refine T.F_Takes_iter.ok sc_Takes_iter (fun vs H Q E h => ?_) (fun cdv Ar outer s H vs Q E hr h => ?_)
  · obtain ⟨a, dx, c, t, ys, rfl, _⟩ := h
    rfl
  · obtain ⟨a, dx, c, t, ys, rfl, ha, ht, k⟩ := h
    refine ⟨_, (pss_one (ps_ret (pe_callB (call_iterTK K) (by rfl) T.n_iter (by decide +kernel) (pa_cons (pe_fldK K (pv 0) rfl) pa_nil)))), ?_⟩
    walk_at "gb go"
    exact k _ (by assumption)
theorem ok_Takes_add (T : Txt K mg A) : FnOk P w K mg base CX0 4 A.f_Takes_add A.d_Takes_add ["self", "other"] (spTkAdd2 A) := by
  refine T.F_Takes_add.ok sc_Takes_add (fun vs H Q E h => ?_) (fun cdv Ar outer s H vs Q E hr h => ?_)
  · obtain ⟨a, b, dx, c, t, ys, zs, rfl, _⟩ := h
    rfl
  · obtain ⟨a, b, dx, c, t, ys, zs, rfl, ha, ht, hb, hl1, hl2, k⟩ := h
    refine ⟨_, (pss_one (ps_ret (pe_make T.mk_Takes (ok_Takes_init T) (hr.mono (by decide)) rfl T.g_Takes T.b_Takes_init .nil pass0 (pa_cons (pe_fldK K (pv 0) rfl) (pa_cons (pe_lst (StX.pa_star (pe_fldK K (pv 0) rfl) (pa_starEK K T.me_Takes_iter T.nl_Takes T.nh_Takes (ok_Takes_iter T) T.b_Takes_iter (hr.mono (by decide)) (pv 1) pa_nil))) pa_nil))))), ?_⟩
    rcases hb.ex with hb1 | ⟨dy, cy, ty, hb1, hb2⟩
    · walk_at "gb go"
      refine .inl ⟨b, zs, rfl, .inr (SqL.of hb1), ?_⟩
      walk_at "gb go"
      rename_i x H1 hx s1 a1
      rw [List.append_nil] at a1
      exact k _ _ (by walk_at "gb same") a1
    · walk_at "gb go"
      refine .inr ⟨b, dy, ty, _, zs, rfl, hb1, SqT.of hb2, by omega, fun l hl => ⟨b, dy, cy, ty, zs, rfl, upd_fr hb1 hl, upd_fr hb2 hl, fun it hit => ⟨it, rfl, hit, rfl⟩⟩, fun l it hl hit hne => ?_⟩
      have s0 : Same H (upd (upd H l (.lst zs)) it (ItX it)) := (same_new hl).trans (same_new (by rw [upd_ne hne]; exact hit))
      generalize upd (upd H l (.lst zs)) it (ItX it) = H5 at s0 ⊢
      walk_at "gb go"
      rename_i x H1 hx s1 a1
      rw [List.append_nil] at a1
      exact k _ _ (s0.trans (by walk_at "gb same")) a1
theorem ok_Cluster_stage_of (T : Txt K mg A) : FnOk P w K mg base CX0 1 A.f_Cluster_stage_of A.d_Cluster_stage_of ["self", "gang"] (spStageOf A) := by
  refine T.F_Cluster_stage_of.ok sc_Cluster_stage_of (fun vs H Q E h => ?_) (fun cdv Ar outer s H vs Q E hr h => ?_)
  · obtain ⟨c, g, w, ti, si, r, q, rfl, _⟩ := h
    rfl
  · obtain ⟨c, g, w, ti, si, r, q, rfl, hC, hg, ht, hq, k⟩ := h
    refine ⟨_, (pss_cons (ps_asg (pv 1) (pg_tup rfl (pgs_cons (pg_name (i := 2) sc_Cluster_stage_of.nd rfl (Or.inl rfl)) (pgs_cons (pg_name (i := 3) sc_Cluster_stage_of.nd rfl (Or.inl rfl)) pgs_nil))))
        (pss_one (ps_ret (pe_ix (ix_tupK K) (pe_fldK K (pe_ix (ix_tupK K) (pe_fldK K (pv 0) rfl) (pv 2) (fun _ _ => rfl)) rfl) (pv 3) (fun _ _ => rfl))))), ?_⟩
    obtain ⟨dx, pt, rt, mt, gt, tt, tot, go, r0, m0, g0, t0, mo, to, eC, eR, eM, oM, eG, oG, eT, oT, _⟩ := hC.ex
    obtain ⟨xo, hxo⟩ : ∃ xo, to[ti]? = some xo := ⟨_, List.getElem?_eq_getElem (by rw [oT.len]; exact (List.getElem?_eq_some_iff.mp ht).1)⟩
    have hat : atI (to.map V.ref) (ti : Int) = some (.ref xo) := atI_nat (by rw [List.getElem?_map, hxo]; rfl)
    have oX := oT.ob ti xo r hxo ht
    obtain ⟨dxt, so, wn, wb, wl, fo, sl, eX, eS, oS, _⟩ := oX.ex
    obtain ⟨yo, hyo⟩ : ∃ yo, sl[si]? = some yo := ⟨_, List.getElem?_eq_getElem (by rw [oS.len]; exact (List.getElem?_eq_some_iff.mp hq).1)⟩
    have hat2 : atI (sl.map V.ref) (si : Int) = some (.ref yo) := atI_nat (by rw [List.getElem?_map, hyo]; rfl)
    walk_at "gb go"
    exact k yo (oS.ob si yo q hyo hq)
theorem ok_room_of (T : Txt K mg A) : FnOk P w K mg base CX0 4 A.f_room_of A.d_room_of ["free", "amounts"] (spRoomOf A) := by
  refine T.F_room_of.ok sc_room_of (fun vs H Q E h => ?_) (fun cdv Ar outer s H vs Q E hr h => ?_)
  · obtain ⟨x, y, us, xs, rfl, _⟩ := h
    rfl
  · obtain ⟨x, y, us, xs, rfl, hx, hy, hl, h3, hp, h9, k⟩ := h
    refine ⟨_, (pss_one (ps_ret (pe_callB (cr_minPK K rfl (hu_of hr)) (by rfl) T.n_min (by decide +kernel) (pa_cons (pe_lc (own := [("k", 3), ("have", 2), ("need", 4)]) (g := (gTup K 2 (gCons (gName 3) (gCons (gTup K 2 (gCons (gName 2) (gCons (gName 4) gNil))) gNil)))) rfl sc_room_of.nd (pi_enumZOK K T.me_Amounts_iter (ok_Amounts_iter T) T.b_Amounts_iter (hr.mono (by decide)) rfl T.n_enumerate rfl T.n_zip (pa_cons (pv 0) (pa_cons (pv 1) pa_nil))) (blkOk_by (N := ["free", "amounts", "have", "k", "need"]) (sc := defScope s_room_of) (by decide +kernel)) (fun _ _ _ _ _ => (pg_tup rfl (pgs_cons (pg_name (i := 3) sc_room_of.nd rfl (Or.inl rfl)) (pgs_cons (pg_tup rfl (pgs_cons (pg_name (i := 2) sc_room_of.nd rfl (Or.inl rfl)) (pgs_cons (pg_name (i := 4) sc_room_of.nd rfl (Or.inl rfl)) pgs_nil))) pgs_nil)))) (fun _ _ _ _ _ => pts_one (pt_cmpR op_gt (pv 4) pe_int (nomark _))) (fun _ _ _ _ _ => (pe_tup (pa_cons (pe_op op_fdiv (pe_callB (call_max2 rfl) (by rfl) T.n_max (by decide +kernel) (pa_cons (pv 2) (pa_cons pe_int pa_nil))) (pv 4)) (pa_cons (pv 3) pa_nil))))) pa_nil)))), ?_⟩
    obtain ⟨ax, tx, eX, eTx⟩ := id hx
    obtain ⟨ay, ty, eY, eTy⟩ := id hy
    walk_at "gb go"
    rename_i it hit jt hjt D hD
    have nji : jt ≠ it := fun z => by rw [z, upd_same] at hjt; cases hjt
    have hjt0 : H jt = none := by rw [upd_ne nji] at hjt; exact hjt
    generalize hn : (us.map V.int).length = n at *
    have s0 : Same H (upd (upd H it (ItU tx it 0 n)) jt (ItU ty jt 0 n)) := (same_new hit).trans (same_new (by rw [upd_ne nji]; exact hjt0))
    have eI : (upd (upd H it (ItU tx it 0 n)) jt (ItU ty jt 0 n)) it = some (ItU tx it 0 n) := by rw [upd_ne nji.symm, upd_same]
    have eJ : (upd (upd H it (ItU tx it 0 n)) jt (ItU ty jt 0 n)) jt = some (ItU ty jt 0 n) := upd_same
    generalize upd (upd H it (ItU tx it 0 n)) jt (ItU ty jt 0 n) = H0 at s0 eI eJ hD ⊢
    have hD0 : H D = none := fresh_of s0 hD
    refine lc_EZU (xs := us.map V.int) (ys := xs.map V.int) hn (by rw [List.length_map, ← hl, ← List.length_map (f := V.int)]; exact hn) (fun i Hq => Hq it = some (ItU tx it i n) ∧ Hq jt = some (ItU ty jt i n) ∧ Same H Hq ∧ Prs Hq D us xs i) ⟨upd_fr eI hD, upd_fr eJ hD, s0.trans (same_new hD), [], upd_same, (fun p hp => by cases hp), Nat.le_refl _, fun p => ⟨(fun ⟨q, hq, _⟩ => by cases hq), fun ⟨j, hj, _⟩ => absurd hj (by omega)⟩⟩ (fun i Hq _ ⟨a, b, s, _⟩ => ⟨SqT.of (s _ _ eTx), SqT.of (s _ _ eTy), a, b⟩) ?_ ?_
    · rintro i x9 y9 T0 T Hq hx9 hy9 ⟨a, b, s, hP⟩ hT0 hT
      obtain ⟨u, hu, rfl⟩ := get_map hx9
      obtain ⟨v, hv, rfl⟩ := get_map hy9
      have kp := kp_ez (o4 := .tup [.int (i : Nat), .ref T0]) a b hT0 hT
      have s4 := same_ez (o4 := .tup [.int (i : Nat), .ref T0]) s hit hjt0 hT0 hT
      have hP4 := hP.kp kp
      have nT : T0 ≠ T := fun z => by rw [← z, upd_same] at hT; cases hT
      have m1 : it ≠ T0 := fun z => by rw [z, hT0] at a; cases a
      have m2 : jt ≠ T0 := fun z => by rw [z, hT0] at b; cases b
      have m3 : it ≠ T := fun z => by rw [← z, upd_ne m1, upd_ne nji.symm, upd_same] at hT; cases hT
      have m4 : jt ≠ T := fun z => by rw [← z, upd_ne m2, upd_same] at hT; cases hT
      have e1 : (upd (upd (upd (upd Hq it (ItU tx it (i + 1) n)) jt (ItU ty jt (i + 1) n)) T0 (.tup [.int u, .int v])) T (.tup [.int (i : Nat), .ref T0])) T = some (.tup [.int (i : Nat), .ref T0]) := upd_same
      have e2 : (upd (upd (upd (upd Hq it (ItU tx it (i + 1) n)) jt (ItU ty jt (i + 1) n)) T0 (.tup [.int u, .int v])) T (.tup [.int (i : Nat), .ref T0])) T0 = some (.tup [.int u, .int v]) := by rw [upd_ne nT, upd_same]
      have e3 : (upd (upd (upd (upd Hq it (ItU tx it (i + 1) n)) jt (ItU ty jt (i + 1) n)) T0 (.tup [.int u, .int v])) T (.tup [.int (i : Nat), .ref T0])) it = some (ItU tx it (i + 1) n) := by rw [upd_ne m3, upd_ne m1, upd_ne nji.symm, upd_same]
      have e4 : (upd (upd (upd (upd Hq it (ItU tx it (i + 1) n)) jt (ItU ty jt (i + 1) n)) T0 (.tup [.int u, .int v])) T (.tup [.int (i : Nat), .ref T0])) jt = some (ItU ty jt (i + 1) n) := by rw [upd_ne m4, upd_ne m2, upd_same]
      generalize upd (upd (upd (upd Hq it (ItU tx it (i + 1) n)) jt (ItU ty jt (i + 1) n)) T0 (.tup [.int u, .int v])) T (.tup [.int (i : Nat), .ref T0]) = H4 at s4 hP4 e1 e2 e3 e4 ⊢
      clear kp hT hT0 hP a b s s0 eI eJ hD
      have hui : us.getD i 0 = u := by rw [List.getD_eq_getElem?_getD, hu]; rfl
      have hvi : xs.getD i 0 = v := by rw [List.getD_eq_getElem?_getD, hv]; rfl
      obtain ⟨L, eL, tL, lL, mL⟩ := hP4.ex
      have hix : i < xs.length := (List.getElem?_eq_some_iff.mp hv).1
      have hsl : (L.map fun p => V.ref p.1).length < sizeLine := by rw [List.length_map, sizeLine_eq]; omega
      have hv9 := h9 v (List.mem_of_getElem? hv)
      walk_at "gb go"
      · rename_i c1 T9 hT9
        have hval : (if 0 > u then 0 else u) / v = rmC us xs i := by unfold rmC; rw [hui, hvi]
        show Prs (upd (upd H4 T9 (HO.tup [V.int ((if 0 > u then 0 else u) / v), V.int ↑i])) D _) D us xs (i + 1)
        rw [hval]
        refine Prs.yes (by walk_at "gb hp") (fun p hp => upd_fr (tL p hp) hT9) lL mL (by rw [hvi]; exact c1) upd_same
      · rename_i c1
        exact hP4.no (by rw [hvi]; exact c1)
    · rintro Hq ⟨a, b, s, hP⟩
      obtain ⟨L, eL, tL, lL, mL⟩ := hP.ex
      have hnl : n = xs.length := by rw [← hn, List.length_map, hl]
      rw [hnl] at mL
      have tL2 : ∀ p ∈ L, SqT K Hq p.1 (p.2.l.map V.int) := fun p hp => SqT.of (tL p hp)
      have hne : L ≠ [] := by
        obtain ⟨z, hz, hz0⟩ := hp
        obtain ⟨j, hj, e⟩ := List.getElem_of_mem hz
        have e2 : xs.getD j 0 = z := by rw [List.getD_eq_getElem?_getD, List.getElem?_eq_getElem hj, e]; rfl
        obtain ⟨q, hq, _⟩ := (mL _).mpr ⟨j, hj, by rw [e2]; exact hz0, rfl⟩
        exact List.ne_nil_of_mem hq
      walk_at "gb go"
      rename_i p9 hp9 hle
      obtain ⟨c, kk, e, hr⟩ := RoomAt.of mL hp9 hle
      refine k p9.1 c kk _ s ?_ hr
      have := tL p9 hp9
      rw [e] at this
      exact this
theorem ok_bar_of (T : Txt K mg A) : FnOk P w K mg base CX0 9 A.f_bar_of A.d_bar_of ["takes", "gang", "span", "barred", "at"] (spBar A K) := by
  refine T.F_bar_of.ok sc_bar_of (fun vs H Q E h => ?_) (fun cdv Ar outer s H vs Q E hr h => ?_)
  · obtain ⟨x, g, y, o, c, w, l, ti, si, r, sq, a, b, out, m, q, rfl, _⟩ := h
    rfl
  · obtain ⟨x, g, y, o, c, w, l, ti, si, r, sq, a, b, out, m, q, rfl, hB, hm, k⟩ := h
    refine ⟨_, (pss_cons (ps_set (i := 5) sc_bar_of.nd rfl (Or.inr rfl) (pe_ix (ix_tupK K) (pe_fldK K (pe_fldK K (pv 0) rfl) rfl) (pe_ix (ix_tupK K) (pv 1) pe_int (fun _ _ => rfl)) (fun _ _ => rfl)))
        (pss_cons (ps_set (i := 6) sc_bar_of.nd rfl (Or.inr rfl) (pe_fldK K (pe_ix (ix_tupK K) (pe_fldK K (pe_fldK K (pv 0) rfl) rfl) (pv 4) (fun _ _ => rfl)) rfl))
        (pss_cons (ps_if (pt_cmpR (op_in_seqK K) (pv 4) (pv 3) rfl) (pss_one (ps_ret pe_str)) pss_nil)
        (pss_cons (ps_if (pt_not (pt_val (pe_callB (cr_all rfl) (by rfl) T.n_all (by decide +kernel) (pa_cons (pe_lc (own := [("label", 7)]) (g := gName 7) (tt := tYes) rfl sc_bar_of.nd (pi_tupK K (pe_fldK K (pv 5) rfl)) (blkOk_by (N := ["takes", "gang", "span", "barred", "at", "template", "labels", "label", "user"]) (sc := defScope s_bar_of) (by decide +kernel)) (fun _ _ _ _ _ => (pg_name (i := 7) sc_bar_of.nd rfl (Or.inl rfl))) (fun _ _ _ _ _ => pts_nil) (fun _ _ _ _ _ => (pe_cmpR (op_in_seqK K) (pv 7) (pv 6) rfl))) pa_nil)) (by intro _; rfl))) (pss_one (ps_ret pe_str)) pss_nil)
        (pss_cons (ps_if (pt_val (pe_callB (cr_any rfl) (by rfl) T.n_any (by decide +kernel) (pa_cons (pe_lc (own := [("label", 7)]) (g := gName 7) (tt := tYes) rfl sc_bar_of.nd (pi_tupK K (pe_fldK K (pv 5) rfl)) (blkOk_by (N := ["takes", "gang", "span", "barred", "at", "template", "labels", "label", "user"]) (sc := defScope s_bar_of) (by decide +kernel)) (fun _ _ _ _ _ => (pg_name (i := 7) sc_bar_of.nd rfl (Or.inl rfl))) (fun _ _ _ _ _ => pts_nil) (fun _ _ _ _ _ => (pe_cmpR (op_in_seqK K) (pv 7) (pv 6) rfl))) pa_nil)) (by intro _; rfl)) (pss_one (ps_ret pe_str)) pss_nil)
        (pss_cons (ps_if (PW.pt (pw_and (pt_truth (pe_fldK K (pv 5) rfl) (by intro _; rfl)) (pw_and1 (pt_val (pe_callB (cr_any rfl) (by rfl) T.n_any (by decide +kernel) (pa_cons (pe_lc (own := [("user", 8)]) (g := gName 8) (tt := tYes) rfl sc_bar_of.nd (pi_tupK K (pe_meth (pv 0) T.cl_Takes T.me_Takes_users (ok_Takes_users T) (hr.mono (by decide)) T.b_Takes_users .nil pass0 (pa_cons (pv 4) (pa_cons (pv 2) pa_nil)))) (blkOk_by (N := ["takes", "gang", "span", "barred", "at", "template", "labels", "label", "user"]) (sc := defScope s_bar_of) (by decide +kernel)) (fun _ _ _ _ _ => (pg_name (i := 8) sc_bar_of.nd rfl (Or.inl rfl))) (fun _ _ _ _ _ => pts_nil) (fun _ _ _ _ _ => (pe_cmpR (op_in_seqK K) (pv 8) (pe_fldK K (pv 5) rfl) rfl))) pa_nil)) (by intro _; rfl))))) (pss_one (ps_ret pe_str)) pss_nil)
        (pss_one (ps_ret pe_non)))))))), ?_⟩
    obtain ⟨⟨dx, t, eX, eT⟩, hR, hC, hM, hO, hG, eg, ht, hs, ⟨dy, eY⟩, eo, ol⟩ := id hB
    
    obtain ⟨dxc, pt, rt, mt, gt, tt, tot, go, r0, m0, g0, t0, mo, to, eC, eR, eM, oM, eG, oG, eTT, oT, _⟩ := hC.ex
    obtain ⟨xo, hxo⟩ : ∃ xo, to[ti]? = some xo := ⟨_, List.getElem?_eq_getElem (by rw [oT.len]; exact (List.getElem?_eq_some_iff.mp ht).1)⟩
    have hat : atI (to.map V.ref) (ti : Int) = some (.ref xo) := atI_nat (by rw [List.getElem?_map, hxo]; rfl)
    have oX := oT.ob ti xo r hxo ht
    obtain ⟨dxt, so, wn, wb, wl, fo, sl, eXo, eS, oS, eN, eB, eL, eF⟩ := oX.ex
    obtain ⟨mi, hmi⟩ : ∃ mi, mo[m]? = some mi := ⟨_, List.getElem?_eq_getElem (by rw [oM.len]; exact (List.getElem?_eq_some_iff.mp hm).1)⟩
    have hatm : atI (mo.map V.ref) (m : Int) = some (.ref mi) := atI_nat (by rw [List.getElem?_map, hmi]; rfl)
    obtain ⟨idx, iam, eI, aI⟩ := (oM.ob m mi q hmi hm).ex
    have eLb := (hM q (List.mem_of_getElem? hm)).l
    have hin := inV_ints (m : Int) out
    have hws := (hO.to r (List.mem_of_getElem? ht)).w6
    have hnl := @nAft_len (Str.ofString "needs") r.ws
    have hbl := @nAft_len (Str.ofString "bars") r.ws
    walk_at "gb go"
    · rename_i c1
      have hmo : (m : Int) ∈ out := by rw [if_neg (by decide), hin] at c1; exact of_decide_eq_true c1
      have := k H (Same.refl _)
      rw [show barO w.ts r q l m a b out = some (Str.ofString "barred") from if_pos hmo] at this
      exact this
    · rename_i c1 D hD
      have hmo : ¬ (m : Int) ∈ out := by rw [if_neg (by decide), hin] at c1; exact of_decide_eq_false c1
      clear c1 hin
      refine lc_tup (K := K) (a := wn) (xs := (nAft (Str.ofString "needs") r.ws).map V.str) (fun i Hq => Same H Hq ∧ Hq D = some (.lst ((((nAft (Str.ofString "needs") r.ws).map fun z => decide (z ∈ q.lb)).map V.bl).take i))) ⟨same_new hD, upd_same⟩ (fun i Hq _ h => SqT.of (h.1 _ _ eN)) ?_ ?_
      · rintro i x9 Hq hi ⟨s1, e1⟩
        obtain ⟨z, hz, rfl⟩ := get_map hi
        have hiv := inV_strs z q.lb
        have eLb1 := s1 _ _ eLb
        have hsl : ((((nAft (Str.ofString "needs") r.ws).map fun z => decide (z ∈ q.lb)).map V.bl).take i).length < sizeLine := by rw [List.length_take, List.length_map, List.length_map, sizeLine_eq]; omega
        walk_at "gb go"
        rw [if_neg (show ¬ (false = true) by decide), hiv]
        exact lc_end (by rw [List.getElem?_map, List.getElem?_map, hz]; rfl)
      · rintro Hq ⟨s1, e1⟩
        rw [take_all (by simp)] at e1
        have eB1 := s1 _ _ eB
        have eF1 := s1 _ _ eF
        have eLb1 := s1 _ _ eLb
        walk_at "gb go"
        · rename_i c2
          rw [all_id] at c2
          have hnb : needB r q = false := by unfold needB; simpa using c2
          have := k Hq s1
          rw [barO_2 hmo hnb] at this
          exact this
        · rename_i c2 D2 hD2
          rw [all_id] at c2
          have hnb : needB r q = true := by unfold needB; simpa using c2
          clear c2
          refine lc_tup (K := K) (a := wb) (xs := (nAft (Str.ofString "bars") r.ws).map V.str) (fun i Hr => Same Hq Hr ∧ Hr D2 = some (.lst ((((nAft (Str.ofString "bars") r.ws).map fun z => decide (z ∈ q.lb)).map V.bl).take i))) ⟨same_new hD2, upd_same⟩ (fun i Hr _ h => SqT.of (h.1 _ _ eB1)) ?_ ?_
          · rintro i x9 Hr hi ⟨s2, e2⟩
            obtain ⟨z, hz, rfl⟩ := get_map hi
            have hiv := inV_strs z q.lb
            have eLb2 := s2 _ _ eLb1
            have hsl : ((((nAft (Str.ofString "bars") r.ws).map fun z => decide (z ∈ q.lb)).map V.bl).take i).length < sizeLine := by rw [List.length_take, List.length_map, List.length_map, sizeLine_eq]; omega
            walk_at "gb go"
            rw [if_neg (show ¬ (false = true) by decide), hiv]
            exact lc_end (by rw [List.getElem?_map, List.getElem?_map, hz]; rfl)
          · rintro Hr ⟨s2, e2⟩
            rw [take_all (by simp)] at e2
            have s3 := s1.trans s2
            have hR3 := hR.mono (Same.tups s3)
            have eX3 := s3 _ _ eX
            have eT3 := s3 _ _ eT
            have eF3 := s3 _ _ eF
            have eY3 := s3 _ _ eY
            have hl2 := hG.ok.l2
            have hus := us_few hG.us hO.t1.2
            walk_at "gb go"
            · rename_i c3
              rw [any_id] at c3
              have := k Hr s3
              rw [barO_3 hmo hnb c3] at this
              exact this
            · rename_i c3
              rw [any_id] at c3
              refine ⟨(show TruV _ _ _ (!((foesN w.ts r w.ts.length).map V.int).isEmpty) from .inr (.inl ⟨_, SqT.of eF3, rfl⟩)), ?_⟩
              have hfl := @foesN_len w.ts r w.ts.length
              walk_at "gb go"
              rotate_left
              · rename_i c4
                have hm0 : meetB w.ts r l m a b = false := by
                  have e0 : foesN w.ts r w.ts.length = [] := by
                    cases h : foesN w.ts r w.ts.length with
                    | nil => rfl
                    | cons y ys => rw [h] at c4; simp at c4
                  unfold meetB
                  rw [e0]
                  exact List.any_eq_false.mpr fun k hk => by simp
                have := k Hr s3
                rw [barO_5 hmo hnb c3 hm0] at this
                exact this
              · rename_i c4 U us H4 s4 eU hA D5 hD5
                have eF4 := s4 _ _ eF3
                have hul : us.length ≤ 11 := by
                  obtain ⟨ps, p1, p2⟩ := hus
                  exact Nat.le_trans (asc_le hA fun x ⟨_, k, hk, e⟩ => e ▸ p2 k (comm_mem hk)) p1
                refine lc_tup (K := K) (a := U) (xs := us.map V.int) (fun i Hs => Same H4 Hs ∧ Hs D5 = some (.lst (((us.map fun u => decide (u ∈ foesN w.ts r w.ts.length)).map V.bl).take i))) ⟨same_new hD5, upd_same⟩ (fun i Hs _ h => SqT.of (h.1 _ _ eU)) ?_ ?_
                · rintro i x9 Hs hi ⟨s5, e5⟩
                  obtain ⟨z, hz, rfl⟩ := get_map hi
                  have hiv := inV_ints z (foesN w.ts r w.ts.length)
                  have eF5 := s5 _ _ eF4
                  have hsl : (((us.map fun u => decide (u ∈ foesN w.ts r w.ts.length)).map V.bl).take i).length < sizeLine := by rw [List.length_take, List.length_map, List.length_map, sizeLine_eq]; omega
                  walk_at "gb go"
                  rw [if_neg (show ¬ (false = true) by decide), hiv]
                  exact lc_end (by rw [List.getElem?_map, List.getElem?_map, hz]; rfl)
                · rintro Hs ⟨s5, e5⟩
                  rw [take_all (by simp)] at e5
                  have hme := meet_users (ts := w.ts) (r := r) hA
                  have s6 := (s3.trans s4).trans s5
                  walk_at "gb go"
                  · rename_i c5
                    rw [any_id, hme] at c5
                    have := k Hs s6
                    rw [barO_4 hmo hnb c3 c5] at this
                    exact this
                  · rename_i c5
                    rw [any_id, hme] at c5
                    have := k Hs s6
                    rw [barO_5 hmo hnb c3 c5] at this
                    exact this
theorem ok_bound_of (T : Txt K mg A) : FnOk P w K mg base CX0 10 A.f_bound_of A.d_bound_of ["takes", "gang", "span", "barred", "at"] (spBound A K) := by
  refine T.F_bound_of.ok sc_bound_of (fun vs H Q E h => ?_) (fun cdv Ar outer s H vs Q E hr h => ?_)
  · obtain ⟨x, g, y, o, c, w, l, ti, si, r, sq, a, b, out, m, q, rfl, _⟩ := h
    rfl
  · obtain ⟨x, g, y, o, c, w, l, ti, si, r, sq, a, b, out, m, q, rfl, hB, hm, k⟩ := h
    refine ⟨_, (pss_cons (ps_set (i := 5) sc_bound_of.nd rfl (Or.inl rfl) (pe_call (ok_bar_of T) (hr.mono (by decide)) rfl T.g_bar_of T.F_bar_of.kp T.b_bar_of .nil pass0 (pa_cons (pv 0) (pa_cons (pv 1) (pa_cons (pv 2) (pa_cons (pv 3) (pa_cons (pv 4) pa_nil)))))))
        (pss_cons (ps_if (pt_cmpR op_notN (pv 5) pe_non (nomark _)) (pss_one (ps_ret (pe_tup (pa_cons pe_int (pa_cons (pv 5) pa_nil))))) pss_nil)
        (pss_cons (ps_asg (pe_call (ok_room_of T) (hr.mono (by decide)) rfl T.g_room_of T.F_room_of.kp T.b_room_of .nil pass0 (pa_cons (pe_meth (pv 0) T.cl_Takes T.me_Takes_free (ok_Takes_free T) (hr.mono (by decide)) T.b_Takes_free .nil pass0 (pa_cons (pv 4) (pa_cons (pv 2) pa_nil))) (pa_cons (pe_fldK K (pe_meth (pe_fldK K (pv 0) rfl) T.cl_Cluster T.me_Cluster_stage_of (ok_Cluster_stage_of T) (hr.mono (by decide)) T.b_Cluster_stage_of .nil pass0 (pa_cons (pv 1) pa_nil)) rfl) pa_nil))) (pg_tup rfl (pgs_cons (pg_name (i := 6) sc_bound_of.nd rfl (Or.inl rfl)) (pgs_cons (pg_name (i := 7) sc_bound_of.nd rfl (Or.inl rfl)) pgs_nil))))
        (pss_cons (ps_if (PW.pt (pw_and (pt_val (pe_fldK K (pe_ix (ix_tupK K) (pe_fldK K (pe_fldK K (pv 0) rfl) rfl) (pe_ix (ix_tupK K) (pv 1) pe_int (fun _ _ => rfl)) (fun _ _ => rfl)) rfl) (by intro _; rfl)) (pw_and1 (pt_cmpR op_gt (pv 6) pe_int (nomark _))))) (pss_one (ps_ret (pe_tup (pa_cons pe_int (pa_cons pe_str pa_nil))))) pss_nil)
        (pss_one (ps_ret (pe_tup (pa_cons (pv 6) (pa_cons (pv 7) pa_nil))))))))), ?_⟩
    obtain ⟨⟨dx, t, eX, eT⟩, hR, hC, hM, hO, hG, eg, ht, hs, ⟨dy, eY⟩, eo, ol⟩ := id hB
    
    obtain ⟨dxc, pt, rt, mt, gt, tt, tot, go, r0, m0, g0, t0, mo, to, eC, eR, eM, oM, eG, oG, eTT, oT, _⟩ := hC.ex
    obtain ⟨xo, hxo⟩ : ∃ xo, to[ti]? = some xo := ⟨_, List.getElem?_eq_getElem (by rw [oT.len]; exact (List.getElem?_eq_some_iff.mp ht).1)⟩
    have hat : atI (to.map V.ref) (ti : Int) = some (.ref xo) := atI_nat (by rw [List.getElem?_map, hxo]; rfl)
    have oX := oT.ob ti xo r hxo ht
    obtain ⟨dxt, so, wn, wb, wl, fo, sl, eXo, eS, oS, eN, eB, eL, eF⟩ := oX.ex
    
    have hok := hG.ok
    have hnn := hG.nn
    have hqn := (hO.mo q (List.mem_of_getElem? hm)).num.len
    have hso := (hO.to r (List.mem_of_getElem? ht)).st sq (List.mem_of_getElem? hs)
    have hsn := hso.num.len
    have hsp := hso.pos
    have hr3 := hO.r1.2
    have hs9 : ∀ z ∈ sq.xs, z ≤ 9999 := fun z hz => (hso.num.rng z hz).2
    repeat' ((fail_if_success (show ite _ _ _)); walk_at "gb step")
    rename_i H1 s1
    rcases hbo : barO w.ts r q l m a b out with _ | z
    · repeat' ((fail_if_success (show ∀ (_ : Addr), StOb _ _ _ _ → _)); walk_at "gb step")
      rename_i z us H2 s2 aZ hL
      intro yo hyo
      obtain ⟨dxs, am, tt2, eYo, aM, aT⟩ := hyo.ex
      have hul : us.length = sq.xs.length := by rw [hL.len, hqn, hsn]
      have hxl : sq.xs.length ≤ 3 := by omega
      have s02 := s1.trans s2
      clear hyo aT
      walk_at "gb go"
      · rename_i T c1 kk H3 s3 eT3 hRm ha hc p hp
        have haB : apartB r = true := by unfold apartB; rw [inV_strs]; exact decide_eq_true ha
        exact k p 1 (.str (Str.ofString "apart")) _ (by walk_at "gb same") upd_same ⟨.inr ⟨hbo, us, c1, kk, hL, hRm, .inl ⟨haB, hc, rfl, rfl⟩⟩⟩
      · rename_i T c1 kk H3 s3 eT3 hRm ha hc p hp
        exact k p c1 (.int (kk : Int)) _ (by walk_at "gb same") upd_same ⟨.inr ⟨hbo, us, c1, kk, hL, hRm, .inr ⟨.inr hc, rfl, rfl⟩⟩⟩
      · rename_i T c1 kk H3 s3 eT3 hRm ha p hp
        have haB : apartB r = false := by unfold apartB; rw [inV_strs]; exact decide_eq_false ha
        exact k p c1 (.int (kk : Int)) _ (by walk_at "gb same") upd_same ⟨.inr ⟨hbo, us, c1, kk, hL, hRm, .inr ⟨.inl haB, rfl, rfl⟩⟩⟩
    · walk_at "gb go"
      rename_i p hp
      exact k p 0 (.str z) _ (by walk_at "gb same") upd_same ⟨.inl ⟨z, hbo, rfl, rfl⟩⟩
theorem ok_bounds (T : Txt K mg A) : FnOk P w K mg base CX0 11 A.f_bounds A.d_bounds ["takes", "gang", "span", "barred"] (spBounds A K) := by
  refine T.F_bounds.ok (CX := CX0) sc_bounds (fun vs H Q E h => ?_) (fun cdv Ar outer s H vs Q E hr h => ?_)
  · obtain ⟨x, g, y, o, c, w, l, ti, si, r, sq, a, b, out, rfl, _⟩ := h
    rfl
  · obtain ⟨x, g, y, o, c, w, l, ti, si, r, sq, a, b, out, rfl, hB, k⟩ := h
    refine ⟨_, (pss_one (ps_ret (pe_lc (own := [("at", 4)]) (g := gName 4) (tt := tYes) rfl sc_bounds.nd (pi_range1 rfl T.n_range (pa_cons (pe_callB (call_len_seqK K) (by rfl) T.n_len (by decide +kernel) (pa_cons (pe_fldK K (pe_fldK K (pv 0) rfl) rfl) pa_nil)) pa_nil)) (blkOk_by (N := ["takes", "gang", "span", "barred", "at"]) (sc := defScope s_bounds) (by decide +kernel)) (fun _ _ _ _ _ => (pg_name (i := 4) sc_bounds.nd rfl (Or.inl rfl))) (fun _ _ _ _ _ => pts_nil) (fun _ _ _ _ _ => (pe_call (ok_bound_of T) (hr.mono (by decide)) rfl T.g_bound_of T.F_bound_of.kp T.b_bound_of .nil pass0 (pa_cons (pv 0) (pa_cons (pv 1) (pa_cons (pv 2) (pa_cons (pv 3) (pa_cons (pv 4) pa_nil)))))))))), ?_⟩
    obtain ⟨⟨dx, t, eX, eT⟩, hR, hC, hM, hO, hG, eg, ht, hs, ⟨dy, eY⟩, eo, ol⟩ := id hB
    
    obtain ⟨dxc, pt, rt, mt, gt, tt, tot, go, r0, m0, g0, t0, mo, to, eC, eR, eM, oM, _⟩ := hC.ex
    have hml := oM.len
    have hm6 := hO.m1.2
    have hl62 : (((mo.map V.ref).length : Nat) : Int) < 2 ^ 62 := len62 (by rw [List.length_map]; omega)
    walk_at "gb go"
    rename_i D hD
    clear hl62
    refine lc_range (lo := 0) (n := (((mo.map V.ref).length : Nat) : Int).toNat) (fun i Hq => Same H Hq ∧ BdsAt Hq D w r sq l a b out i) ⟨same_new hD, [], upd_same, rfl, (fun p h => by cases h), fun m p q h => by cases h⟩ ?_ ?_
    · rintro i Hq hi ⟨s1, hS⟩
      obtain ⟨L, eL, hLl, hLt, hLb⟩ := hS.ex
      have hi2 : i < w.ms.length := by
        have : i < mo.length := by simpa using hi
        omega
      obtain ⟨q, hq⟩ : ∃ q, w.ms[i]? = some q := ⟨_, List.getElem?_eq_getElem hi2⟩
      have hB1 := hB.mono s1
      have hq0 : w.ms[0 + i]? = some q := by rw [Nat.zero_add]; exact hq
      have hsl : (L.map fun p => V.ref p.1).length < sizeLine := by rw [List.length_map, sizeLine_eq]; omega
      clear hS
      walk_at "gb go"
      rename_i T c1 v H2 s2 eT2 hBd
      rw [Nat.zero_add] at hBd
      exact BdsAt.snoc eL hLl hLt hLb s2 eT2 hq hBd
    · rintro Hq ⟨s1, hS⟩
      rw [show (((mo.map V.ref).length : Nat) : Int).toNat = w.ms.length by simp [hml]] at hS
      exact k D Hq hD s1 hS
theorem ok_seeded (T : Txt K mg A) : FnOk P w K mg base CX0 1 A.f_seeded A.d_seeded ["_law_script"] (spSeed K) := by
  refine T.F_seeded.ok sc_seeded (fun vs H Q E h => ?_) (fun cdv Ar outer s H vs Q E hr h => ?_)
  · obtain ⟨a, ns, rfl, _⟩ := h
    rfl
  · obtain ⟨a, ns, rfl, hS, hl, hb, k⟩ := h
    refine ⟨_, (pss_cons (ps_set (i := 1) sc_seeded.nd rfl (Or.inl rfl) (pe_lst (pa_cons pe_int (pa_cons pe_int (pa_cons pe_int pa_nil)))))
        (pss_cons (ps_for PassesOwn.never rfl (pi_listK K (pv 0)) (pg_name (i := 2) sc_seeded.nd rfl (Or.inl rfl))
        (pss_cons (ps_asg (pe_op op_add pe_int (pe_op op_mod (pe_callTy call_int1 (by rfl) T.n_int (by decide +kernel) (pa_cons (pe_op op_add (pe_op op_mulX (pe_ix (ix_listK K) (pv 1) pe_int (fun _ _ => rfl)) pe_int) (pv 2)) pa_nil)) pe_int)) (pg_sub (pv 1) pe_int set_list))
        (pss_one (ps_asg (pe_op op_add pe_int (pe_op op_mod (pe_callTy call_int1 (by rfl) T.n_int (by decide +kernel) (pa_cons (pe_op op_add (pe_op op_mulX (pe_ix (ix_listK K) (pv 1) pe_int (fun _ _ => rfl)) pe_int) (pv 2)) pa_nil)) pe_int)) (pg_sub (pv 1) pe_int set_list)))))
        (pss_cons (ps_if (PW.pt (pw_and (pt_cmpR op_gt (pe_callB (call_len_seqK K) (by rfl) T.n_len (by decide +kernel) (pa_cons (pv 0) pa_nil)) pe_int (nomark _)) (pw_and1 (pt_cmpR op_ge (pe_callB call_abs (by rfl) T.n_abs (by decide +kernel) (pa_cons (pe_ix (ix_listK K) (pv 0) pe_int (fun _ _ => rfl)) pa_nil)) (pe_op op_pow pe_int pe_int) (nomark _))))) (pss_one (ps_asg (pe_callB call_abs (by rfl) T.n_abs (by decide +kernel) (pa_cons (pe_ix (ix_listK K) (pv 0) pe_int (fun _ _ => rfl)) pa_nil)) (pg_sub (pv 1) pe_int set_list))) pss_nil)
        (pss_one (ps_ret (pv 1)))))), ?_⟩
    walk_at "gb go"
    rename_i p hp
    refine ⟨⟨_, Same.seq (same_new hp) hS⟩, ?_⟩
    refine for_list (K := K) (a := a) (xs := ns.map V.int) (fun i σ H' => ∃ (x y : Int) (v2 : Option V), σ = [some (.ref a), some (.ref p), v2] ∧ Same H H' ∧ H' p = some (.lst [.int 0, .int x, .int y]) ∧ 0 ≤ x ∧ x ≤ 1100 ∧ 0 ≤ y ∧ y ≤ 1100) ⟨1, 578, _, rfl, same_new hp, upd_same, by decide, by decide, by decide, by decide⟩ (fun i σ H' _ ⟨_, _, _, _, h, _⟩ => Same.seq h hS) ?_ ?_
    · rintro i v σ H' hx ⟨x, y, v2, rfl, s1, ep, x0, x1, y0, y1⟩
      obtain ⟨z, hz, rfl⟩ := getMapG hx
      have hbz := hb z (List.mem_of_getElem? hz)
      have m1 := @modr (x * 620 + z) 1008 (by decide)
      have m2 := @modr (y * 161 + z) 1012 (by decide)
      have m3 : 1 + (x * 620 + z) % 1008 ≤ 1100 := by omega
      have m4 : 1 + (y * 161 + z) % 1012 ≤ 1100 := by omega
      have m5 : 0 ≤ 1 + (x * 620 + z) % 1008 := by omega
      have m6 : 0 ≤ 1 + (y * 161 + z) % 1012 := by omega
      walk_at "gb go"
      exact m4
    · rintro σ H' ⟨x, y, v2, rfl, s1, ep, x0, x1, y0, y1⟩
      have hS2 := Same.seq s1 hS
      have hS3 : SqL K H' a (ns.map V.int) ∨ SqT K H' a (ns.map V.int) := .inl hS2
      walk_at "gb go"
      · exact k p _ (by walk_at "gb same") ⟨⟨_, x, y, upd_same, by split <;> omega, x0, x1, y0, y1⟩⟩ hp
      · exact k p _ s1 ⟨⟨_, x, y, ep, Int.le_refl _, x0, x1, y0, y1⟩⟩ hp
      · exact k p _ s1 ⟨⟨_, x, y, ep, Int.le_refl _, x0, x1, y0, y1⟩⟩ hp
      skip
theorem ok_draw (T : Txt K mg A) : FnOk P w K mg base CX0 1 A.f_draw A.d_draw ["_law_pool", "_law_many"] (spDraw) := by
  refine T.F_draw.ok sc_draw (fun vs H Q E h => ?_) (fun cdv Ar outer s H vs Q E hr h => ?_)
  · obtain ⟨p, m, rfl, _⟩ := h
    rfl
  · obtain ⟨p, m, rfl, hP, hm1, hm2, k⟩ := h
    refine ⟨_, (pss_cons (ps_if (pt_cmpR op_gt (pe_ix (ix_listK K) (pv 0) pe_int (fun _ _ => rfl)) pe_int (nomark _)) (pss_cons (ps_set (i := 2) sc_draw.nd rfl (Or.inl rfl) (pe_op op_mod (pe_callTy call_int1 (by rfl) T.n_int (by decide +kernel) (pa_cons (pe_ix (ix_listK K) (pv 0) pe_int (fun _ _ => rfl)) pa_nil)) (pv 1)))
        (pss_cons (ps_asg (pe_op op_fdiv (pe_ix (ix_listK K) (pv 0) pe_int (fun _ _ => rfl)) (pv 1)) (pg_sub (pv 0) pe_int set_list))
        (pss_one (ps_ret (pv 2))))) pss_nil)
        (pss_cons (ps_asg (pe_op op_mod (pe_callTy call_int1 (by rfl) T.n_int (by decide +kernel) (pa_cons (pe_op op_mulX (pe_ix (ix_listK K) (pv 0) pe_int (fun _ _ => rfl)) pe_int) pa_nil)) pe_int) (pg_sub (pv 0) pe_int set_list))
        (pss_cons (ps_asg (pe_op op_mod (pe_callTy call_int1 (by rfl) T.n_int (by decide +kernel) (pa_cons (pe_op op_mulX (pe_ix (ix_listK K) (pv 0) pe_int (fun _ _ => rfl)) pe_int) pa_nil)) pe_int) (pg_sub (pv 0) pe_int set_list))
        (pss_one (ps_ret (pe_op op_mod (pe_callTy call_int1 (by rfl) T.n_int (by decide +kernel) (pa_cons (pe_op op_add (pe_ix (ix_listK K) (pv 0) pe_int (fun _ _ => rfl)) (pe_ix (ix_listK K) (pv 0) pe_int (fun _ _ => rfl))) pa_nil)) (pv 1))))))), ?_⟩
    obtain ⟨a, b, c, ep, a0, b0, b1, c0, c1⟩ := hP.ex
    have m1 := @modr (b * 620) 1009 (by decide)
    have m2 := @modr (c * 161) 1013 (by decide)
    walk_at "gb go"
    · exact k _ _ (modr (by omega)).1 (modr (by omega)).2 ⟨⟨_, _, _, upd_same, Int.ediv_nonneg a0 (by omega), b0, b1, c0, c1⟩⟩ (by walk_at "gb but")
    · exact k _ _ (modr (by omega)).1 (modr (by omega)).2 ⟨⟨_, _, _, upd_same, a0, m1.1, Int.le_of_lt (Int.lt_of_lt_of_le m1.2 (by decide)), m2.1, Int.le_of_lt (Int.lt_of_lt_of_le m2.2 (by decide))⟩⟩ (by walk_at "gb but")
theorem ok_named (T : Txt K mg A) : FnOk P w K mg base CX0 2 A.f_named A.d_named ["_law_pool"] (spNamed) := by
  refine T.F_named.ok sc_named (fun vs H Q E h => ?_) (fun cdv Ar outer s H vs Q E hr h => ?_)
  · obtain ⟨p, rfl, _⟩ := h
    rfl
  · obtain ⟨p, rfl, hP, k⟩ := h
    refine ⟨_, (pss_cons (ps_set (i := 1) sc_named.nd rfl (Or.inr rfl) pe_str)
        (pss_cons (ps_if (pt_cmpR op_eq (pe_call (ok_draw T) (hr.mono (by decide)) rfl T.g_draw T.F_draw.kp T.b_draw .nil pass0 (pa_cons (pv 0) (pa_cons pe_int pa_nil))) pe_int (nomark _)) (pss_one (ps_ret (pe_lst (pa_cons pe_str (pa_cons pe_str (pa_cons pe_str (pa_cons pe_str (pa_cons pe_str (pa_cons pe_str (pa_cons pe_str (pa_cons pe_str pa_nil))))))))))) pss_nil)
        (pss_cons (ps_set (i := 2) sc_named.nd rfl (Or.inr rfl) (pe_lc (own := [("_law_k", 5)]) (g := gName 5) (tt := tYes) rfl sc_named.nd (pi_range1 rfl T.n_range (pa_cons (pe_call (ok_draw T) (hr.mono (by decide)) rfl T.g_draw T.F_draw.kp T.b_draw .nil pass0 (pa_cons (pv 0) (pa_cons pe_int pa_nil))) pa_nil)) (blkOk_by (N := ["_law_pool", "_law_letters", "_law_stem", "_law_at", "_law_marks", "_law_k", "_law_mark"]) (sc := defScope s_named) (by decide +kernel)) (fun _ _ _ _ _ => (pg_name (i := 5) sc_named.nd rfl (Or.inl rfl))) (fun _ _ _ _ _ => pts_nil) (fun _ _ _ _ _ => (pe_ix ix_str (pv 1) (pe_call (ok_draw T) (hr.mono (by decide)) rfl T.g_draw T.F_draw.kp T.b_draw .nil pass0 (pa_cons (pv 0) (pa_cons pe_int pa_nil))) (fun _ _ => rfl)))))
        (pss_cons (ps_set (i := 3) sc_named.nd rfl (Or.inr rfl) (pe_call (ok_draw T) (hr.mono (by decide)) rfl T.g_draw T.F_draw.kp T.b_draw .nil pass0 (pa_cons (pv 0) (pa_cons pe_int pa_nil))))
        (pss_cons (ps_setLc (i := 4) (own := [("_law_k", 5)]) (g := gName 5) (tt := tYes) rfl sc_named.nd rfl rfl (sw_true rfl rfl rfl (by decide +kernel)) (pi_range1 rfl T.n_range (pa_cons pe_int pa_nil)) (blkOk_by (N := ["_law_pool", "_law_letters", "_law_stem", "_law_at", "_law_marks", "_law_k", "_law_mark"]) (sc := defScope s_named) (by decide +kernel)) (fun _ _ _ _ _ => (pg_name (i := 5) sc_named.nd rfl (Or.inl rfl))) (fun _ _ _ _ _ => pts_nil) (fun _ _ _ _ _ => (pe_ix ix_str (pv 1) (pe_op op_mod (pe_callTy call_int1 (by rfl) T.n_int (by decide +kernel) (pa_cons (pe_op op_add (pe_op op_mulX pe_int (pv 5)) (pv 3)) pa_nil)) pe_int) (fun _ _ => rfl))))
        (pss_cons (ps_if (pt_cmpR op_eq (pe_call (ok_draw T) (hr.mono (by decide)) rfl T.g_draw T.F_draw.kp T.b_draw .nil pass0 (pa_cons (pv 0) (pa_cons pe_int pa_nil))) pe_int (nomark _)) (pss_one (ps_ret (pe_lc (own := [("_law_mark", 6)]) (g := gName 6) (tt := tYes) rfl sc_named.nd (pi_listK K (pv 4)) (blkOk_by (N := ["_law_pool", "_law_letters", "_law_stem", "_law_at", "_law_marks", "_law_k", "_law_mark"]) (sc := defScope s_named) (by decide +kernel)) (fun _ _ _ _ _ => (pg_name (i := 6) sc_named.nd rfl (Or.inl rfl))) (fun _ _ _ _ _ => pts_nil) (fun _ _ _ _ _ => (pe_op op_add_str (pv 6) (pe_joinK K pe_str (pv 2))))))) pss_nil)
        (pss_one (ps_ret (pe_lc (own := [("_law_mark", 6)]) (g := gName 6) (tt := tYes) rfl sc_named.nd (pi_listK K (pv 4)) (blkOk_by (N := ["_law_pool", "_law_letters", "_law_stem", "_law_at", "_law_marks", "_law_k", "_law_mark"]) (sc := defScope s_named) (by decide +kernel)) (fun _ _ _ _ _ => (pg_name (i := 6) sc_named.nd rfl (Or.inl rfl))) (fun _ _ _ _ _ => pts_nil) (fun _ _ _ _ _ => (pe_op op_add_str (pe_op op_add_str pe_str (pe_joinK K pe_str (pv 2))) (pv 6)))))))))))), ?_⟩
    walk_at "gb go"
    · rename_i r H1 r0 r1 P1 s1 hr l hl
      exact k l NAMES8 _ (but_free s1 (P1.nn hl) hl) upd_same rfl names8_nd names8_nm (P1.mono (same_new hl)) (by walk_at "gb but")
    · rename_i r H1 r0 r1 P1 s1 hr r2 H2 r20 r21 P2 s2 D hD
      have nD := P2.nn hD
      have sA : SameBut p H H2 := s1.trans s2
      clear s1 s2 P1
      refine lc_range (lo := 0) (n := r2.toNat) (fun i Hq => P3 Hq p ∧ SameBut p H2 Hq ∧ Chs Hq D i (fun cs => ∀ c ∈ cs, c ∈ lets ∨ c ∈ dgs)) ⟨P2.mono (same_new hD), (same_new hD).but, [], upd_same, rfl, fun c h => by cases h⟩ ?_ ?_
      · rintro i Hq hi ⟨Pq, sb, hC⟩
        obtain ⟨cs, e, hcl, hcs⟩ := hC.ex
        have hsz : (cs.map fun c => V.str (S [c])).length < sizeLine := by rw [List.length_map, sizeLine_eq]; omega
        walk_at "gb go"
        rename_i r3 H3 r30 r31 P4 s4
        refine ⟨cs ++ [ch36 r3], by rw [upd_same, List.map_append]; rfl, by rw [List.length_append, hcl]; rfl, fun c hc => ?_⟩
        rcases List.mem_append.mp hc with m | m
        · exact hcs c m
        · rw [List.mem_singleton.mp m]; exact ch36_ok r30 r31
      · rintro Hq ⟨Pq, sb, hC⟩
        obtain ⟨cs, e, hcl, hcs⟩ := hC.ex
        walk_at "gb go"
        rename_i a9 H3 a0 a1 P4 s3 D2 hD2
        have nD2 := P4.nn hD2
        have e3 := s3 _ _ nD e
        have sB : SameBut p H H3 := sA.trans (sb.trans s3)
        clear s3 sb sA hC
        refine lc_range (lo := 0) (n := (8 : Int).toNat) (fun i H4 => Same H3 H4 ∧ H4 D2 = some (.lst ((marks a9 i).map fun c => V.str (S [c])))) ⟨same_new hD2, upd_same⟩ ?_ ?_
        · rintro i H4 hi ⟨s4, e4⟩
          have hi8 : i < 8 := hi
          have hsz : ((marks a9 i).map fun c => V.str (S [c])).length < sizeLine := by rw [List.length_map, marks_len, sizeLine_eq]; omega
          have hm := @modr (5 * (0 + (i : Int)) + a9) 26 (by decide)
          walk_at "gb go"
          rw [marks_succ, List.map_append]
          exact upd_same
        · rintro H4 ⟨s4, e4⟩
          have e4 : H4 D2 = some (.lst ((marks a9 8).map fun c => V.str (S [c]))) := e4
          have P5 := P4.mono s4
          have e5 := s4 _ _ e3
          have sC : SameBut p H H4 := sB.trans s4.but
          clear e3 sB s4 P4 hD2
          walk_at "gb go"
          · rename_i r5 H5 b0 b1 P6 s6 hr5 D3 hD3
            have e6 := s6 _ _ nD2 e4
            have e7 := s6 _ _ nD e5
            have n3 := P6.nn hD3
            have fD3 : H D3 = none := but_free (sC.trans s6) n3 hD3
            have sD : SameBut p H H5 := sC.trans s6
            clear e5 s6 sC e4
            refine lc_list (K := K) (a := D2) (xs := (marks a9 8).map fun c => V.str (S [c])) (fun i Hq2 => Same H5 Hq2 ∧ Hq2 D3 = some (.lst ((((marks a9 8).map fun c => S (c :: cs)).map V.str).take i))) ⟨same_new hD3, upd_same⟩ (fun i Hq2 _ h => SqL.of (h.1 _ _ e6)) ?_ ?_
            · rintro i x Hq2 hi ⟨s7, e8⟩
              obtain ⟨c, hc, rfl⟩ := get_map hi
              have hsz : ((((marks a9 8).map fun c => S (c :: cs)).map V.str).take i).length < sizeLine := by rw [List.length_take, List.length_map, List.length_map, marks_len, sizeLine_eq]; omega
              have e9 : Hq2 D = some (.lst ((cs.map fun c => S [c]).map V.str)) := by rw [List.map_map]; exact s7 _ _ e7
              have h0 : (Str.ofString "").length = 0 := by decide +kernel
              have hjs : ((cs.map fun c => S [c]).map (·.length)).sum + (cs.map fun c => S [c]).length * (Str.ofString "").length ≤ 16777216 := by rw [sum_ch, h0, Nat.mul_zero]; omega
              have hjl : (Txt.join (Str.ofString "") (cs.map fun c => S [c])).length ≤ 6 := by rw [join_ch, S_len]; omega
              have hc1 : (S [c]).length = 1 := S_len [c]
              have hb1 : (S [c]).length + (Txt.join (Str.ofString "") (cs.map fun c => S [c])).length ≤ sizeLine := by rw [sizeLine_eq]; omega
              walk_at "gb go"
              rw [join_ch, S_cat]
              exact lc_end (by rw [List.getElem?_map, List.getElem?_map, hc]; rfl)
            · rintro Hq2 ⟨s7, e8⟩
              rw [take_all (by simp)] at e8
              walk_at "gb go"
              exact k D3 ((marks a9 8).map fun c => S (c :: cs)) _ fD3 e8 (by rw [List.length_map, marks_len]) (marks_inj (f := fun c => c :: cs) (fun a b z => by injection z) (marks_nd a0 a1)) (fun z hz => by
                obtain ⟨c, hc, rfl⟩ := List.mem_map.mp hz
                exact nm_cons (marks_ok c hc) hcs (by omega)) (P6.mono s7) (by walk_at "gb but")
          · rename_i r5 H5 b0 b1 P6 s6 hr5 D3 hD3
            have e6 := s6 _ _ nD2 e4
            have e7 := s6 _ _ nD e5
            have n3 := P6.nn hD3
            have fD3 : H D3 = none := but_free (sC.trans s6) n3 hD3
            have sD : SameBut p H H5 := sC.trans s6
            clear e5 s6 sC e4
            refine lc_list (K := K) (a := D2) (xs := (marks a9 8).map fun c => V.str (S [c])) (fun i Hq2 => Same H5 Hq2 ∧ Hq2 D3 = some (.lst ((((marks a9 8).map fun c => S (109 :: (cs ++ [c]))).map V.str).take i))) ⟨same_new hD3, upd_same⟩ (fun i Hq2 _ h => SqL.of (h.1 _ _ e6)) ?_ ?_
            · rintro i x Hq2 hi ⟨s7, e8⟩
              obtain ⟨c, hc, rfl⟩ := get_map hi
              have hsz : ((((marks a9 8).map fun c => S (109 :: (cs ++ [c]))).map V.str).take i).length < sizeLine := by rw [List.length_take, List.length_map, List.length_map, marks_len, sizeLine_eq]; omega
              have e9 : Hq2 D = some (.lst ((cs.map fun c => S [c]).map V.str)) := by rw [List.map_map]; exact s7 _ _ e7
              have h0 : (Str.ofString "").length = 0 := by decide +kernel
              have hjs : ((cs.map fun c => S [c]).map (·.length)).sum + (cs.map fun c => S [c]).length * (Str.ofString "").length ≤ 16777216 := by rw [sum_ch, h0, Nat.mul_zero]; omega
              have hjl : (Txt.join (Str.ofString "") (cs.map fun c => S [c])).length ≤ 6 := by rw [join_ch, S_len]; omega
              have hc1 : (S [c]).length = 1 := S_len [c]
              have hm1 : (Str.ofString "m").length = 1 := by decide +kernel
              have hb1 : (Str.ofString "m").length + (Txt.join (Str.ofString "") (cs.map fun c => S [c])).length ≤ sizeLine := by rw [sizeLine_eq]; omega
              have hb2 : (Str.ofString "m" ++ Txt.join (Str.ofString "") (cs.map fun c => S [c])).length + (S [c]).length ≤ sizeLine := by rw [sizeLine_eq, Str.length_append]; omega
              walk_at "gb go"
              rw [join_ch, cat_m]
              exact lc_end (by rw [List.getElem?_map, List.getElem?_map, hc]; rfl)
            · rintro Hq2 ⟨s7, e8⟩
              rw [take_all (by simp)] at e8
              walk_at "gb go"
              exact k D3 ((marks a9 8).map fun c => S (109 :: (cs ++ [c]))) _ fD3 e8 (by rw [List.length_map, marks_len]) (marks_inj (f := fun c => 109 :: (cs ++ [c])) (fun a b z => by simpa using z) (marks_nd a0 a1)) (fun z hz => by
                obtain ⟨c, hc, rfl⟩ := List.mem_map.mp hz
                refine nm_cons (by decide +kernel) (fun d hd => ?_) (by rw [List.length_append]; simp; omega)
                rcases List.mem_append.mp hd with m | m
                · exact hcs d m
                · rw [List.mem_singleton.mp m]; exact .inl (marks_ok c hc)) (P6.mono s7) (by walk_at "gb but")
theorem ok_few (T : Txt K mg A) : FnOk P w K mg base CX0 2 A.f_few A.d_few ["_law_pool", "_law_kinds", "_law_top", "_law_scale"] (spFew) := by
  refine T.F_few.ok sc_few (fun vs H Q E h => ?_) (fun cdv Ar outer s H vs Q E hr h => ?_)
  · obtain ⟨p, n, top, sc, rfl, _⟩ := h
    rfl
  · obtain ⟨p, n, top, sc, rfl, hP, hn1, hn3, ht1, ht2, hs1, hs2, k⟩ := h
    refine ⟨_, (pss_cons (ps_setLc (i := 4) (own := [("_law_k", 5)]) (g := gName 5) (tt := tYes) rfl sc_few.nd rfl rfl (sw_true rfl rfl rfl (by decide +kernel)) (pi_range1 rfl T.n_range (pa_cons (pv 1) pa_nil)) (blkOk_by (N := ["_law_pool", "_law_kinds", "_law_top", "_law_scale", "_law_numbers", "_law_k", "_law_one"]) (sc := defScope s_few) (by decide +kernel)) (fun _ _ _ _ _ => (pg_name (i := 5) sc_few.nd rfl (Or.inl rfl))) (fun _ _ _ _ _ => pts_nil) (fun _ _ _ _ _ => (pe_op op_mulX (pe_call (ok_draw T) (hr.mono (by decide)) rfl T.g_draw T.F_draw.kp T.b_draw .nil pass0 (pa_cons (pv 0) (pa_cons (pv 2) pa_nil))) (pv 3))))
        (pss_cons (ps_if (pt_cmpR op_gt (pv 3) pe_int (nomark _)) (pss_one (ps_setLc (i := 4) (own := [("_law_one", 6)]) (g := gName 6) (tt := tYes) rfl sc_few.nd rfl rfl (sw_true rfl rfl rfl (by decide +kernel)) (pi_listK K (pv 4)) (blkOk_by (N := ["_law_pool", "_law_kinds", "_law_top", "_law_scale", "_law_numbers", "_law_k", "_law_one"]) (sc := defScope s_few) (by decide +kernel)) (fun _ _ _ _ _ => (pg_name (i := 6) sc_few.nd rfl (Or.inl rfl))) (fun _ _ _ _ _ => pts_nil) (fun _ _ _ _ _ => (pe_op op_add (pv 6) (pe_call (ok_draw T) (hr.mono (by decide)) rfl T.g_draw T.F_draw.kp T.b_draw .nil pass0 (pa_cons (pv 0) (pa_cons (pv 3) pa_nil))))))) pss_nil)
        (pss_cons (ps_if (pt_cmpR op_eq (pe_callB (cr_max rfl) (by rfl) T.n_max (by decide +kernel) (pa_cons (pv 4) pa_nil)) pe_int (nomark _)) (pss_one (ps_asg (pv 3) (pg_sub (pv 4) (pe_call (ok_draw T) (hr.mono (by decide)) rfl T.g_draw T.F_draw.kp T.b_draw .nil pass0 (pa_cons (pv 0) (pa_cons (pv 1) pa_nil))) set_list))) pss_nil)
        (pss_one (ps_ret (pe_callTy call_tuple_of (by rfl) T.n_tuple (by decide +kernel) (pa_cons (pv 4) pa_nil))))))), ?_⟩
    walk_at "gb go"
    rename_i D hD
    have nD := hP.nn hD
    refine lc_range (lo := 0) (n := n.toNat) (fun i Hq => P3 Hq p ∧ SameBut p H Hq ∧ Nums Hq D i (fun z => 0 ≤ z ∧ z + sc ≤ 10000)) ⟨hP.mono (same_new hD), (same_new hD).but, [], upd_same, rfl, fun z h => by cases h⟩ ?_ ?_
    · rintro i Hq hi ⟨Pq, sb, hN⟩
      obtain ⟨zs, e, hl, hz⟩ := hN.ex
      have hsl : (zs.map V.int).length < sizeLine := by rw [List.length_map, sizeLine_eq]; omega
      walk_at "gb go"
      rename_i r H2 r0 r1 P2 s2
      exact Nums.snoc hl hz (few_rng r0 r1 ht2 hs1 hs2) upd_same
    · rintro Hq ⟨Pq, sb, hN⟩
      obtain ⟨zs, e, hl, hz⟩ := hN.ex
      walk_at "gb go"
      · rename_i hsc D2 hD2
        have nD2 := Pq.nn hD2
        have n2 : D ≠ D2 := none_ne hD2 e
        refine lc_list (K := K) (a := D) (xs := zs.map V.int) (fun i Hr => P3 Hr p ∧ SameBut p Hq Hr ∧ Nums Hr D2 i (fun z => 0 ≤ z ∧ z ≤ 9999)) ⟨Pq.mono (same_new hD2), (same_new hD2).but, [], upd_same, rfl, fun z h => by cases h⟩ (fun i Hr _ h => SqL.of (h.2.1 _ _ nD e)) ?_ ?_
        · rintro i x Hr hi ⟨Pr, sb2, hN2⟩
          obtain ⟨z, hzi, rfl⟩ := get_map hi
          have hz1 := hz z (List.mem_of_getElem? hzi)
          have hi2 : i < zs.length := (List.getElem?_eq_some_iff.mp hzi).1
          obtain ⟨ys, e2, hl2, hy⟩ := hN2.ex
          have hsl : (ys.map V.int).length < sizeLine := by rw [List.length_map, sizeLine_eq]; omega
          walk_at "gb go"
          rename_i r H3 r0 r1 P3' s3
          exact Nums.snoc hl2 hy (show 0 ≤ z + r ∧ z + r ≤ 9999 by omega) upd_same
        · rintro Hr ⟨Pr, sb2, hN2⟩
          obtain ⟨ys, e2, hl2, hy⟩ := hN2.ex
          rw [List.length_map, hl] at hl2
          have fD2 := but_free sb nD2 hD2
          clear hN hN2 e
          walk_at "gb go"
          · rename_i m hm1 hm2 hm0 r H9 r0 r1 P9 s9 t ht
            have hr9 : r.toNat < ys.length := by omega
            rw [set_ints] at ht ⊢
            exact k t _ _ upd_same (numok_set hl2 hy (by omega) (by omega)) ⟨sc, List.mem_set hr9 _, by omega⟩ ((P9.put nD2).mono (same_new ht)) (by walk_at "gb but")
          · rename_i m hm1 hm2 hm0 t ht
            have := hy m hm1
            exact k t _ _ upd_same ⟨hl2, hy⟩ ⟨m, hm1, by omega⟩ (by walk_at "gb pool") (by walk_at "gb but")
      · rename_i hsc m hm1 hm2 hm0 r H9 r0 r1 P9 s9 t ht
        have hl2 := hl
        have hy : ∀ z ∈ zs, 0 ≤ z ∧ z ≤ 9999 := fun z hz' => by have := hz z hz'; omega
        have hr9 : r.toNat < zs.length := by omega
        rw [set_ints] at ht ⊢
        exact k t _ _ upd_same (numok_set hl2 hy (by omega) (by omega)) ⟨sc, List.mem_set hr9 _, by omega⟩ ((P9.put nD).mono (same_new ht)) (by walk_at "gb but")
      · rename_i hsc m hm1 hm2 hm0 t ht
        have hl2 := hl
        have hy : ∀ z ∈ zs, 0 ≤ z ∧ z ≤ 9999 := fun z hz' => by have := hz z hz'; omega
        have := hy m hm1
        exact k t _ _ upd_same ⟨hl2, hy⟩ ⟨m, hm1, by omega⟩ (by walk_at "gb pool") (by walk_at "gb but")
theorem ok_asks (T : Txt K mg A) : FnOk P w K mg base CX0 2 A.f_asks A.d_asks ["_law_pool", "_law_names", "_law_count", "_law_most"] (spAsks) := by
  refine T.F_asks.ok sc_asks (fun vs H Q E h => ?_) (fun cdv Ar outer s H vs Q E hr h => ?_)
  · obtain ⟨p, l, ns, c, m, rfl, _⟩ := h
    rfl
  · obtain ⟨p, l, ns, c, m, rfl, hP, nl, hl, h8, hN, hc1, hc2, hm1, hm6, k⟩ := h
    refine ⟨_, (pss_cons (ps_set (i := 4) sc_asks.nd rfl (Or.inl rfl) (pe_lst (pa_cons pe_str (pa_cons pe_str (pa_cons pe_str (pa_cons pe_str (pa_cons pe_str (pa_cons pe_str (pa_cons pe_str (pa_cons pe_str pa_nil))))))))))
        (pss_cons (ps_set (i := 5) sc_asks.nd rfl (Or.inl rfl) (pe_lst pa_nil))
        (pss_cons (ps_for PassesOwn.never rfl (pi_range1 rfl T.n_range (pa_cons (pe_call (ok_draw T) (hr.mono (by decide)) rfl T.g_draw T.F_draw.kp T.b_draw .nil pass0 (pa_cons (pv 0) (pa_cons (pe_op op_add (pv 3) pe_int) pa_nil))) pa_nil)) (pg_name (i := 6) sc_asks.nd rfl (Or.inl rfl))
        (pss_cons (ps_set (i := 7) sc_asks.nd rfl (Or.inl rfl) (pe_ix (ix_listK K) (pv 4) (pe_call (ok_draw T) (hr.mono (by decide)) rfl T.g_draw T.F_draw.kp T.b_draw .nil pass0 (pa_cons (pv 0) (pa_cons pe_int pa_nil))) (fun _ _ => rfl)))
        (pss_cons (ps_if (pt_cmpR op_eq (pv 7) pe_str (nomark _)) (pss_one (ps_set (i := 7) sc_asks.nd rfl (Or.inl rfl) (pe_op op_add_str (pv 7) (pe_ix (ix_listK K) (pv 1) (pe_call (ok_draw T) (hr.mono (by decide)) rfl T.g_draw T.F_draw.kp T.b_draw .nil pass0 (pa_cons (pv 0) (pa_cons (pv 2) pa_nil))) (fun _ _ => rfl))))) (pss_one (ps_if (pt_cmpR op_eq (pe_ix ix_str (pv 7) (pe_un un_neg pe_int) (fun _ _ => rfl)) pe_str (nomark _)) (pss_one (ps_set (i := 7) sc_asks.nd rfl (Or.inl rfl) (pe_op op_add_str (pv 7) (pe_ix (ix_listK K) (pv 1) (pe_call (ok_draw T) (hr.mono (by decide)) rfl T.g_draw T.F_draw.kp T.b_draw .nil pass0 (pa_cons (pv 0) (pa_cons (pv 3) pa_nil))) (fun _ _ => rfl))))) pss_nil)))
        (pss_one (ps_if (pt_cmpR (op_notIn_seqK K) (pv 7) (pv 5) rfl) (pss_one (ps_expr (pe_bm PySem.F.plainAttrs_list PySem.F.slot_list_append PySem.F.type_list_append mt_append (pv 5) (pa_cons (pv 7) pa_nil)))) pss_nil)))))
        (pss_one (ps_ret (pe_callTy call_tuple_of (by rfl) T.n_tuple (by decide +kernel) (pa_cons (pv 5) pa_nil))))))), ?_⟩
    have q1 : atI (Str.ofString "near").cps.toList (-1) = some 114 := by decide +kernel
    have q2 : atI (Str.ofString "apart").cps.toList (-1) = some 116 := by decide +kernel
    have q3 : atI (Str.ofString "needs:").cps.toList (-1) = some 58 := by decide +kernel
    have q4 : atI (Str.ofString "bars:").cps.toList (-1) = some 58 := by decide +kernel
    have q5 : atI (Str.ofString "likes:").cps.toList (-1) = some 58 := by decide +kernel
    have q6 : atI (Str.ofString "never:").cps.toList (-1) = some 58 := by decide +kernel
    walk_at "gb go"
    rename_i A1 hA1 A2 hA2 r H1 r0 r1 P1 s1
    have n2 := (hP.mono (same_new hA1)).nn hA2
    have n1 := hP.nn hA1
    have n12 : A1 ≠ A2 := fun z => by rw [z] at hA1; rw [z, upd_same] at hA2; cases hA2
    have f2 : H A2 = none := by rw [upd_ne n12.symm] at hA2; exact hA2
    have e1 : H1 A1 = some (.lst (WORDS.map V.str)) := s1 _ _ n1 (by rw [upd_ne n12]; exact upd_same)
    have e2 : H1 A2 = some (.lst []) := s1 _ _ n2 upd_same
    have hl1 : H1 l = some (.lst (ns.map V.str)) := s1 _ _ nl (by walk_at "gb hp")
    have sb1 : SameBut p H H1 := ((same_new hA1).trans (same_new hA2)).but.trans s1
    have nlA : l ≠ A2 := fun z => by rw [z, f2] at hl; cases hl
    clear hA2 s1 hl
    refine for_range (lo := 0) (n := r.toNat) (fun i σ Hq => ∃ v6 v7 : Option V, σ = [some (.ref p), some (.ref l), some (.int c), some (.int m), some (.ref A1), some (.ref A2), v6, v7] ∧ P3 Hq p ∧ SameBut p H Hq ∧ Hq A1 = some (.lst (WORDS.map V.str)) ∧ Hq l = some (.lst (ns.map V.str)) ∧ Wishes Hq A2 ns c.toNat i) ⟨_, _, rfl, P1, sb1, e1, hl1, [], e2, Nat.le_refl _, List.nodup_nil, fun z h => by cases h⟩ ?_ ?_
    · clear e1 e2 hl1 sb1 P1
      rintro i σ Hq hi ⟨v6, v7, rfl, Pq, sb, e1, hl1, hW⟩
      obtain ⟨ws, e2, hwl, hwd, hwz⟩ := hW.ex
      have hsl : (ws.map V.str).length < sizeLine := by rw [List.length_map, sizeLine_eq]; omega
      have hW8 : WORDS.length = 8 := rfl
      clear hW
      have hNL := nm_len8 hN
      repeat' ((fail_if_success (show ite _ _ _)); walk_at "gb step")
      rename_i rr H2 w0 w1 P2 s2
      have hw : WORDS.getD rr.toNat ⟨#[]⟩ ∈ WORDS := getD_memS (by omega)
      generalize WORDS.getD rr.toNat ⟨#[]⟩ = w at hw ⊢
      rcases word_cases hw with rfl | rfl | rfl | rfl | rfl | rfl
      · walk_at "gb go"
        · rename_i hx
          exact ⟨ws, by walk_at "gb hp", by omega, hwd, hwz⟩
        · rename_i hx
          exact Wishes.snoc hwl hwd hwz hx lw_near upd_same
      · walk_at "gb go"
        · rename_i hx
          exact ⟨ws, by walk_at "gb hp", by omega, hwd, hwz⟩
        · rename_i hx
          exact Wishes.snoc hwl hwd hwz hx lw_apart upd_same
      · walk_at "gb go"
        · rename_i r3 H3 c0 c1 P4 s3 hx
          exact ⟨ws, by walk_at "gb hp", by omega, hwd, hwz⟩
        · rename_i r3 H3 c0 c1 P4 s3 hx
          exact Wishes.snoc hwl hwd hwz hx (lw_needs (getD_memS (by omega))) upd_same
      · walk_at "gb go"
        · rename_i r3 H3 c0 c1 P4 s3 hx
          exact ⟨ws, by walk_at "gb hp", by omega, hwd, hwz⟩
        · rename_i r3 H3 c0 c1 P4 s3 hx
          exact Wishes.snoc hwl hwd hwz hx (lw_bars (getD_memS (by omega))) upd_same
      · walk_at "gb go"
        · rename_i r3 H3 c0 c1 P4 s3 hx
          exact ⟨ws, by walk_at "gb hp", by omega, hwd, hwz⟩
        · rename_i r3 H3 c0 c1 P4 s3 hx
          exact Wishes.snoc hwl hwd hwz hx (lw_likes (getD_memS (by omega))) upd_same
      · walk_at "gb go"
        · rename_i r3 H3 c0 c1 P4 s3 hx
          exact ⟨ws, by walk_at "gb hp", by omega, hwd, hwz⟩
        · rename_i r3 H3 c0 c1 P4 s3 hx
          exact Wishes.snoc hwl hwd hwz hx (lw_never (getD_take (by omega) (by omega))) upd_same
    · rintro σ Hq ⟨v6, v7, rfl, Pq, sb, e1, hl1, hW⟩
      obtain ⟨ws, e2, hwl, hwd, hwz⟩ := hW.ex
      walk_at "gb go"
      rename_i t ht
      exact k t ws _ upd_same (by omega) hwd hwz (Pq.mono (same_new ht)) (by walk_at "gb but")
theorem ok_phase (T : Txt K mg A) : FnOk P w K mg base CX0 3 A.f_phase A.d_phase ["_law_pool", "_law_kinds", "_law_scale", "_law_most"] (spPhase) := by
  refine T.F_phase.ok sc_phase (fun vs H Q E h => ?_) (fun cdv Ar outer s H vs Q E hr h => ?_)
  · obtain ⟨p, n, sc, m, rfl, _⟩ := h
    rfl
  · obtain ⟨p, n, sc, m, rfl, hP, hn1, hn3, hs1, hs2, hm1, hm6, k⟩ := h
    refine ⟨_, (pss_cons (ps_set (i := 4) sc_phase.nd rfl (Or.inl rfl) (pe_op op_add pe_int (pe_call (ok_draw T) (hr.mono (by decide)) rfl T.g_draw T.F_draw.kp T.b_draw .nil pass0 (pa_cons (pv 0) (pa_cons (pv 3) pa_nil)))))
        (pss_one (ps_ret (pe_tup (pa_cons (pv 4) (pa_cons (pe_call (ok_few T) (hr.mono (by decide)) rfl T.g_few T.F_few.kp T.b_few .nil pass0 (pa_cons (pv 0) (pa_cons (pv 1) (pa_cons pe_int (pa_cons (pv 2) pa_nil))))) (pa_cons (pe_op op_add pe_int (pe_call (ok_draw T) (hr.mono (by decide)) rfl T.g_draw T.F_draw.kp T.b_draw .nil pass0 (pa_cons (pv 0) (pa_cons pe_int pa_nil)))) pa_nil))))))), ?_⟩
    walk_at "gb go"
    rename_i r1 H1 a1 a2 P1 s1 t xs H2 et hn hp P2 s2 r2 H3 b1 b2 P4 s3 p5 hp5
    have et3 := p3_tup s3 P2 et
    exact k ⟨p5, t, 1 + r1, xs, 1 + r2⟩ _ ⟨upd_same, (same_new hp5) _ _ et3⟩ ⟨(show 1 ≤ 1 + r1 ∧ 1 + r1 ≤ 6 by omega), hn, hp, (show 1 ≤ 1 + r2 ∧ 1 + r2 ≤ 24 by omega)⟩ (P4.mono (same_new hp5)) (by walk_at "gb but")
theorem ok_machine (T : Txt K mg A) : FnOk P w K mg base CX0 3 A.f_machine A.d_machine ["_law_pool", "_law_names", "_law_kinds", "_law_scale", "_law_most"] (spMach) := by
  refine T.F_machine.ok sc_machine (fun vs H Q E h => ?_) (fun cdv Ar outer s H vs Q E hr h => ?_)
  · obtain ⟨p, l, ns, n, sc, m, rfl, _⟩ := h
    rfl
  · obtain ⟨p, l, ns, n, sc, m, rfl, hP, nl, hl, h8, hd, hN, hn1, hn3, hs1, hs2, hm1, hm6, k⟩ := h
    refine ⟨_, (pss_cons (ps_set (i := 5) sc_machine.nd rfl (Or.inl rfl) (pe_ix (ix_listK K) (pv 1) (pe_call (ok_draw T) (hr.mono (by decide)) rfl T.g_draw T.F_draw.kp T.b_draw .nil pass0 (pa_cons (pv 0) (pa_cons pe_int pa_nil))) (fun _ _ => rfl)))
        (pss_cons (ps_setLc (i := 6) (own := [("_law_name", 7)]) (g := gName 7) rfl sc_machine.nd rfl rfl (sw_true rfl rfl rfl (by decide +kernel)) (pi_listK K (pe_slice sl_list (pv 1) po_none (po_some (pv 4)))) (blkOk_by (N := ["_law_pool", "_law_names", "_law_kinds", "_law_scale", "_law_most", "_law_zone", "_law_labels", "_law_name"]) (sc := defScope s_machine) (by decide +kernel)) (fun _ _ _ _ _ => (pg_name (i := 7) sc_machine.nd rfl (Or.inl rfl))) (fun _ _ _ _ _ => pts_one (by exact (pt_cmpR op_eq (pe_call (ok_draw T) (hr.mono (by decide)) rfl T.g_draw T.F_draw.kp T.b_draw .nil pass0 (pa_cons (pv 0) (pa_cons pe_int pa_nil))) pe_int (nomark _)))) (fun _ _ _ _ _ => (pv 7)))
        (pss_one (ps_ret (pe_tup (pa_cons (pv 5) (pa_cons (pe_callTy call_tuple_of (by rfl) T.n_tuple (by decide +kernel) (pa_cons (pv 6) pa_nil)) (pa_cons (pe_call (ok_few T) (hr.mono (by decide)) rfl T.g_few T.F_few.kp T.b_few .nil pass0 (pa_cons (pv 0) (pa_cons (pv 2) (pa_cons pe_int (pa_cons (pv 3) pa_nil))))) pa_nil)))))))), ?_⟩
    have e0 : cutV (ns.map V.str) none (some m) = (ns.take m.toNat).map V.str := by
      obtain ⟨j, rfl⟩ : ∃ j : Nat, m = (j : Int) := ⟨m.toNat, by omega⟩
      rw [Int.toNat_natCast]
      exact cut_lo ns j
    walk_at "gb go"
    rename_i r1 H1 r10 r11 P1 s1 a5 ha5 D hD
    rw [e0] at hD ⊢
    have sN : Same H1 (upd H1 a5 (.lst ((ns.take m.toNat).map V.str))) := same_new ha5
    have e5 : (upd H1 a5 (.lst ((ns.take m.toNat).map V.str))) a5 = some (.lst ((ns.take m.toNat).map V.str)) := upd_same
    have n5 := P1.nn ha5
    generalize upd H1 a5 (.lst ((ns.take m.toNat).map V.str)) = H2 at hD sN e5 ⊢
    have P2 := P1.mono sN
    have nD := P2.nn hD
    have s2 : SameBut p H H2 := s1.trans sN.but
    clear sN ha5 s1 hl nl P1
    refine lc_list (K := K) (a := a5) (xs := (ns.take m.toNat).map V.str) (fun i Hq => P3 Hq p ∧ SameBut p H2 Hq ∧ SubL Hq D ((ns.take m.toNat).take i)) ⟨P2.mono (same_new hD), (same_new hD).but, [], upd_same, List.nil_sublist _⟩ (fun i Hq _ h => SqL.of (h.2.1 _ _ n5 e5)) ?_ ?_
    · rintro i x Hq hi ⟨Pq, sb, hN2⟩
      obtain ⟨z, hz, rfl⟩ := get_map hi
      obtain ⟨lb, eb, hs⟩ := hN2.ex
      have hi2 : i < (ns.take m.toNat).length := (List.getElem?_eq_some_iff.mp hz).1
      rw [List.length_take] at hi2
      have hll := hs.length_le
      rw [List.length_take, List.length_take] at hll
      have hsl : (lb.map V.str).length < sizeLine := by rw [List.length_map, sizeLine_eq]; omega
      walk_at "gb go"
      · exact SubL.yes hs hz upd_same
      · exact SubL.no hs (by walk_at "gb hp")
    · rintro Hq ⟨Pq, sb, hN2⟩
      rw [List.length_map, List.take_length] at hN2
      obtain ⟨lb, eb, hs⟩ := hN2.ex
      have hll := hs.length_le
      rw [List.length_take] at hll
      walk_at "gb go"
      rename_i l9 hl9 t xs H9 et hn hp P9 s9 p9 hp9
      have el9 := p3_tup s9 (Pq.mono (same_new hl9)) upd_same
      have hsub := hs.trans (List.take_sublist _ _)
      exact k p9 ⟨p9, l9, t, ⟨#[]⟩, ns.getD r1.toNat ⟨#[]⟩, lb, xs⟩ _ upd_same ((same_new hp9) _ _ el9) ((same_new hp9) _ _ et) (hN _ (getD_memS (by omega))) (show lb.length ≤ 6 by omega) (hsub.nodup hd) (fun z hz => hN z (hsub.subset hz)) hn hp (P9.mono (same_new hp9)) (by walk_at "gb but")
theorem ok_form (T : Txt K mg A) : FnOk P w K mg base CX0 4 A.f_form A.d_form ["_law_pool", "_law_names", "_law_count", "_law_kinds", "_law_scale", "_law_most"] (spForm) := by
  refine T.F_form.ok sc_form (fun vs H Q E h => ?_) (fun cdv Ar outer s H vs Q E hr h => ?_)
  · obtain ⟨p, l, ns, c, n, sc, m, rfl, _⟩ := h
    rfl
  · obtain ⟨p, l, ns, c, n, sc, m, rfl, hP, nl, hl, h8, hN, hc1, hc2, hn1, hn3, hs1, hs2, hm1, hm6, k⟩ := h
    refine ⟨_, (pss_cons (ps_set (i := 6) sc_form.nd rfl (Or.inl rfl) (pe_call (ok_asks T) (hr.mono (by decide)) rfl T.g_asks T.F_asks.kp T.b_asks .nil pass0 (pa_cons (pv 0) (pa_cons (pv 1) (pa_cons (pv 2) (pa_cons (pv 5) pa_nil))))))
        (pss_cons (ps_set (i := 7) sc_form.nd rfl (Or.inl rfl) (pe_op op_add pe_int (pe_call (ok_draw T) (hr.mono (by decide)) rfl T.g_draw T.F_draw.kp T.b_draw .nil pass0 (pa_cons (pv 0) (pa_cons (pe_op op_fdiv (pe_op op_add (pv 5) pe_int) pe_int) pa_nil)))))
        (pss_cons (ps_setLc (i := 8) (own := [("_law_k", 10)]) (g := gName 10) (tt := tYes) rfl sc_form.nd rfl rfl (sw_true rfl rfl rfl (by decide +kernel)) (pi_range1 rfl T.n_range (pa_cons (pv 7) pa_nil)) (blkOk_by (N := ["_law_pool", "_law_names", "_law_count", "_law_kinds", "_law_scale", "_law_most", "_law_wishes", "_law_many", "_law_stages", "_law_rank", "_law_k"]) (sc := defScope s_form) (by decide +kernel)) (fun _ _ _ _ _ => (pg_name (i := 10) sc_form.nd rfl (Or.inl rfl))) (fun _ _ _ _ _ => pts_nil) (fun _ _ _ _ _ => (pe_call (ok_phase T) (hr.mono (by decide)) rfl T.g_phase T.F_phase.kp T.b_phase .nil pass0 (pa_cons (pv 0) (pa_cons (pv 3) (pa_cons (pv 4) (pa_cons (pv 5) pa_nil)))))))
        (pss_cons (ps_set (i := 9) sc_form.nd rfl (Or.inl rfl) (pe_call (ok_draw T) (hr.mono (by decide)) rfl T.g_draw T.F_draw.kp T.b_draw .nil pass0 (pa_cons (pv 0) (pa_cons pe_int pa_nil))))
        (pss_one (ps_ret (pe_tup (pa_cons (pe_ix (ix_listK K) (pv 1) pe_int (fun _ _ => rfl)) (pa_cons (pv 9) (pa_cons (pe_call (ok_draw T) (hr.mono (by decide)) rfl T.g_draw T.F_draw.kp T.b_draw .nil pass0 (pa_cons (pv 0) (pa_cons pe_int pa_nil))) (pa_cons (pe_callTy call_tuple_of (by rfl) T.n_tuple (by decide +kernel) (pa_cons (pv 8) pa_nil)) (pa_cons (pv 6) pa_nil)))))))))))), ?_⟩
    walk_at "gb go"
    rename_i t ws H1 et hw6 hwd hwz P1 s1 r H2 r0 r1 P2 s2 D hD
    have et2 := p3_tup s2 P1 et
    have hl2 : H2 l = some (.lst (ns.map V.str)) := s2 _ _ nl (s1 _ _ nl hl)
    have nD := P2.nn hD
    have h12 : SameBut p H H2 := s1.trans s2
    have fD : H D = none := but_free h12 nD hD
    clear s1 s2 hl et P1
    refine lc_range (lo := 0) (n := (1 + r).toNat) (fun i Hq => P3 Hq p ∧ SameBut p H2 Hq ∧ Stgs Hq D n.toNat i) ⟨P2.mono (same_new hD), (same_new hD).but, [], upd_same, rfl, (fun q h => by cases h), fun q h => by cases h⟩ ?_ ?_
    · rintro i Hq hi ⟨Pq, sb, hS⟩
      obtain ⟨st, e, hsl, hsa, hso⟩ := hS.ex
      have hsz : (st.map fun q => V.ref q.a).length < sizeLine := by rw [List.length_map, sizeLine_eq]; omega
      walk_at "gb go"
      rename_i q H3 q1 q2 P4 s4
      exact Stgs.snoc hsl hsa hso (p3_tups s4 Pq) (s4 _ _ nD e) q1 q2
    · rintro Hq ⟨Pq, sb, hS⟩
      obtain ⟨st, e, hsl, hsa, hso⟩ := hS.ex
      have et3 := p3_tup sb P2 et2
      have hl3 := sb _ _ nl hl2
      walk_at "gb go"
      rename_i rk H5 k0 k1 P5 s5 ev H6 v0 v1 P6 s6 l9 hl9 p9 hp9
      have et6 := p3_tup s6 P5 (p3_tup s5 Pq et3)
      have t56 : Tups Hq H6 := (p3_tups s5 Pq).trans (p3_tups s6 P5)
      have sN : Same H6 (upd (upd H6 l9 (.tup (st.map fun q => V.ref q.a))) p9 (.tup [.str (ns.getD 0 ⟨#[]⟩), .int rk, .int ev, .ref l9, .ref t])) := (same_new hl9).trans (same_new hp9)
      exact k p9 ⟨p9, l9, t, ⟨#[]⟩, ns.getD 0 ⟨#[]⟩, rk, ev, st, ws⟩ _ upd_same ((same_new hp9) _ _ upd_same) (fun q hq => (hsa q hq).mono (t56.trans (Same.tups sN))) (sN _ _ et6) (by rw [List.getD_eq_getElem?_getD, List.getElem?_eq_getElem (by omega)]; rfl)
        k0 (show rk ≤ 99 by omega) v0 (show ev ≤ 24 by omega) (show 1 ≤ st.length by omega) (show st.length ≤ 3 by omega) hso hw6 hwd hwz (P6.mono sN) (by walk_at "gb but")
theorem ok_made (T : Txt K mg A) : FnOk P w K mg base CX0 5 A.f_made A.d_made ["_law_pool", "_law_most"] (spMade) := by
  refine T.F_made.ok sc_made (fun vs H Q E h => ?_) (fun cdv Ar outer s H vs Q E hr h => ?_)
  · obtain ⟨p, m, rfl, _⟩ := h
    rfl
  · obtain ⟨p, m, rfl, hP, hm1, hm6, k⟩ := h
    refine ⟨_, (pss_cons (ps_set (i := 2) sc_made.nd rfl (Or.inl rfl) (pe_call (ok_named T) (hr.mono (by decide)) rfl T.g_named T.F_named.kp T.b_named .nil pass0 (pa_cons (pv 0) pa_nil)))
        (pss_cons (ps_set (i := 3) sc_made.nd rfl (Or.inl rfl) (pe_ix (ix_listK K) (pe_lst (pa_cons pe_int (pa_cons pe_int (pa_cons pe_int (pa_cons pe_int (pa_cons pe_int (pa_cons pe_int (pa_cons pe_int (pa_cons pe_int pa_nil))))))))) (pe_call (ok_draw T) (hr.mono (by decide)) rfl T.g_draw T.F_draw.kp T.b_draw .nil pass0 (pa_cons (pv 0) (pa_cons pe_int pa_nil))) (fun _ _ => rfl)))
        (pss_cons (ps_set (i := 4) sc_made.nd rfl (Or.inl rfl) (pe_op op_add pe_int (pe_call (ok_draw T) (hr.mono (by decide)) rfl T.g_draw T.F_draw.kp T.b_draw .nil pass0 (pa_cons (pv 0) (pa_cons pe_int pa_nil)))))
        (pss_cons (ps_set (i := 5) sc_made.nd rfl (Or.inl rfl) (pe_lst pa_nil))
        (pss_cons (ps_for PassesOwn.never rfl (pi_range1 rfl T.n_range (pa_cons (pe_op op_add pe_int (pe_call (ok_draw T) (hr.mono (by decide)) rfl T.g_draw T.F_draw.kp T.b_draw .nil pass0 (pa_cons (pv 0) (pa_cons (pv 1) pa_nil)))) pa_nil)) (pg_name (i := 6) sc_made.nd rfl (Or.inl rfl))
        (pss_cons (ps_set (i := 10) sc_made.nd rfl (Or.inl rfl) (pe_call (ok_machine T) (hr.mono (by decide)) rfl T.g_machine T.F_machine.kp T.b_machine .nil pass0 (pa_cons (pv 0) (pa_cons (pv 2) (pa_cons (pv 4) (pa_cons (pv 3) (pa_cons (pv 1) pa_nil)))))))
        (pss_one (ps_expr (pe_bm PySem.F.plainAttrs_list PySem.F.slot_list_append PySem.F.type_list_append mt_append (pv 5) (pa_cons (pe_op op_catE (pe_tup (pa_cons (pe_ix (ix_listK K) (pv 2) (pv 6) (fun _ _ => rfl)) pa_nil)) (pv 10)) pa_nil))))))
        (pss_cons (ps_set (i := 7) sc_made.nd rfl (Or.inl rfl) (pe_lst pa_nil))
        (pss_cons (ps_set (i := 8) sc_made.nd rfl (Or.inl rfl) (pe_op op_add pe_int (pe_call (ok_draw T) (hr.mono (by decide)) rfl T.g_draw T.F_draw.kp T.b_draw .nil pass0 (pa_cons (pv 0) (pa_cons (pv 1) pa_nil)))))
        (pss_cons (ps_for PassesOwn.never rfl (pi_range1 rfl T.n_range (pa_cons (pv 8) pa_nil)) (pg_name (i := 6) sc_made.nd rfl (Or.inl rfl))
        (pss_cons (ps_set (i := 10) sc_made.nd rfl (Or.inl rfl) (pe_call (ok_form T) (hr.mono (by decide)) rfl T.g_form T.F_form.kp T.b_form .nil pass0 (pa_cons (pv 0) (pa_cons (pv 2) (pa_cons (pv 8) (pa_cons (pv 4) (pa_cons (pv 3) (pa_cons (pv 1) pa_nil))))))))
        (pss_one (ps_expr (pe_bm PySem.F.plainAttrs_list PySem.F.slot_list_append PySem.F.type_list_append mt_append (pv 7) (pa_cons (pe_op op_catE (pe_tup (pa_cons (pe_ix (ix_listK K) (pv 2) (pv 6) (fun _ _ => rfl)) pa_nil)) (pv 10)) pa_nil))))))
        (pss_cons (ps_set (i := 9) sc_made.nd rfl (Or.inl rfl) (pe_lst (pa_cons (pe_tup (pa_cons (pe_ix (ix_listK K) (pv 2) pe_int (fun _ _ => rfl)) (pa_cons pe_str (pa_cons pe_int (pa_cons (pe_op op_repE (pe_tup (pa_cons pe_int pa_nil)) (pv 4)) (pa_cons pe_non pa_nil)))))) pa_nil)))
        (pss_one (ps_ret (pe_lst (pa_cons (pe_slice sl_list (pv 2) po_none (po_some (pv 4))) (pa_cons (pv 5) (pa_cons (pv 9) (pa_cons (pv 7) (pa_cons (pv 3) pa_nil))))))))))))))))), ?_⟩
    repeat' ((fail_if_success (show SqL _ _ _ _ ∧ atI _ _ = _ ∧ _)); walk_at "gb step")
    rename_i l ns H1 hl0 hl n8 nnd nnm P1 s1 p8 hp8 r H2 r0 r1 P2 s2
    have n8p := P1.nn hp8
    have nl : l ≠ p := hP.nn hl0
    have e8 : H2 p8 = some (.lst (SC8.map V.int)) := s2 _ _ n8p upd_same
    have hsc := sc8_ok r0 r1
    refine ⟨SqL.of e8, at_int r0 (show r < ((8 : Nat) : Int) by omega), ?_⟩
    have hl2 : H2 l = some (.lst (ns.map V.str)) := s2 _ _ nl (same_new hp8 _ _ hl)
    have sA : SameBut p H H2 := s1.trans ((same_new hp8).but.trans s2)
    generalize SC8.getD r.toNat 0 = sc at hsc ⊢
    obtain ⟨hs1, hs2⟩ := hsc
    clear e8 s1 s2 hl hp8 P1 n8p r0 r1
    walk_at "gb go"
    rename_i rk H3 k0 k1 P3' s3 pm hpm rm H4 m0 m1 P4 s4
    have npm := P3'.nn hpm
    have nlm : l ≠ pm := fun z => by have := s3 _ _ nl hl2; rw [z, hpm] at this; cases this
    obtain ⟨z0, hz0⟩ : ∃ z, ns[0]? = some z := ⟨_, List.getElem?_eq_getElem (by omega)⟩
    have fpm : H pm = none := but_free (sA.trans s3) npm hpm
    have sB : SameBut p H H4 := (sA.trans s3).trans ((same_new hpm).but.trans s4)
    have epm : H4 pm = some (.lst []) := s4 _ _ npm upd_same
    have el4 : H4 l = some (.lst (ns.map V.str)) := s4 _ _ nl (same_new hpm _ _ (s3 _ _ nl hl2))
    clear hl2 sA s3 hpm s4 P2 P3'
    refine for_range (lo := 0) (n := (1 + rm).toNat) (fun i σ Hq => ∃ v6 v7 v8 v9 v10 : Option V, σ = [some (.ref p), some (.int m), some (.ref l), some (.int sc), some (.int (1 + rk)), some (.ref pm), v6, v7, v8, v9, v10] ∧ P3 Hq p ∧ SameBut p H Hq ∧ Hq l = some (.lst (ns.map V.str)) ∧ Machs Hq pm ns (1 + rk).toNat i) ⟨_, _, _, _, _, rfl, P4, sB, el4, [], epm, rfl, (fun r h => by cases h), fun r h => by cases h⟩ ?_ ?_
    · clear sB epm el4 P4
      rintro i σ Hq hi ⟨v6, v7, v8, v9, v10, rfl, Pq, sb, el, hM⟩
      obtain ⟨ms, eM, hnm, hMs, hMo⟩ := hM.ex
      have hml : ms.length = i := by
        have := congrArg List.length hnm
        rw [List.length_map, List.length_take] at this
        omega
      obtain ⟨z, hz⟩ : ∃ z, ns[i]? = some z := ⟨_, List.getElem?_eq_getElem (by omega)⟩
      have hat : atI (ns.map V.str) (0 + (i : Int)) = some (.str z) := by
        rw [Int.zero_add]
        exact atI_nat (by rw [List.getElem?_map, hz]; rfl)
      have hsl : (ms.map fun r => V.ref r.a).length < sizeLine := by rw [List.length_map, sizeLine_eq]; omega
      clear hM
      walk_at "gb go"
      rename_i t r H2 et el2 en hzn hl6 hnd hnm2 hnum hpos P2 s2 T1 hT1 p9 H5 s5 e5
      have sT : Tups H2 H5 := Same.tups ((same_new hT1).trans s5)
      exact Machs.snoc (r := ⟨p9, r.la, r.na, z, r.zn, r.lb, r.xs⟩) hnm hMs hMo hz ((p3_tups s2 Pq).trans sT) (s5 _ _ ((same_new hT1) _ _ (s2 _ _ npm eM))) ⟨e5, sT _ _ el2, sT _ _ en⟩ ⟨nnm z (List.mem_of_getElem? hz), hzn, hl6, hnd, hnm2, hnum, hpos⟩
    · clear sB epm el4 P4
      rintro σ Hq ⟨v6, v7, v8, v9, v10, rfl, Pq, sb, el, hM⟩
      walk_at "gb go"
      rename_i pt hpt rc H5 c0 c1 P5 s5
      have npt := Pq.nn hpt
      have fpt : H pt = none := but_free sb npt hpt
      have nlt : l ≠ pt := fun z => by rw [z, hpt] at el; cases el
      have nmt : pm ≠ pt := fun z => by obtain ⟨ms, eM, _⟩ := hM.ex; rw [z, hpt] at eM; cases eM
      have s6 : SameBut p H H5 := sb.trans ((same_new hpt).but.trans s5)
      have el5 := s5 _ _ nl (same_new hpt _ _ el)
      have ept : H5 pt = some (.lst []) := s5 _ _ npt upd_same
      have hM5 := (hM.mono (same_new hpt)).but npm (Pq.mono (same_new hpt)) s5
      clear sb s5 hpt el hM Pq
      refine for_range (lo := 0) (n := (1 + rc).toNat) (fun i σ Hr => ∃ v6 v9 v10 : Option V, σ = [some (.ref p), some (.int m), some (.ref l), some (.int sc), some (.int (1 + rk)), some (.ref pm), v6, some (.ref pt), some (.int (1 + rc)), v9, v10] ∧ P3 Hr p ∧ SameBut p H Hr ∧ Hr l = some (.lst (ns.map V.str)) ∧ Machs Hr pm ns (1 + rk).toNat (1 + rm).toNat ∧ Tmps Hr pt ns z0 (1 + rk).toNat (1 + rc).toNat i) ⟨_, _, _, rfl, P5, s6, el5, hM5, [], ept, rfl, (fun r h => by cases h), (fun r h => by cases h), fun r h => by cases h⟩ ?_ ?_
      · clear s6 el5 ept hM5 P5
        rintro i σ Hr hi ⟨v6, v9, v10, rfl, Pr, sb, el, hM, hT⟩
        obtain ⟨ts, eT, hnm, hTs, hTo, hTw⟩ := hT.ex
        have htl : ts.length = i := by
          have := congrArg List.length hnm
          rw [List.length_map, List.length_take] at this
          omega
        obtain ⟨z, hz⟩ : ∃ z, ns[i]? = some z := ⟨_, List.getElem?_eq_getElem (by omega)⟩
        have hat : atI (ns.map V.str) (0 + (i : Int)) = some (.str z) := by
          rw [Int.zero_add]
          exact atI_nat (by rw [List.getElem?_map, hz]; rfl)
        have hsl : (ts.map fun r => V.ref r.a).length < sizeLine := by rw [List.length_map, sizeLine_eq]; omega
        clear hT
        walk_at "gb go"
        rename_i t r H2 et es ess ew hgp k2 k3 e2 e3 st1 st3 hso hw6 hwd hws P2 s2 T1 hT1 p9 H6 s6 e6
        have sT : Tups H2 H6 := Same.tups ((same_new hT1).trans s6)
        have hgz : r.gp = z0 := by rw [hz0] at hgp; cases hgp; rfl
        have eT6 := s6 _ _ ((same_new hT1) _ _ (s2 _ _ npt eT))
        exact ⟨((hM.but npm Pr s2).mono ((same_new hT1).trans s6)).put nmt eT6,
          Tmps.snoc (r := ⟨p9, r.sa, r.wa, z, r.gp, r.rk, r.ev, r.st, r.ws⟩) hnm hTs hTo hTw hz ((p3_tups s2 Pr).trans sT) eT6 ⟨e6, sT _ _ es, fun q hq => (ess q hq).mono sT, sT _ _ ew⟩ ⟨nnm z (List.mem_of_getElem? hz), hgz, ⟨k2, k3⟩, ⟨e2, e3⟩, ⟨st1, st3⟩, hso, hw6, hwd, fun z hz => lw_ok nnm (hws z hz)⟩ hws⟩
      · clear s6 el5 ept hM5 P5
        rintro σ Hr ⟨v6, v9, v10, rfl, Pr, sb, el, hM, hT⟩
        obtain ⟨ts, eT, hnm, hTs, hTo, hTw⟩ := hT.ex
        obtain ⟨ms, eM, hnm2, hMs, hMo⟩ := hM.ex
        have hat0 : atI (ns.map V.str) 0 = some (.str z0) := atI_nat (j := 0) (by rw [List.getElem?_map, hz0]; rfl)
        have hcut : cutV (ns.map V.str) none (some (1 + rk)) = (ns.take (1 + rk).toNat).map V.str := by
          obtain ⟨j, hj⟩ : ∃ j : Nat, 1 + rk = (j : Int) := ⟨(1 + rk).toNat, by omega⟩
          rw [hj, Int.toNat_natCast]
          exact cut_lo ns j
        clear hM hT
        walk_at "gb go"
        rename_i q5 hq5 q4 H9 s9 e9 q3 hq3 q2 hq2 q1 hq1 qw hqw
        rw [rep_flat] at e9
        rw [hcut] at hqw ⊢
        have s0 : Same Hr H9 := (same_new hq5).trans s9
        have x3 := upd_same (H := H9) (a := q3) (o := .tup [.str z0, .str (Str.ofString ""), .int 1, .ref q4, .non])
        have t3 := same_new (o := .tup [.str z0, .str (Str.ofString ""), .int 1, .ref q4, .non]) hq3
        generalize upd H9 q3 (.tup [.str z0, .str (Str.ofString ""), .int 1, .ref q4, .non]) = A3 at x3 t3 hq2 hq1 hqw ⊢
        have x2 := upd_same (H := A3) (a := q2) (o := .lst [.ref q3])
        have t2 := same_new (o := .lst [.ref q3]) hq2
        generalize upd A3 q2 (.lst [.ref q3]) = A2 at x2 t2 hq1 hqw ⊢
        have x1 := upd_same (H := A2) (a := q1) (o := .lst ((ns.take (1 + rk).toNat).map V.str))
        have t1 := same_new (o := .lst ((ns.take (1 + rk).toNat).map V.str)) hq1
        generalize upd A2 q1 (.lst ((ns.take (1 + rk).toNat).map V.str)) = A1 at x1 t1 hqw ⊢
        have x0 := upd_same (H := A1) (a := qw) (o := .lst [.ref q1, .ref pm, .ref q2, .ref pt, .int sc])
        have t0 := same_new (o := .lst [.ref q1, .ref pm, .ref q2, .ref pt, .int sc]) hqw
        have p9' : P3 H9 p := Pr.mono s0
        have pA3 := p9'.mono t3
        have pA2 := pA3.mono t2
        have pA1 := pA2.mono t1
        have nq2 := pA3.nn hq2
        have nq1 := pA2.nn hq1
        have nqw := pA1.nn hqw
        generalize upd A1 qw (.lst [.ref q1, .ref pm, .ref q2, .ref pt, .int sc]) = A0 at x0 t0 ⊢
        have u2 : Same A2 A0 := t1.trans t0
        have u3 : Same A3 A0 := t2.trans u2
        have u9 : Same H9 A0 := t3.trans u3
        have uR : Same Hr A0 := s0.trans u9
        have hkl := take_k (ns := ns) (k := (1 + rk).toNat) (by omega)
        have hml : ms.length = (1 + rm).toNat := by
          have := congrArg List.length hnm2
          rw [List.length_map, take_k (by omega)] at this
          exact this
        have htl : ts.length = (1 + rc).toNat := by
          have := congrArg List.length hnm
          rw [List.length_map, take_k (by omega)] at this
          exact this
        refine k qw ⟨q1, pm, q2, pt, ns.take (1 + rk).toNat, ms, ⟨q3, q4, z0, (1 + rk).toNat⟩, ts⟩ sc A0 ⟨x0, t0 _ _ x1, uR _ _ eM, u2 _ _ x2, uR _ _ eT, hMs.mono (Same.tups uR), ⟨u3 _ _ x3, u9 _ _ e9⟩, hTs.mono (Same.tups uR)⟩ ?_ hs1 hs2 ⟨nqw, nq1, npm, nq2, npt⟩ (Pr.mono uR) (sb.trans uR.but)
        refine ⟨?_, nnd.sublist (List.take_sublist _ _), fun z hz => nnm z (List.mem_of_mem_take hz), ?_, ?_, ?_, nnm z0 (List.mem_of_getElem? hz0), hkl.symm, ?_, ?_, ?_, fun r hr n hn => ?_⟩
        · show 1 ≤ (ns.take (1 + rk).toNat).length ∧ (ns.take (1 + rk).toNat).length ≤ 3
          rw [hkl]; omega
        · show 1 ≤ ms.length ∧ ms.length ≤ 6
          omega
        · show (ms.map (·.nm)).Nodup
          rw [hnm2]; exact nnd.sublist (List.take_sublist _ _)
        · show ∀ r ∈ ms, MOk (ns.take (1 + rk).toNat).length r
          rw [hkl]; exact hMo
        · show 1 ≤ ts.length ∧ ts.length ≤ 8
          omega
        · show (ts.map (·.nm)).Nodup
          rw [hnm]; exact nnd.sublist (List.take_sublist _ _)
        · show ∀ r ∈ ts, TOk (ns.take (1 + rk).toNat).length z0 r
          rw [hkl]; exact hTo
        · show n ∈ ts.map (·.nm)
          rw [hnm]; exact nev_of (hTw r hr) n hn
theorem ok_built (T : Txt K mg A) (TB : LamX.TabB base mg A.co_check_rows A.tb_check_rows) : FnOk P w K mg base CX0 16 A.f_built A.d_built ["_law_world"] (spBuilt7 A) := by
  refine T.F_built.ok sc_built (fun vs H Q E h => ?_) (fun cdv Ar outer s H vs Q E hr h => ?_)
  · obtain ⟨a, wa, sc, bs, sp, rfl, _⟩ := h
    rfl
  · obtain ⟨a, wa, sc, bs, sp, rfl, hW, hO, hT, k⟩ := h
    refine ⟨_, (pss_one (ps_ret (pe_make T.mk_Cluster (ok_Cluster_init T TB) (hr.mono (by decide)) rfl T.g_Cluster T.b_Cluster_init .nil pass0 (pa_cons (pe_callTy call_list_of (by rfl) T.n_list (by decide +kernel) (pa_cons (pe_ix (ix_listK K) (pv 0) pe_int (fun _ _ => rfl)) pa_nil)) (pa_cons (pe_callTy call_list_of (by rfl) T.n_list (by decide +kernel) (pa_cons (pe_ix (ix_listK K) (pv 0) pe_int (fun _ _ => rfl)) pa_nil)) (pa_cons (pe_callTy call_list_of (by rfl) T.n_list (by decide +kernel) (pa_cons (pe_ix (ix_listK K) (pv 0) pe_int (fun _ _ => rfl)) pa_nil)) (pa_cons (pe_callTy call_list_of (by rfl) T.n_list (by decide +kernel) (pa_cons (pe_ix (ix_listK K) (pv 0) pe_int (fun _ _ => rfl)) pa_nil)) pa_nil))))))), ?_⟩
    have hWe := hW.e
    have h1 := hW.w.r
    have h2 := hW.w.m
    have h3 := hW.w.g
    have h4 := hW.w.t
    have hr1 := hO.r1
    have hm1 := hO.m1
    have ht1 := hO.t1
    repeat' ((fail_if_success (show ∀ (x dx : Addr), _ = none → _ = none → dx ≠ x → _)); walk_at "gb step")
    rename_i l0 g0 l1 g1 l2 g2 l3 g3
    have s5 : Same H (upd (upd (upd (upd H l0 (.lst (wa.rs.map V.str))) l1 (.lst (wa.ms.map fun r => V.ref r.a))) l2 (.lst [.ref wa.g.a])) l3 (.lst (wa.ts.map fun r => V.ref r.a))) := by walk_at "gb same"
    have e0 : (upd (upd (upd (upd H l0 (.lst (wa.rs.map V.str))) l1 (.lst (wa.ms.map fun r => V.ref r.a))) l2 (.lst [.ref wa.g.a])) l3 (.lst (wa.ts.map fun r => V.ref r.a))) l0 = some (.lst (wa.rs.map V.str)) := by walk_at "gb hp"
    have e1 : (upd (upd (upd (upd H l0 (.lst (wa.rs.map V.str))) l1 (.lst (wa.ms.map fun r => V.ref r.a))) l2 (.lst [.ref wa.g.a])) l3 (.lst (wa.ts.map fun r => V.ref r.a))) l1 = some (.lst (wa.ms.map fun r => V.ref r.a)) := by walk_at "gb hp"
    have e2 : (upd (upd (upd (upd H l0 (.lst (wa.rs.map V.str))) l1 (.lst (wa.ms.map fun r => V.ref r.a))) l2 (.lst [.ref wa.g.a])) l3 (.lst (wa.ts.map fun r => V.ref r.a))) l2 = some (.lst [.ref wa.g.a]) := by walk_at "gb hp"
    have e3 : (upd (upd (upd (upd H l0 (.lst (wa.rs.map V.str))) l1 (.lst (wa.ms.map fun r => V.ref r.a))) l2 (.lst [.ref wa.g.a])) l3 (.lst (wa.ts.map fun r => V.ref r.a))) l3 = some (.lst (wa.ts.map fun r => V.ref r.a)) := upd_same
    generalize (upd (upd (upd (upd H l0 (.lst (wa.rs.map V.str))) l1 (.lst (wa.ms.map fun r => V.ref r.a))) l2 (.lst [.ref wa.g.a])) l3 (.lst (wa.ts.map fun r => V.ref r.a))) = H5 at s5 e0 e1 e2 e3 ⊢
    conv => whnf
    refine cluster_made (w := { wa with ra := l0, ma := l1, ga := l2, ta := l3 }) ⟨e0, e1, e2, e3, hW.w.mm.mono (Same.tups s5), hW.w.gg.mono (Same.tups s5), hW.w.tt.mono (Same.tups s5)⟩ hO.lists (tabs_same s5 hT) (fun x H' hx s t c => ?_)
    exact k x H' ((ext_same s5).trans s) t c.lists
theorem ok_clock (T : Txt K mg A) : FnOk P w K mg base CX0 2 A.f_clock A.d_clock ["_law_pool"] (spClock) := by
  refine T.F_clock.ok sc_clock (fun vs H Q E h => ?_) (fun cdv Ar outer s H vs Q E hr h => ?_)
  · obtain ⟨p, rfl, _⟩ := h
    rfl
  · obtain ⟨p, rfl, hP, k⟩ := h
    refine ⟨_, (pss_cons (ps_if (pt_cmpR op_gt (pe_call (ok_draw T) (hr.mono (by decide)) rfl T.g_draw T.F_draw.kp T.b_draw .nil pass0 (pa_cons (pv 0) (pa_cons pe_int pa_nil))) pe_int (nomark _)) (pss_one (ps_ret (pe_lst (pa_cons pe_int (pa_cons pe_int pa_nil))))) pss_nil)
        (pss_one (ps_ret (pe_lst (pa_cons (pe_op op_mulX (pe_call (ok_draw T) (hr.mono (by decide)) rfl T.g_draw T.F_draw.kp T.b_draw .nil pass0 (pa_cons (pv 0) (pa_cons pe_int pa_nil))) pe_int) (pa_cons (pe_op op_add pe_int (pe_call (ok_draw T) (hr.mono (by decide)) rfl T.g_draw T.F_draw.kp T.b_draw .nil pass0 (pa_cons (pv 0) (pa_cons pe_int pa_nil)))) pa_nil)))))), ?_⟩
    walk_at "gb go"
    · rename_i r H1 a0 a1 P1 s1 c1 q hq
      exact k q 0 1 _ (P1.nn hq) upd_same ⟨⟨by decide, by decide⟩, ⟨by decide, by decide⟩⟩ (P1.mono (same_new hq)) (by walk_at "gb but")
    · rename_i r H1 a0 a1 P1 s1 c1 r2 H2 b0 b1 P2 s2 r3 H3 d0 d1 P3' s3 q hq
      exact k q (r2 * 99) (1 + r3) _ (P3'.nn hq) upd_same ⟨⟨by omega, by omega⟩, ⟨by omega, by omega⟩⟩ (P3'.mono (same_new hq)) (by walk_at "gb but")
theorem ok_span (T : Txt K mg A) : FnOk P w K mg base CX0 2 A.f_span A.d_span ["_law_pool", "_law_world"] (spSpan7) := by
  refine T.F_span.ok sc_span (fun vs H Q E h => ?_) (fun cdv Ar outer s H vs Q E hr h => ?_)
  · obtain ⟨p, a, wa, sc, bs, sp, rfl, _⟩ := h
    rfl
  · obtain ⟨p, a, wa, sc, bs, sp, rfl, hP, hW, hCk, hNe, k⟩ := h
    refine ⟨_, (pss_cons (ps_set (i := 2) sc_span.nd rfl (Or.inl rfl) (pe_call (ok_draw T) (hr.mono (by decide)) rfl T.g_draw T.F_draw.kp T.b_draw .nil pass0 (pa_cons (pv 0) (pa_cons pe_int pa_nil))))
        (pss_cons (ps_set (i := 3) sc_span.nd rfl (Or.inl rfl) (pe_op op_add (pe_op op_add (pv 2) pe_int) (pe_call (ok_draw T) (hr.mono (by decide)) rfl T.g_draw T.F_draw.kp T.b_draw .nil pass0 (pa_cons (pv 0) (pa_cons pe_int pa_nil)))))
        (pss_one (ps_ret (pe_tup (pa_cons (pe_op op_add (pe_ix (ix_listK K) (pv 1) pe_int (fun _ _ => rfl)) (pe_op op_mulX (pe_ix (ix_listK K) (pv 1) pe_int (fun _ _ => rfl)) (pv 2))) (pa_cons (pe_op op_add (pe_ix (ix_listK K) (pv 1) pe_int (fun _ _ => rfl)) (pe_op op_mulX (pe_ix (ix_listK K) (pv 1) pe_int (fun _ _ => rfl)) (pv 3))) pa_nil))))))), ?_⟩
    have hWe := hW.e
    have hb1 := hCk.b
    have hs1 := hCk.s
    have na := hNe.a
    walk_at "gb go"
    rename_i r1 H1 a0 a1 P1 s1 r2 H2 b0 b1 P2 s2 q hq
    exact k q (bs + sp * r1) (bs + sp * (r1 + 1 + r2)) _ upd_same ⟨r1.toNat, (r1 + 1 + r2).toNat, (by rw [Int.toNat_of_nonneg a0]), (by rw [Int.toNat_of_nonneg (by omega)]), by omega, by omega⟩ (P2.mono (same_new hq)) (by walk_at "gb but")
theorem ok_taken (T : Txt K mg A) : FnOk P w K mg base CX0 3 A.f_taken A.d_taken ["_law_pool", "_law_world"] (spTaken7) := by
  refine T.F_taken.ok sc_taken (fun vs H Q E h => ?_) (fun cdv Ar outer s H vs Q E hr h => ?_)
  · obtain ⟨p, a, wa, sc, bs, sp, rfl, _⟩ := h
    rfl
  · obtain ⟨p, a, wa, sc, bs, sp, rfl, hP, hW, hCk, hO, hs1, hs2, hNe, k⟩ := h
    refine ⟨_, (pss_cons (ps_set (i := 2) sc_taken.nd rfl (Or.inl rfl) (pe_call (ok_draw T) (hr.mono (by decide)) rfl T.g_draw T.F_draw.kp T.b_draw .nil pass0 (pa_cons (pv 0) (pa_cons (pe_callB (call_len_seqK K) (by rfl) T.n_len (by decide +kernel) (pa_cons (pe_ix (ix_listK K) (pv 1) pe_int (fun _ _ => rfl)) pa_nil)) pa_nil))))
        (pss_cons (ps_set (i := 3) sc_taken.nd rfl (Or.inl rfl) (pe_call (ok_span T) (hr.mono (by decide)) rfl T.g_span T.F_span.kp T.b_span .nil pass0 (pa_cons (pv 0) (pa_cons (pv 1) pa_nil))))
        (pss_cons (ps_set (i := 4) sc_taken.nd rfl (Or.inl rfl) (pe_call (ok_few T) (hr.mono (by decide)) rfl T.g_few T.F_few.kp T.b_few .nil pass0 (pa_cons (pv 0) (pa_cons (pe_callB (call_len_seqK K) (by rfl) T.n_len (by decide +kernel) (pa_cons (pe_ix (ix_listK K) (pv 1) pe_int (fun _ _ => rfl)) pa_nil)) (pa_cons pe_int (pa_cons (pe_ix (ix_listK K) (pv 1) pe_int (fun _ _ => rfl)) pa_nil))))))
        (pss_cons (ps_set (i := 5) sc_taken.nd rfl (Or.inl rfl) (pe_call (ok_draw T) (hr.mono (by decide)) rfl T.g_draw T.F_draw.kp T.b_draw .nil pass0 (pa_cons (pv 0) (pa_cons pe_int pa_nil))))
        (pss_cons (ps_if (pt_cmpR op_eq (pv 5) pe_int (nomark _)) (pss_one (ps_set (i := 4) sc_taken.nd rfl (Or.inl rfl) (pe_op op_repE (pe_tup (pa_cons pe_int pa_nil)) (pe_callB (call_len_seqK K) (by rfl) T.n_len (by decide +kernel) (pa_cons (pe_ix (ix_listK K) (pv 1) pe_int (fun _ _ => rfl)) pa_nil))))) pss_nil)
        (pss_cons (ps_if (pt_cmpR op_eq (pv 5) pe_int (nomark _)) (pss_one (ps_set (i := 4) sc_taken.nd rfl (Or.inl rfl) (pe_op op_repE (pe_tup (pa_cons (pe_op op_pow pe_int pe_int) pa_nil)) (pe_callB (call_len_seqK K) (by rfl) T.n_len (by decide +kernel) (pa_cons (pe_ix (ix_listK K) (pv 1) pe_int (fun _ _ => rfl)) pa_nil))))) pss_nil)
        (pss_cons (ps_set (i := 6) sc_taken.nd rfl (Or.inl rfl) (pe_op op_sub (pe_call (ok_draw T) (hr.mono (by decide)) rfl T.g_draw T.F_draw.kp T.b_draw .nil pass0 (pa_cons (pv 0) (pa_cons (pe_op op_add (pe_callB (call_len_seqK K) (by rfl) T.n_len (by decide +kernel) (pa_cons (pe_ix (ix_listK K) (pv 1) pe_int (fun _ _ => rfl)) pa_nil)) pe_int) pa_nil))) pe_int))
        (pss_one (ps_ret (pe_tup (pa_cons (pv 2) (pa_cons (pe_ix (ix_tupK K) (pv 3) pe_int (fun _ _ => rfl)) (pa_cons (pe_ix (ix_tupK K) (pv 3) pe_int (fun _ _ => rfl)) (pa_cons (pv 4) (pa_cons (pv 6) pa_nil))))))))))))))), ?_⟩
    have hWe := hW.e
    have hWr := hW.w.r
    have hWm := hW.w.m
    have hWt := hW.w.t
    have hm1 := hO.m1
    have hr1 := hO.r1
    have ht1 := hO.t1
    have na := hNe.a
    have nr := hNe.r
    have nm := hNe.m
    have nt := hNe.t
    repeat' ((fail_if_success (show SqT _ _ _ _ ∧ _)); walk_at "gb step")
    · rename_i r1 H1 a0 a1 P1 s1 t ba bb H2 et hba P2 s2 t2 xs H3 et2 hnum hpos P4 s3 r2 H4 c0 c1 P5 s4 hodd p1 hp1 p2 H5 s5 e5 hne r3 H6 d0 d1 P6 s6
      rw [List.length_map] at a1
      have P7 : P3 H5 p := (P5.mono (same_new hp1)).mono s5
      have et' := p3_tup s6 P7 (s5 _ _ ((same_new hp1) _ _ (p3_tup s4 P4 (p3_tup s3 P2 et))))
      have e5' := p3_tup s6 P7 e5
      rw [rep_flat] at e5'
      have sX : SameBut p H4 H5 := ((same_new hp1).trans s5).but
      refine ⟨SqT.of et', ?_⟩
      walk_at "gb go"
      rename_i p9 hp9
      exact k ⟨p9, p2, r1, ba, bb, r3 - 1, List.replicate (((wa.rs.map V.str).length : Nat) : Int).toNat 0⟩ _ ⟨upd_same, (same_new hp9) _ _ e5'⟩ ⟨⟨a0, a1⟩, hba, (by simp), (fun x hx => by rw [(List.mem_replicate.mp hx).2]; exact Int.le_refl _), ⟨(by show -1 ≤ r3 - 1; omega), (by rw [List.length_map] at d1; show r3 - 1 < _; omega)⟩⟩ (P6.mono (same_new hp9)) (by walk_at "gb but")
    · rename_i r1 H1 a0 a1 P1 s1 t ba bb H2 et hba P2 s2 t2 xs H3 et2 hnum hpos P4 s3 r2 H4 c0 c1 P5 s4 hodd hone p1 hp1 p2 H5 s5 e5 r3 H6 d0 d1 P6 s6
      rw [List.length_map] at a1
      have P7 : P3 H5 p := (P5.mono (same_new hp1)).mono s5
      have et' := p3_tup s6 P7 (s5 _ _ ((same_new hp1) _ _ (p3_tup s4 P4 (p3_tup s3 P2 et))))
      have e5' := p3_tup s6 P7 e5
      have e5' : H6 p2 = some (.tup ((List.replicate (((wa.rs.map V.str).length : Nat) : Int).toNat (10 ^ (6 : Int).toNat)).map V.int)) := by rw [← rep_flat]; exact e5'
      have sX : SameBut p H4 H5 := ((same_new hp1).trans s5).but
      refine ⟨SqT.of et', ?_⟩
      walk_at "gb go"
      rename_i p9 hp9
      exact k ⟨p9, p2, r1, ba, bb, r3 - 1, List.replicate (((wa.rs.map V.str).length : Nat) : Int).toNat (10 ^ (6 : Int).toNat)⟩ _ ⟨upd_same, (same_new hp9) _ _ e5'⟩ ⟨⟨a0, a1⟩, hba, (by simp), (fun x hx => by rw [(List.mem_replicate.mp hx).2]; decide), ⟨(by show -1 ≤ r3 - 1; omega), (by rw [List.length_map] at d1; show r3 - 1 < _; omega)⟩⟩ (P6.mono (same_new hp9)) (by walk_at "gb but")
    · rename_i r1 H1 a0 a1 P1 s1 t ba bb H2 et hba P2 s2 t2 xs H3 et2 hnum hpos P4 s3 r2 H4 c0 c1 P5 s4 hodd hone r3 H6 d0 d1 P6 s6
      rw [List.length_map] at a1
      have et' := p3_tup s6 P5 (p3_tup s4 P4 (p3_tup s3 P2 et))
      have e5' := p3_tup s6 P5 (p3_tup s4 P4 et2)
      refine ⟨SqT.of et', ?_⟩
      walk_at "gb go"
      rename_i p9 hp9
      exact k ⟨p9, t2, r1, ba, bb, r3 - 1, xs⟩ _ ⟨upd_same, (same_new hp9) _ _ e5'⟩ ⟨⟨a0, a1⟩, hba, (by rw [hnum.len]; simp), (fun x hx => (hnum.rng x hx).1), ⟨(by show -1 ≤ r3 - 1; omega), (by rw [List.length_map] at d1; show r3 - 1 < _; omega)⟩⟩ (P6.mono (same_new hp9)) (by walk_at "gb but")
theorem ok_spare (T : Txt K mg A) : FnOk P w K mg base CX0 1 A.f_spare A.d_spare ["_law_world", "_law_rows", "_law_machine_here", "_law_hour"] (spSpare7) := by
  refine T.F_spare.ok sc_spare (fun vs H Q E h => ?_) (fun cdv Ar outer s H vs Q E hr h => ?_)
  · obtain ⟨a, b, wa, sc, bs, sp, l, m, h, r, rfl, _⟩ := h
    rfl
  · obtain ⟨a, b, wa, sc, bs, sp, l, m, h, r, rfl, hW, hO, hb, hR, hL, hm, k⟩ := h
    refine ⟨_, (pss_cons (ps_set (i := 4) sc_spare.nd rfl (Or.inr rfl) (pe_callTy call_list_of (by rfl) T.n_list (by decide +kernel) (pa_cons (pe_ix (ix_tupK K) (pe_ix (ix_listK K) (pe_ix (ix_listK K) (pv 0) pe_int (fun _ _ => rfl)) (pv 2) (fun _ _ => rfl)) pe_int (fun _ _ => rfl)) pa_nil)))
        (pss_cons (ps_for PassesOwn.never rfl (pi_listK K (pv 1)) (pg_name (i := 5) sc_spare.nd rfl (Or.inr rfl))
        (pss_one (ps_if (PW.pt (pw_and (pt_cmpR op_eq (pe_ix (ix_tupK K) (pv 5) pe_int (fun _ _ => rfl)) (pv 2) (nomark _)) (pw_and1 (pt_chain op_le op_lt (pe_ix (ix_tupK K) (pv 5) pe_int (fun _ _ => rfl)) (pv 3) (pe_ix (ix_tupK K) (pv 5) pe_int (fun _ _ => rfl)))))) (pss_one (ps_set (i := 4) sc_spare.nd rfl (Or.inr rfl) (pe_lc (own := [("_law_k", 6)]) (g := gName 6) (tt := tYes) rfl sc_spare.nd (pi_range1 rfl T.n_range (pa_cons (pe_callB (call_len_seqK K) (by rfl) T.n_len (by decide +kernel) (pa_cons (pv 4) pa_nil)) pa_nil)) (blkOk_by (N := ["_law_world", "_law_rows", "_law_machine_here", "_law_hour", "_law_left", "_law_row", "_law_k"]) (sc := defScope s_spare) (by decide +kernel)) (fun _ _ _ _ _ => (pg_name (i := 6) sc_spare.nd rfl (Or.inl rfl))) (fun _ _ _ _ _ => pts_nil) (fun _ _ _ _ _ => (pe_op op_sub (pe_ix (ix_listK K) (pv 4) (pv 6) (fun _ _ => rfl)) (pe_ix (ix_tupK K) (pe_ix (ix_tupK K) (pv 5) pe_int (fun _ _ => rfl)) (pv 6) (fun _ _ => rfl))))))) pss_nil)))
        (pss_one (ps_ret (pv 4))))), ?_⟩
    have hWe := hW.e
    have hWm := hW.w.m
    have hmm := List.mem_of_getElem? hm
    have hre := (hW.w.mm r hmm).e
    have hrn := (hW.w.mm r hmm).n
    have hat : atI (wa.ms.map fun r => V.ref r.a) (m : Int) = some (.ref r.a) := atI_nat (by rw [List.getElem?_map, hm]; rfl)
    have hxl := (hO.mo r hmm).num.len
    have hr1 := hO.r1
    walk_at "gb go"
    rename_i D0 hD0
    refine for_list (K := K) (a := b) (xs := l.map fun r => V.ref r.a) (fun i σ Hq => ∃ (D : Addr) (v5 v6 : Option V), σ = [some (.ref a), some (.ref b), some (.int (m : Int)), some (.int h), some (.ref D), v5, v6] ∧ Same H Hq ∧ H D = none ∧ Hq D = some (.lst ((freeL r.xs (l.take i) m h).map V.int))) ⟨D0, _, _, rfl, same_new hD0, hD0, by rw [List.take_zero, free_nil]; exact upd_same⟩ (fun i σ Hq _ ⟨_, _, _, _, s, _⟩ => SqL.of (s _ _ hb)) ?_ ?_
    · rintro i x σ Hq hi ⟨D, v5, v6, rfl, s1, fD, eD⟩
      obtain ⟨q, hq, rfl⟩ := get_map hi
      have hqm := List.mem_of_getElem? hq
      have hqe := s1 _ _ (hR.all q hqm).e
      have hqn := s1 _ _ (hR.all q hqm).n
      have hql := hL q hqm
      have hfl : (freeL r.xs (l.take i) m h).length = wa.rs.length := by rw [free_len, hxl]
      clear hre hrn hWe hWm hat
      walk_at "gb go"
      · rename_i c1 c2 c3 D2 hD2
        have f2 : H D2 = none := fresh_of s1 hD2
        have hon : onM (m : Int) q = true ∧ onAt h q = true := ⟨decide_eq_true c1, by unfold onAt; rw [decide_eq_true c2, decide_eq_true c3]; rfl⟩
        have hfy := free_yes (xs := r.xs) (m := (m : Int)) (h := h) hq hon
        refine lc_range (lo := 0) (n := ((((freeL r.xs (l.take i) m h).map V.int).length : Nat) : Int).toNat) (fun k Hr => Same Hq Hr ∧ Hr D2 = some (.lst (((freeL r.xs (l.take (i + 1)) m h).map V.int).take k))) ⟨same_new hD2, upd_same⟩ ?_ ?_
        · rintro k Hr hk ⟨s2, e2⟩
          have hk2 : k < (freeL r.xs (l.take i) m h).length := by simpa using hk
          have hat1 : atI ((freeL r.xs (l.take i) m h).map V.int) (0 + (k : Int)) = some (.int ((freeL r.xs (l.take i) m h).getD k 0)) := by
            rw [Int.zero_add]
            exact atI_nat (by rw [List.getElem?_map, getD_some hk2]; rfl)
          have hat2 : atI (q.xs.map V.int) (0 + (k : Int)) = some (.int (q.xs.getD k 0)) := by
            rw [Int.zero_add]
            exact atI_nat (by rw [List.getElem?_map, getD_some (by omega)]; rfl)
          have hsl : (((freeL r.xs (l.take (i + 1)) m h).map V.int).take k).length < sizeLine := by rw [List.length_take, sizeLine_eq]; omega
          walk_at "gb go"
          exact lc_end (by rw [hfy, List.getElem?_map, List.getElem?_map, List.getElem?_range hk2]; rfl)
        · rintro Hr ⟨s2, e2⟩
          rw [take_all (by simp [free_len])] at e2
          walk_at "gb go"
          exact e2
      · rename_i c1 c2 c3
        rw [free_no hq (fun z => by have := z.2; unfold onAt at this; simp at this; omega)]
        exact eD
      · rename_i c1 c2
        rw [free_no hq (fun z => by have := z.2; unfold onAt at this; simp at this; omega)]
        exact eD
      · rename_i c1
        rw [free_no hq (fun z => c1 (of_decide_eq_true z.1))]
        exact eD
    · rintro σ Hq ⟨D, v5, v6, rfl, s1, fD, eD⟩
      rw [List.length_map, List.take_length] at eD
      walk_at "gb go"
      exact k D _ _ fD ⟨rfl⟩ s1 eD
theorem ok_wished (T : Txt K mg A) : FnOk P w K mg base CX0 1 A.f_wished A.d_wished ["_law_world", "_law_gang", "_law_word"] (spWished) := by
  refine T.F_wished.ok sc_wished (fun vs H Q E h => ?_) (fun cdv Ar outer s H vs Q E hr h => ?_)
  · obtain ⟨a, g, wa, sc, bs, sp, ti, si, r, sq, w, rfl, _⟩ := h
    rfl
  · obtain ⟨a, g, wa, sc, bs, sp, ti, si, r, sq, w, rfl, hW, hO, hG, hw, k⟩ := h
    refine ⟨_, (pss_cons (ps_set (i := 3) sc_wished.nd rfl (Or.inr rfl) (pe_callB call_len_str (by rfl) T.n_len (by decide +kernel) (pa_cons (pv 2) pa_nil)))
        (pss_cons (ps_set (i := 4) sc_wished.nd rfl (Or.inl rfl) (pe_ix (ix_tupK K) (pe_ix (ix_listK K) (pe_ix (ix_listK K) (pv 0) pe_int (fun _ _ => rfl)) (pe_ix (ix_tupK K) (pv 1) pe_int (fun _ _ => rfl)) (fun _ _ => rfl)) pe_int (fun _ _ => rfl)))
        (pss_one (ps_ret (pe_lc (own := [("_law_wish", 5)]) (g := gName 5) rfl sc_wished.nd (pi_tupK K (pv 4)) (blkOk_by (N := ["_law_world", "_law_gang", "_law_word", "_law_size", "_law_wishes", "_law_wish"]) (sc := defScope s_wished) (by decide +kernel)) (fun _ _ _ _ _ => (pg_name (i := 5) sc_wished.nd rfl (Or.inl rfl))) (fun _ _ _ _ _ => pts_one (pt_cmpR op_eq (pe_slice sl_str (pv 5) po_none (po_some (pv 3))) (pv 2) (nomark _))) (fun _ _ _ _ _ => (pe_slice sl_str (pv 5) (po_some (pv 3)) po_none))))))), ?_⟩
    have hWe := hW.e
    have hWt := hW.w.t
    have hrm := List.mem_of_getElem? hG.t
    have hre := (hW.w.tt r hrm).e
    have hrw := (hW.w.tt r hrm).w
    have eg := hG.g
    have hat : atI (wa.ts.map fun r => V.ref r.a) (ti : Int) = some (.ref r.a) := atI_nat (by rw [List.getElem?_map, hG.t]; rfl)
    have hcol : (Str.ofString ":").length = 1 := by decide +kernel
    have hst : (w ++ Str.ofString ":").length ≤ 6 := by rw [Str.length_append]; omega
    obtain ⟨hws, hwl⟩ := foes_ws (hO.to r hrm)
    walk_at "gb go"
    rename_i D hD
    refine lc_tup (K := K) (a := r.wa) (xs := r.ws.map V.str) (fun i Hq => Same H Hq ∧ Hq D = some (.lst ((nAft w (r.ws.take i)).map V.str))) ⟨same_new hD, upd_same⟩ (fun i Hq _ h => SqT.of (h.1 _ _ hrw)) ?_ ?_
    · rintro i x Hq hi ⟨s1, e1⟩
      obtain ⟨z, hz, rfl⟩ := get_map hi
      have hzl := hwl z (List.mem_of_getElem? hz)
      have hsl : ((nAft w (r.ws.take i)).map V.str).length < sizeLine := by
        rw [List.length_map, sizeLine_eq]
        have := @nAft_len w (r.ws.take i)
        rw [List.length_take] at this
        omega
      have hst2 := @nAft_step w r.ws i z hz
      have hcs := cut_sw z (w ++ Str.ofString ":")
      walk_at "gb go"
      · rename_i c1
        injection c1 with c1
        rw [hst2, if_pos (hcs.mp c1), List.map_append]
        exact upd_same
      · rename_i c1
        rw [hst2, if_neg (fun q => c1 (by rw [hcs.mpr q])), List.append_nil]
        exact e1
    · rintro Hq ⟨s1, e1⟩
      rw [List.length_map, List.take_length] at e1
      walk_at "gb go"
      exact k _ _ s1 e1
theorem ok_foes (T : Txt K mg A) : FnOk P w K mg base CX0 2 A.f_foes A.d_foes ["_law_world", "_law_gang"] (spFoes7) := by
  refine T.F_foes.ok sc_foes (fun vs H Q E h => ?_) (fun cdv Ar outer s H vs Q E hr h => ?_)
  · obtain ⟨a, g, wa, sc, bs, sp, ti, si, r, sq, rfl, _⟩ := h
    rfl
  · obtain ⟨a, g, wa, sc, bs, sp, ti, si, r, sq, rfl, hW, hO, hG, k⟩ := h
    refine ⟨_, (pss_cons (ps_set (i := 2) sc_foes.nd rfl (Or.inr rfl) (pe_ix (ix_listK K) (pv 0) pe_int (fun _ _ => rfl)))
        (pss_cons (ps_set (i := 3) sc_foes.nd rfl (Or.inr rfl) (pe_op op_add_str pe_str (pe_ix (ix_tupK K) (pe_ix (ix_listK K) (pv 2) (pe_ix (ix_tupK K) (pv 1) pe_int (fun _ _ => rfl)) (fun _ _ => rfl)) pe_int (fun _ _ => rfl))))
        (pss_cons (ps_set (i := 4) sc_foes.nd rfl (Or.inr rfl) (pe_call (ok_wished T) (hr.mono (by decide)) rfl T.g_wished T.F_wished.kp T.b_wished .nil pass0 (pa_cons (pv 0) (pa_cons (pv 1) (pa_cons pe_str pa_nil)))))
        (pss_cons (ps_setLc (i := 5) (own := [("_law_k", 6)]) (g := gName 6) rfl sc_foes.nd rfl rfl (sw_true rfl rfl rfl (by decide +kernel)) (pi_range1 rfl T.n_range (pa_cons (pe_callB (call_len_seqK K) (by rfl) T.n_len (by decide +kernel) (pa_cons (pv 2) pa_nil)) pa_nil)) (blkOk_by (N := ["_law_world", "_law_gang", "_law_forms", "_law_mine", "_law_foes_here", "_law_named_here", "_law_k"]) (sc := defScope s_foes) (by decide +kernel)) (fun _ _ _ _ _ => (pg_name (i := 6) sc_foes.nd rfl (Or.inl rfl))) (fun _ _ _ _ _ => pts_one (pt_cmpR (op_in_seqK K) (pe_ix (ix_tupK K) (pe_ix (ix_listK K) (pv 2) (pv 6) (fun _ _ => rfl)) pe_int (fun _ _ => rfl)) (pv 4) rfl)) (fun _ _ _ _ _ => (pv 6)))
        (pss_one (ps_ret (pe_op op_cat (pv 5) (pe_lc (own := [("_law_k", 6)]) (g := gName 6) rfl sc_foes.nd (pi_range1 rfl T.n_range (pa_cons (pe_callB (call_len_seqK K) (by rfl) T.n_len (by decide +kernel) (pa_cons (pv 2) pa_nil)) pa_nil)) (blkOk_by (N := ["_law_world", "_law_gang", "_law_forms", "_law_mine", "_law_foes_here", "_law_named_here", "_law_k"]) (sc := defScope s_foes) (by decide +kernel)) (fun _ _ _ _ _ => (pg_name (i := 6) sc_foes.nd rfl (Or.inl rfl))) (fun _ _ _ _ _ => pts_one (pt_cmpR (op_in_seqK K) (pv 3) (pe_ix (ix_tupK K) (pe_ix (ix_listK K) (pv 2) (pv 6) (fun _ _ => rfl)) pe_int (fun _ _ => rfl)) rfl)) (fun _ _ _ _ _ => (pv 6)))))))))), ?_⟩
    have hWe := hW.e
    have hWt := hW.w.t
    have hrm := List.mem_of_getElem? hG.t
    have hre := (hW.w.tt r hrm).e
    have eg := hG.g
    have hat : atI (wa.ts.map fun r => V.ref r.a) (ti : Int) = some (.ref r.a) := atI_nat (by rw [List.getElem?_map, hG.t]; rfl)
    have hnv : Str.ofString "never:" = Str.ofString "never" ++ Str.ofString ":" := by decide +kernel
    have hn5 : (Str.ofString "never").length ≤ 5 := by decide +kernel
    have ht8 := hO.t1.2
    have hn6 : (Str.ofString "never:").length = 6 := by decide +kernel
    have hnm := (hO.to r hrm).nm.len
    have hsz : (Str.ofString "never:").length + r.nm.length ≤ sizeLine := by rw [sizeLine_eq, hn6]; omega
    have hl62 : (((wa.ts.map fun r => V.ref r.a).length : Nat) : Int) < 2 ^ 62 := len62 (by rw [List.length_map]; omega)
    repeat' ((fail_if_success (show ∃ (_ _ : Addr) (_ : WA) (_ _ _ : Int) (_ _ : Nat) (_ : TR) (_ : SR) (_ : Str), _)); walk_at "gb step")
    refine ⟨a, g, wa, sc, bs, sp, ti, si, r, sq, Str.ofString "never", (by rw [hnv]; rfl), hW, hO, hG, hn5, fun F H1 s1 eF => ?_⟩
    have hW1 := hW.mono s1
    have hWt1 := hW1.w.t
    walk_at "gb go"
    rename_i D hD
    have hnl := @nAft_len (Str.ofString "never") r.ws
    have hw6 := (hO.to r hrm).w6
    refine lc_range (lo := 0) (n := (((wa.ts.map fun r => V.ref r.a).length : Nat) : Int).toNat) (fun i Hq => Same H1 Hq ∧ Hq D = some (.lst ((idxN wa.ts (foeA r) i).map V.int))) ⟨same_new hD, upd_same⟩ ?_ ?_
    · rintro i Hq hi ⟨s2, e2⟩
      have hi2 : i < wa.ts.length := by simpa using hi
      obtain ⟨q, hq⟩ : ∃ q, wa.ts[i]? = some q := ⟨_, List.getElem?_eq_getElem hi2⟩
      have hat2 : atI (wa.ts.map fun r => V.ref r.a) (0 + (i : Int)) = some (.ref q.a) := by
        rw [Int.zero_add]
        exact atI_nat (by rw [List.getElem?_map, hq]; rfl)
      have hqe := s2 _ _ (hW1.w.tt q (List.mem_of_getElem? hq)).e
      have hWt2 := s2 _ _ hWt1
      have eF2 := s2 _ _ eF
      have hin := inV_strs q.nm (nAft (Str.ofString "never") r.ws)
      have hsl : ((idxN wa.ts (foeA r) i).map V.int).length < sizeLine := by
        have := @idxN_len wa.ts (foeA r) i
        rw [List.length_map, sizeLine_eq]; omega
      have hsu := idxN_succ (p := foeA r) hq
      clear hl62
      walk_at "gb go"
      · rename_i c1
        rw [hsu, if_pos (show foeA r q = true from decide_eq_true c1), List.map_append, Int.zero_add]
        exact upd_same
      · rename_i c1
        rw [hsu, if_neg (show ¬ foeA r q = true from by unfold foeA; rw [decide_eq_false c1]; decide), List.append_nil]
        exact e2
    · rintro Hq ⟨s2, e2⟩
      rw [show (((wa.ts.map fun r => V.ref r.a).length : Nat) : Int).toNat = wa.ts.length by simp] at e2
      have hWt2 := s2 _ _ hWt1
      have hW2 := hW1.mono s2
      walk_at "gb go"
      rename_i D3 hD3
      clear hl62
      refine lc_range (lo := 0) (n := (((wa.ts.map fun r => V.ref r.a).length : Nat) : Int).toNat) (fun i Hr => Same Hq Hr ∧ Hr D3 = some (.lst ((idxN wa.ts (foeB r) i).map V.int))) ⟨same_new hD3, upd_same⟩ ?_ ?_
      · rintro i Hr hi ⟨s3, e3⟩
        have hi2 : i < wa.ts.length := by simpa using hi
        obtain ⟨q, hq⟩ : ∃ q, wa.ts[i]? = some q := ⟨_, List.getElem?_eq_getElem hi2⟩
        have hat2 : atI (wa.ts.map fun r => V.ref r.a) (0 + (i : Int)) = some (.ref q.a) := by
          rw [Int.zero_add]
          exact atI_nat (by rw [List.getElem?_map, hq]; rfl)
        have hqA := hW2.w.tt q (List.mem_of_getElem? hq)
        have hqe := s3 _ _ hqA.e
        have hqw := s3 _ _ hqA.w
        have hWt3 := s3 _ _ hWt2
        have hin := inV_strs (Str.ofString "never:" ++ r.nm) q.ws
        have hsl : ((idxN wa.ts (foeB r) i).map V.int).length < sizeLine := by
          have := @idxN_len wa.ts (foeB r) i
          rw [List.length_map, sizeLine_eq]; omega
        have hsu := idxN_succ (p := foeB r) hq
        walk_at "gb go"
        · rename_i c1
          rw [hsu, if_pos (show foeB r q = true from by unfold foeB; rw [← hnv]; exact decide_eq_true c1), List.map_append, Int.zero_add]
          exact upd_same
        · rename_i c1
          rw [hsu, if_neg (show ¬ foeB r q = true from by unfold foeB; rw [← hnv, decide_eq_false c1]; decide), List.append_nil]
          exact e3
      · rintro Hr ⟨s3, e3⟩
        rw [show (((wa.ts.map fun r => V.ref r.a).length : Nat) : Int).toNat = wa.ts.length by simp] at e3
        have e2r := s3 _ _ e2
        have h1 := @idxN_len wa.ts (foeA r) wa.ts.length
        have h2 := @idxN_len wa.ts (foeB r) wa.ts.length
        have hcs : ((idxN wa.ts (foeA r) wa.ts.length).map V.int).length + ((idxN wa.ts (foeB r) wa.ts.length).map V.int).length ≤ sizeLine := by rw [List.length_map, List.length_map, sizeLine_eq]; omega
        walk_at "gb go"
        rename_i p9 hp9
        refine k p9 _ _ (((s1.trans s2).trans s3).trans (same_new hp9)) ?_ (foeL_of ht8)
        rw [List.map_append]
        exact upd_same
theorem ok_meets (T : Txt K mg A) : FnOk P w K mg base CX0 3 A.f_meets A.d_meets ["_law_world", "_law_rows", "_law_gang", "_law_machine_here", "_law_marks"] (spMeets) := by
  refine T.F_meets.ok sc_meets (fun vs H Q E h => ?_) (fun cdv Ar outer s H vs Q E hr h => ?_)
  · obtain ⟨a, b, g, c, wa, sc, bs, sp, l, ti, si, r, sq, m, hs, rfl, _⟩ := h
    rfl
  · obtain ⟨a, b, g, c, wa, sc, bs, sp, l, ti, si, r, sq, m, hs, rfl, hW, hO, hb, hR, hG, hc, hl, k⟩ := h
    refine ⟨_, (pss_cons (ps_set (i := 5) sc_meets.nd rfl (Or.inl rfl) (pe_call (ok_foes T) (hr.mono (by decide)) rfl T.g_foes T.F_foes.kp T.b_foes .nil pass0 (pa_cons (pv 0) (pa_cons (pv 2) pa_nil))))
        (pss_cons (ps_for PassesOwn.never rfl (pi_listK K (pv 1)) (pg_name (i := 6) sc_meets.nd rfl (Or.inr rfl))
        (pss_one (ps_if (PW.pt (pw_and (pt_cmpR op_eq (pe_ix (ix_tupK K) (pv 6) pe_int (fun _ _ => rfl)) (pv 3) (nomark _)) (pw_and1 (pt_cmpR (op_in_seqK K) (pe_ix (ix_tupK K) (pv 6) pe_int (fun _ _ => rfl)) (pv 5) rfl)))) (pss_one (ps_if (pt_cmpR op_gt (pe_callB (call_len_seqK K) (by rfl) T.n_len (by decide +kernel) (pa_cons (pe_lc (own := [("_law_hour", 7)]) (g := gName 7) rfl sc_meets.nd (pi_listK K (pv 4)) (blkOk_by (N := ["_law_world", "_law_rows", "_law_gang", "_law_machine_here", "_law_marks", "_law_foes_here", "_law_row", "_law_hour"]) (sc := defScope s_meets) (by decide +kernel)) (fun _ _ _ _ _ => (pg_name (i := 7) sc_meets.nd rfl (Or.inl rfl))) (fun _ _ _ _ _ => pts_one (pt_chain op_le op_lt (pe_ix (ix_tupK K) (pv 6) pe_int (fun _ _ => rfl)) (pv 7) (pe_ix (ix_tupK K) (pv 6) pe_int (fun _ _ => rfl)))) (fun _ _ _ _ _ => (pv 7))) pa_nil)) pe_int (nomark _)) (pss_one (ps_ret pe_bl)) pss_nil)) pss_nil)))
        (pss_one (ps_ret pe_bl)))), ?_⟩
    repeat' ((fail_if_success (show ∃ W : Nat → Nat → L2.St → Hp → Prop, _)); walk_at "gb step")
    rename_i F us H1 s1 eF hF
    have hb1 := s1 _ _ hb
    have hR1 := hR.mono (Same.tups s1)
    have hc1 := s1 _ _ hc
    refine for_list (K := K) (a := b) (xs := l.map fun r => V.ref r.a) (fun i σ Hq => ∃ v6 v7 : Option V, σ = [some (.ref a), some (.ref b), some (.ref g), some (.int m), some (.ref c), some (.ref F), v6, v7] ∧ Same H1 Hq ∧ meetM wa.ts r (l.take i) m hs = false) ⟨_, _, rfl, Same.refl _, rfl⟩ (fun i σ Hq _ ⟨_, _, _, s, _⟩ => SqL.of (s _ _ hb1)) ?_ ?_
    · rintro i x σ Hq hi ⟨v6, v7, rfl, s2, hn⟩
      obtain ⟨q, hq, rfl⟩ := get_map hi
      have hqm := List.mem_of_getElem? hq
      have hqe := s2 _ _ (hR1.all q hqm).e
      have eF2 := s2 _ _ eF
      have hc2 := s2 _ _ hc1
      have hin := inV_ints q.us us
      walk_at "gb go"
      · rename_i c1 c2 D hD
        have hfo : q.us ∈ foesN wa.ts r wa.ts.length := by
          rw [if_neg (by decide), hin] at c2
          exact (hF.mem _).mp (of_decide_eq_true c2)
        refine lc_list (K := K) (a := c) (xs := hs.map V.int) (fun j Hr => Same Hq Hr ∧ MkL Hr D hs q j) ⟨same_new hD, ⟨upd_same⟩⟩ (fun j Hr _ h => SqL.of (h.1 _ _ hc2)) ?_ ?_
        · rintro j y Hr hj ⟨s3, hM⟩
          obtain ⟨hh, hhj, rfl⟩ := get_map hj
          have e2 := hM.e
          have hre2 := s3 _ _ hqe
          have hsl : (((hs.take j).filter fun h => decide (q.bg ≤ h) && decide (h < q.en)).map V.int).length < sizeLine := by
            have := List.length_filter_le (fun h => decide (q.bg ≤ h) && decide (h < q.en)) (hs.take j)
            rw [List.length_take] at this
            rw [List.length_map, sizeLine_eq]; omega
          have hts : hs.take (j + 1) = hs.take j ++ [hh] := by rw [List.take_succ, hhj]; rfl
          clear hM
          walk_at "gb go"
          · rename_i d1 d2
            refine ⟨?_⟩
            rw [hts, List.filter_append, List.filter_cons, if_pos (by rw [decide_eq_true d1, decide_eq_true d2]; rfl), List.map_append]
            exact upd_same
          · rename_i d1 d2
            refine ⟨?_⟩
            rw [hts, List.filter_append, List.filter_cons, if_neg (by rw [decide_eq_false d2, Bool.and_false]; decide), List.filter_nil, List.append_nil]
            exact e2
          · rename_i d1
            refine ⟨?_⟩
            rw [hts, List.filter_append, List.filter_cons, if_neg (by rw [decide_eq_false d1, Bool.false_and]; decide), List.filter_nil, List.append_nil]
            exact e2
        · rintro Hr ⟨s3, hM⟩
          have e2 := hM.e
          rw [List.length_map, List.take_length] at e2
          clear hM
          walk_at "gb go"
          · rename_i c3
            have hin2 : inMk hs q = true := by
              unfold inMk
              rw [decide_eq_true_iff]
              intro z
              rw [z] at c3
              exact absurd c3 (by decide)
            have := k Hr ((s1.trans s2).trans s3)
            rw [meet_yes hqm (by rw [decide_eq_true c1, decide_eq_true hfo, hin2]; rfl)] at this
            exact this
          · rename_i c3
            refine meet_no hn hq ?_
            have hin2 : inMk hs q = false := by
              unfold inMk
              rw [decide_eq_false_iff_not]
              intro z
              refine c3 ?_
              have := List.length_pos_iff.mpr z
              rw [List.length_map]
              omega
            rw [hin2, Bool.and_false]
      · rename_i c1 c2
        have hfo : ¬ q.us ∈ foesN wa.ts r wa.ts.length := fun z => by
          rw [if_neg (by decide), hin, decide_eq_true ((hF.mem _).mpr z)] at c2
          cases c2
        exact meet_no hn hq (by rw [decide_eq_false hfo, Bool.and_false]; rfl)
      · rename_i c1
        exact meet_no hn hq (by rw [decide_eq_false c1]; rfl)
    · rintro σ Hq ⟨v6, v7, rfl, s2, hn⟩
      rw [List.length_map, List.take_length] at hn
      walk_at "gb go"
      have := k _ (s1.trans s2)
      rw [hn] at this
      exact this
theorem ok_room (T : Txt K mg A) : FnOk P w K mg base CX0 3 A.f_room A.d_room ["_law_world", "_law_rows", "_law_gang", "_law_machine_here", "_law_marks"] (spRoomL) := by
  refine T.F_room.ok sc_room (fun vs H Q E h => ?_) (fun cdv Ar outer s H vs Q E hr h => ?_)
  · obtain ⟨a, b, g, c, wa, sc, bs, sp, l, ti, si, r, sq, m, q, x, y, hs, rfl, _⟩ := h
    rfl
  · obtain ⟨a, b, g, c, wa, sc, bs, sp, l, ti, si, r, sq, m, q, x, y, hs, rfl, hW, hO, hb, hR, hGd, hG, hm, hc, hne, hl, hk, k⟩ := h
    refine ⟨_, (pss_cons (ps_set (i := 5) sc_room.nd rfl (Or.inr rfl) (pe_ix (ix_tupK K) (pe_ix (ix_tupK K) (pe_ix (ix_tupK K) (pe_ix (ix_listK K) (pe_ix (ix_listK K) (pv 0) pe_int (fun _ _ => rfl)) (pe_ix (ix_tupK K) (pv 2) pe_int (fun _ _ => rfl)) (fun _ _ => rfl)) pe_int (fun _ _ => rfl)) (pe_ix (ix_tupK K) (pv 2) pe_int (fun _ _ => rfl)) (fun _ _ => rfl)) pe_int (fun _ _ => rfl)))
        (pss_cons (ps_setLc (i := 6) (own := [("_law_hour", 10)]) (g := gName 10) (tt := tYes) rfl sc_room.nd rfl rfl (sw_true rfl rfl rfl (by decide +kernel)) (pi_listK K (pv 4)) (blkOk_by (N := ["_law_world", "_law_rows", "_law_gang", "_law_machine_here", "_law_marks", "_law_need", "_law_lefts", "_law_best", "_law_k", "_law_count", "_law_hour", "_law_left"]) (sc := defScope s_room) (by decide +kernel)) (fun _ _ _ _ _ => (pg_name (i := 10) sc_room.nd rfl (Or.inl rfl))) (fun _ _ _ _ _ => pts_nil) (fun _ _ _ _ _ => (pe_call (ok_spare T) (hr.mono (by decide)) rfl T.g_spare T.F_spare.kp T.b_spare .nil pass0 (pa_cons (pv 0) (pa_cons (pv 1) (pa_cons (pv 3) (pa_cons (pv 10) pa_nil)))))))
        (pss_cons (ps_set (i := 7) sc_room.nd rfl (Or.inl rfl) (pe_tup (pa_cons (pe_un un_neg pe_int) (pa_cons pe_int pa_nil))))
        (pss_cons (ps_for PassesOwn.never rfl (pi_range1 rfl T.n_range (pa_cons (pe_callB (call_len_seqK K) (by rfl) T.n_len (by decide +kernel) (pa_cons (pv 5) pa_nil)) pa_nil)) (pg_name (i := 8) sc_room.nd rfl (Or.inr rfl))
        (pss_one (ps_if (pt_cmpR op_gt (pe_ix (ix_tupK K) (pv 5) (pv 8) (fun _ _ => rfl)) pe_int (nomark _)) (pss_cons (ps_set (i := 9) sc_room.nd rfl (Or.inl rfl) (pe_callB (cr_min rfl) (by rfl) T.n_min (by decide +kernel) (pa_cons (pe_lc (own := [("_law_left", 11)]) (g := gName 11) (tt := tYes) rfl sc_room.nd (pi_listK K (pv 6)) (blkOk_by (N := ["_law_world", "_law_rows", "_law_gang", "_law_machine_here", "_law_marks", "_law_need", "_law_lefts", "_law_best", "_law_k", "_law_count", "_law_hour", "_law_left"]) (sc := defScope s_room) (by decide +kernel)) (fun _ _ _ _ _ => (pg_name (i := 11) sc_room.nd rfl (Or.inl rfl))) (fun _ _ _ _ _ => pts_nil) (fun _ _ _ _ _ => (pe_op op_fdiv (pe_callB (call_max2 rfl) (by rfl) T.n_max (by decide +kernel) (pa_cons pe_int (pa_cons (pe_ix (ix_listK K) (pv 11) (pv 8) (fun _ _ => rfl)) pa_nil))) (pe_ix (ix_tupK K) (pv 5) (pv 8) (fun _ _ => rfl))))) pa_nil)))
        (pss_one (ps_if (PW.pt (pw_or (pt_cmpR op_lt (pe_ix (ix_tupK K) (pv 7) pe_int (fun _ _ => rfl)) pe_int (nomark _)) (pw_or1 (pt_cmpR op_lt (pv 9) (pe_ix (ix_tupK K) (pv 7) pe_int (fun _ _ => rfl)) (nomark _))))) (pss_one (ps_set (i := 7) sc_room.nd rfl (Or.inl rfl) (pe_tup (pa_cons (pv 9) (pa_cons (pv 8) pa_nil))))) pss_nil))) pss_nil)))
        (pss_cons (ps_if (PW.pt (pw_and (pt_cmpR op_gt (pe_ix (ix_tupK K) (pv 7) pe_int (fun _ _ => rfl)) pe_int (nomark _)) (pw_and1 (pt_cmpR (op_in_seqK K) pe_str (pe_ix (ix_tupK K) (pe_ix (ix_listK K) (pe_ix (ix_listK K) (pv 0) pe_int (fun _ _ => rfl)) (pe_ix (ix_tupK K) (pv 2) pe_int (fun _ _ => rfl)) (fun _ _ => rfl)) pe_int (fun _ _ => rfl)) rfl)))) (pss_one (ps_ret (pe_tup (pa_cons pe_int (pa_cons pe_str pa_nil))))) pss_nil)
        (pss_one (ps_ret (pv 7)))))))), ?_⟩
    have hst : L2.start ["_law_world", "_law_rows", "_law_gang", "_law_machine_here", "_law_marks", "_law_need", "_law_lefts", "_law_best", "_law_k", "_law_count", "_law_hour", "_law_left"] [V.ref a, V.ref b, V.ref g, V.int (m : Int), V.ref c] = [some (V.ref a), some (V.ref b), some (V.ref g), some (V.int (m : Int)), some (V.ref c), none, none, none, none, none, none, none] := rfl
    rw [hst]
    clear hst
    have hWe := hW.e
    have hWt := hW.w.t
    have hrm := List.mem_of_getElem? hG.t
    have hqm := List.mem_of_getElem? hG.s
    have hre := (hW.w.tt r hrm).e
    have hrs := (hW.w.tt r hrm).s
    have hrw := (hW.w.tt r hrm).w
    have hse := ((hW.w.tt r hrm).ss sq hqm).e
    have hsn := ((hW.w.tt r hrm).ss sq hqm).n
    have eg := hG.g
    have hat : atI (wa.ts.map fun r => V.ref r.a) (ti : Int) = some (.ref r.a) := atI_nat (by rw [List.getElem?_map, hG.t]; rfl)
    have hat2 : atI (r.st.map fun q => V.ref q.a) (si : Int) = some (.ref sq.a) := atI_nat (by rw [List.getElem?_map, hG.s]; rfl)
    have hso := (hO.to r hrm).st sq hqm
    have hsl3 := hso.num.len
    have hr3 := hO.r1
    have hqo := (hO.mo q (List.mem_of_getElem? hm)).num.len
    have hrl := hGd.ok.len
    walk_at "gb go"
    rename_i D hD
    refine lc_list (K := K) (a := c) (xs := hs.map V.int) (fun i Hq => Same H Hq ∧ Lfs Hq D q l m hs i) ⟨same_new hD, [], upd_same, rfl, fun p h => by cases h⟩ (fun i Hq _ h => SqL.of (h.1 _ _ hc)) ?_ ?_
    · rintro i x9 Hq hi ⟨s1, hF⟩
      obtain ⟨h, hh, rfl⟩ := get_map hi
      obtain ⟨L, eL, hL, hl1⟩ := hF.ex
      have hil : i < hs.length := (List.getElem?_eq_some_iff.mp hh).1
      have hLl : L.length ≤ 100 := by
        have := congrArg List.length hL
        rw [List.length_map, List.length_take] at this
        omega
      have hsl : (L.map fun p => V.ref p.1).length < sizeLine := by rw [List.length_map, sizeLine_eq]; omega
      have hW1 := hW.mono s1
      have hb1 := s1 _ _ hb
      have hR1 := hR.mono (Same.tups s1)
      clear hWe hWt hre hrs hrw hse hsn eg hat hat2
      walk_at "gb go"
      rename_i T fl H2 f2 hI s2 eT
      exact Lfs.snoc eL hL hl1 s2 f2 eT hI hh
    · rintro Hq ⟨s1, hF⟩
      rw [List.length_map] at hF
      walk_at "gb go"
      rename_i p hp
      obtain ⟨us, hLo⟩ := LowH.ex_ hs [] q.xs (LowH.nil (l := l) (m := (m : Int)))
      have hLo : LowH q.xs l m hs us := hLo
      obtain ⟨L, eL, hL, hl1⟩ := hF.ex
      have hLl : L.length = hs.length := by
        have := congrArg List.length hL
        rw [List.length_map, List.take_length] at this
        exact this
      rw [List.take_length] at hL
      have s2 := same_new (o := .tup [.int (-1), .int 0]) hp
      have ep := upd_same (H := Hq) (a := p) (o := .tup [.int (-1), .int 0])
      generalize upd Hq p (.tup [.int (-1), .int 0]) = H1 at s2 ep ⊢
      have eL1 := s2 _ _ eL
      have hsn1 := s2 _ _ (s1 _ _ hsn)
      have sA := s1.trans s2
      clear hF eL hp
      refine for_range (lo := 0) (n := (((sq.xs.map V.int).length : Nat) : Int).toNat) (fun i σ Hr => ∃ (T : Addr) (bc bk : Int) (v8 v9 v10 v11 : Option V), σ = [some (.ref a), some (.ref b), some (.ref g), some (.int (m : Int)), some (.ref c), some (.ref sq.na), some (.ref D), some (.ref T), v8, v9, v10, v11] ∧ Same H1 Hr ∧ Hr T = some (.tup [.int bc, .int bk]) ∧ Bst us sq.xs i bc bk) ⟨p, -1, 0, _, _, _, _, rfl, Same.refl _, ep, Bst.zero⟩ ?_ ?_
      · rintro i σ Hr hi ⟨T, bc, bk, v8, v9, v10, v11, rfl, s3, eT, hB⟩
        have hi2 : i < sq.xs.length := by simpa using hi
        have hatn : atI (sq.xs.map V.int) (0 + (i : Int)) = some (.int (sq.xs.getD i 0)) := by
          rw [Int.zero_add]
          exact atI_nat (by rw [List.getElem?_map, getD_some hi2]; rfl)
        have hn9 : sq.xs.getD i 0 ≤ 9999 := by
          have := getD_rng (i := i) hso.num
          exact this.2
        have eL3 := s3 _ _ eL1
        have hsn3 := s3 _ _ hsn1
        generalize hnn : sq.xs.getD i 0 = n at *
        clear hWe hWt hre hrs hrw hse hsn eg hat hat2 hsn1 eL1 ep
        walk_at "gb go"
        rotate_left
        · rename_i c1
          exact hB.skip (by rw [hnn]; exact c1)
        rename_i c1 D2 hD2
        refine lc_list (K := K) (a := D) (xs := L.map fun p => V.ref p.1) (fun j Hs => Same Hr Hs ∧ Hs D2 = some (.lst (((hs.map fun h => cntH q.xs l m h n i).map V.int).take j))) ⟨same_new hD2, upd_same⟩ (fun j Hs _ h => SqL.of (h.1 _ _ eL3)) ?_ ?_
        · rintro j y9 Hs hj ⟨s4, e4⟩
          obtain ⟨pp, hpp, rfl⟩ := get_map hj
          have hhj : hs[j]? = some pp.2 := by rw [← hL, List.getElem?_map, hpp]; rfl
          obtain ⟨_, fl, hI, eFl⟩ := hl1 pp (List.mem_of_getElem? hpp)
          have eFl4 := s4 _ _ (s3 _ _ (s2 _ _ eFl))
          have hfl := hI.len
          have hfi : i < fl.length := by omega
          have hat4 : atI (fl.map V.int) (0 + (i : Int)) = some (.int (fl.getD i 0)) := by
            rw [Int.zero_add]
            exact atI_nat (by rw [List.getElem?_map, getD_some hfi]; rfl)
          have hfr : fl.getD i 0 = fr q.xs l m pp.2 i := by
            rw [hI.eq, free_eq, List.getD_eq_getElem?_getD, List.getElem?_map, List.getElem?_range (by omega)]; rfl
          have hsn4 := s4 _ _ hsn3
          have hsl : (((hs.map fun h => cntH q.xs l m h n i).map V.int).take j).length < sizeLine := by rw [List.length_take, List.length_map, List.length_map, sizeLine_eq]; omega
          walk_at "gb go"
          refine lc_end ?_
          rw [List.getElem?_map, List.getElem?_map, hhj]
          show some (V.int (cntH q.xs l m pp.2 n i)) = _
          unfold cntH
          rw [← hfr]
        · rintro Hs ⟨s4, e4⟩
          rw [take_all (by simp [hLl])] at e4
          have hcl : 0 < (hs.map fun h => cntH q.xs l m h n i).length := by rw [List.length_map]; exact List.length_pos_iff.mpr hne
          have eT4 := s4 _ _ eT
          have hn0 : 0 < sq.xs.getD i 0 := by rw [hnn]; exact c1
          have hcm : ∀ c, c ∈ (hs.map fun h => cntH q.xs l m h n i) → (∀ y ∈ (hs.map fun h => cntH q.xs l m h n i), c ≤ y) → c = rmC us sq.xs i := fun c h1 h2 =>
            cnt_min hLo hGd.nn (by omega) hn0 hne (by rw [hnn]; exact h1) (by rw [hnn]; exact h2)
          walk_at "gb go"
          · rename_i mm h1 h2 c2 p9 hp9
            rw [Int.zero_add, hcm mm h1 h2]
            exact hB.take hn0 (.inl c2)
          · rename_i mm h1 h2 c2 c3 p9 hp9
            have e := hcm mm h1 h2
            rw [e] at c3
            rw [Int.zero_add, e]
            exact hB.take hn0 (.inr c3)
          · rename_i mm h1 h2 c2 c3
            exact hB.keep hn0 c2 (by rw [← hcm mm h1 h2]; exact c3)
      · rintro σ Hr ⟨T, bc, bk, v8, v9, v10, v11, rfl, s3, eT, hB⟩
        rw [show (((sq.xs.map V.int).length : Nat) : Int).toNat = sq.xs.length by simp] at hB
        have hLe := hLo.least hGd.nn hk
        obtain ⟨kk, rfl, hRo⟩ := hB.room hso.pos
        have s9 := sA.trans s3
        walk_at "gb go"
        · rename_i c1 ha p9 hp9
          have haB : apartB r = true := by unfold apartB; rw [inV_strs]; exact decide_eq_true ha
          exact k p9 1 (.str (Str.ofString "apart")) _ (s9.trans (same_new hp9)) upd_same ⟨us, bc, kk, hLe, hRo, .inl ⟨haB, c1, rfl, rfl⟩⟩
        · rename_i c1 ha
          have haB : apartB r = false := by unfold apartB; rw [inV_strs]; exact decide_eq_false ha
          exact k T bc (.int (kk : Int)) _ s9 eT ⟨us, bc, kk, hLe, hRo, .inr ⟨.inl haB, rfl, rfl⟩⟩
        · rename_i c1
          exact k T bc (.int (kk : Int)) _ s9 eT ⟨us, bc, kk, hLe, hRo, .inr ⟨.inr c1, rfl, rfl⟩⟩
theorem ok_cap (T : Txt K mg A) : FnOk P w K mg base CX0 4 A.f_cap A.d_cap ["_law_world", "_law_rows", "_law_gang", "_law_machine_here", "_law_marks", "_law_out"] (spCap) := by
  refine T.F_cap.ok sc_cap (fun vs H Q E h => ?_) (fun cdv Ar outer s H vs Q E hr h => ?_)
  · obtain ⟨a, b, g, c, o, wa, sc, bs, sp, l, ti, si, r, sq, m, q, x, y, hs, out, rfl, _⟩ := h
    rfl
  · obtain ⟨a, b, g, c, o, wa, sc, bs, sp, l, ti, si, r, sq, m, q, x, y, hs, out, rfl, hW, hO, hb, hR, hGd, hG, hm, hc, hne, hl, hk, ho, ol, k⟩ := h
    refine ⟨_, (pss_cons (ps_set (i := 6) sc_cap.nd rfl (Or.inr rfl) (pe_ix (ix_tupK K) (pe_ix (ix_listK K) (pe_ix (ix_listK K) (pv 0) pe_int (fun _ _ => rfl)) (pv 3) (fun _ _ => rfl)) pe_int (fun _ _ => rfl)))
        (pss_cons (ps_set (i := 7) sc_cap.nd rfl (Or.inl rfl) (pe_call (ok_wished T) (hr.mono (by decide)) rfl T.g_wished T.F_wished.kp T.b_wished .nil pass0 (pa_cons (pv 0) (pa_cons (pv 2) (pa_cons pe_str pa_nil)))))
        (pss_cons (ps_set (i := 8) sc_cap.nd rfl (Or.inl rfl) (pe_call (ok_wished T) (hr.mono (by decide)) rfl T.g_wished T.F_wished.kp T.b_wished .nil pass0 (pa_cons (pv 0) (pa_cons (pv 2) (pa_cons pe_str pa_nil)))))
        (pss_cons (ps_if (pt_cmpR (op_in_seqK K) (pv 3) (pv 5) rfl) (pss_one (ps_ret (pe_tup (pa_cons pe_int (pa_cons pe_str pa_nil))))) pss_nil)
        (pss_cons (ps_if (pt_cmpR op_gt (pe_callB (call_len_seqK K) (by rfl) T.n_len (by decide +kernel) (pa_cons (pe_lc (own := [("_law_name", 9)]) (g := gName 9) rfl sc_cap.nd (pi_listK K (pv 7)) (blkOk_by (N := ["_law_world", "_law_rows", "_law_gang", "_law_machine_here", "_law_marks", "_law_out", "_law_labels", "_law_needs", "_law_bars", "_law_name"]) (sc := defScope s_cap) (by decide +kernel)) (fun _ _ _ _ _ => (pg_name (i := 9) sc_cap.nd rfl (Or.inl rfl))) (fun _ _ _ _ _ => pts_one (pt_cmpR (op_notIn_seqK K) (pv 9) (pv 6) rfl)) (fun _ _ _ _ _ => (pv 9))) pa_nil)) pe_int (nomark _)) (pss_one (ps_ret (pe_tup (pa_cons pe_int (pa_cons pe_str pa_nil))))) pss_nil)
        (pss_cons (ps_if (pt_cmpR op_gt (pe_callB (call_len_seqK K) (by rfl) T.n_len (by decide +kernel) (pa_cons (pe_lc (own := [("_law_name", 9)]) (g := gName 9) rfl sc_cap.nd (pi_listK K (pv 8)) (blkOk_by (N := ["_law_world", "_law_rows", "_law_gang", "_law_machine_here", "_law_marks", "_law_out", "_law_labels", "_law_needs", "_law_bars", "_law_name"]) (sc := defScope s_cap) (by decide +kernel)) (fun _ _ _ _ _ => (pg_name (i := 9) sc_cap.nd rfl (Or.inl rfl))) (fun _ _ _ _ _ => pts_one (pt_cmpR (op_in_seqK K) (pv 9) (pv 6) rfl)) (fun _ _ _ _ _ => (pv 9))) pa_nil)) pe_int (nomark _)) (pss_one (ps_ret (pe_tup (pa_cons pe_int (pa_cons pe_str pa_nil))))) pss_nil)
        (pss_cons (ps_if (pt_val (pe_call (ok_meets T) (hr.mono (by decide)) rfl T.g_meets T.F_meets.kp T.b_meets .nil pass0 (pa_cons (pv 0) (pa_cons (pv 1) (pa_cons (pv 2) (pa_cons (pv 3) (pa_cons (pv 4) pa_nil)))))) (by intro _; rfl)) (pss_one (ps_ret (pe_tup (pa_cons pe_int (pa_cons pe_str pa_nil))))) pss_nil)
        (pss_one (ps_ret (pe_call (ok_room T) (hr.mono (by decide)) rfl T.g_room T.F_room.kp T.b_room .nil pass0 (pa_cons (pv 0) (pa_cons (pv 1) (pa_cons (pv 2) (pa_cons (pv 3) (pa_cons (pv 4) pa_nil))))))))))))))), ?_⟩
    have hst : L2.start ["_law_world", "_law_rows", "_law_gang", "_law_machine_here", "_law_marks", "_law_out", "_law_labels", "_law_needs", "_law_bars", "_law_name"] [V.ref a, V.ref b, V.ref g, V.int (m : Int), V.ref c, V.ref o] = [some (V.ref a), some (V.ref b), some (V.ref g), some (V.int (m : Int)), some (V.ref c), some (V.ref o), none, none, none, none] := rfl
    rw [hst]
    clear hst
    have hWe := hW.e
    have hWm := hW.w.m
    have hqm := List.mem_of_getElem? hm
    have hqe := (hW.w.mm q hqm).e
    have hql := (hW.w.mm q hqm).l
    have hat : atI (wa.ms.map fun r => V.ref r.a) (m : Int) = some (.ref q.a) := atI_nat (by rw [List.getElem?_map, hm]; rfl)
    have hrm := List.mem_of_getElem? hG.t
    have hws := (hO.to r hrm).w6
    have hn1 : Str.ofString "needs:" = Str.ofString "needs" ++ Str.ofString ":" := by decide +kernel
    have hn2 : Str.ofString "bars:" = Str.ofString "bars" ++ Str.ofString ":" := by decide +kernel
    have hnl := @nAft_len (Str.ofString "needs") r.ws
    have hbl := @nAft_len (Str.ofString "bars") r.ws
    repeat' ((fail_if_success (show ∃ (_ _ : Addr) (_ : WA) (_ _ _ : Int) (_ _ : Nat) (_ : TR) (_ : SR) (_ : Str), _)); walk_at "gb step")
    refine ⟨a, g, wa, sc, bs, sp, ti, si, r, sq, Str.ofString "needs", (by rw [hn1]; rfl), hW, hO, hG, (by decide +kernel), fun N H1 s1 eN => ?_⟩
    have hW1 := hW.mono s1
    have hG1 : GgAt H1 wa g ti si r sq := ⟨s1 _ _ hG.g, hG.t, hG.s⟩
    repeat' ((fail_if_success (show ∃ (_ _ : Addr) (_ : WA) (_ _ _ : Int) (_ _ : Nat) (_ : TR) (_ : SR) (_ : Str), _)); walk_at "gb step")
    refine ⟨a, g, wa, sc, bs, sp, ti, si, r, sq, Str.ofString "bars", (by rw [hn2]; rfl), hW1, hO, hG1, (by decide +kernel), fun B H2 s2 eB => ?_⟩
    have sA := s1.trans s2
    have ho2 := sA _ _ ho
    have eN2 := s2 _ _ eN
    have hql2 := sA _ _ hql
    have hin := inV_ints (m : Int) out
    clear hWe hWm hqe
    walk_at "gb go"
    · rename_i c1 p9 hp9
      have hmo : (m : Int) ∈ out := by rw [if_neg (by decide), hin] at c1; exact of_decide_eq_true c1
      exact k p9 0 _ _ (sA.trans (same_new hp9)) upd_same (.bar (barO_1 hmo))
    rename_i c1 D hD
    have hmo : ¬ (m : Int) ∈ out := by rw [if_neg (by decide), hin] at c1; exact of_decide_eq_false c1
    clear c1 hin
    refine lc_list (K := K) (a := N) (xs := (nAft (Str.ofString "needs") r.ws).map V.str) (fun i Hq => Same H2 Hq ∧ FlL Hq D (fun z => !decide (z ∈ q.lb)) (nAft (Str.ofString "needs") r.ws) i) ⟨same_new hD, ⟨upd_same⟩⟩ (fun i Hq _ h => SqL.of (h.1 _ _ eN2)) ?_ ?_
    · rintro i x9 Hq hi ⟨s3, hF⟩
      obtain ⟨z, hz, rfl⟩ := get_map hi
      have e3 := hF.e
      have hql3 := s3 _ _ hql2
      have hin := inV_strs z q.lb
      have hsl : ((((nAft (Str.ofString "needs") r.ws).take i).filter fun z => !decide (z ∈ q.lb)).map V.str).length < sizeLine := by
        have := List.length_filter_le (fun z => !decide (z ∈ q.lb)) ((nAft (Str.ofString "needs") r.ws).take i)
        rw [List.length_take] at this
        rw [List.length_map, sizeLine_eq]; omega
      clear hF
      walk_at "gb go"
      · rename_i c1
        exact FlL.no hz (by show (!decide (z ∈ q.lb)) = false; rw [decide_eq_true c1]; rfl) e3
      · rename_i c1
        exact FlL.yes hz (by show (!decide (z ∈ q.lb)) = true; rw [decide_eq_false c1]; rfl) upd_same
    · rintro Hq ⟨s3, hF⟩
      have e3 := hF.e
      rw [List.length_map, List.take_length] at e3
      have eB3 := s3 _ _ eB
      clear hF
      walk_at "gb go"
      · rename_i c1 p9 hp9
        have hnb : needB r q = false := some_all (by rw [List.length_map] at c1; omega)
        exact k p9 0 _ _ ((sA.trans s3).trans (same_new hp9)) upd_same (.bar (barO_2 hmo hnb))
      rename_i c1 D2 hD2
      have hnb : needB r q = true := none_all (by rw [List.length_map] at c1; omega)
      clear c1
      refine lc_list (K := K) (a := B) (xs := (nAft (Str.ofString "bars") r.ws).map V.str) (fun i Hr => Same Hq Hr ∧ FlL Hr D2 (fun z => decide (z ∈ q.lb)) (nAft (Str.ofString "bars") r.ws) i) ⟨same_new hD2, ⟨upd_same⟩⟩ (fun i Hr _ h => SqL.of (h.1 _ _ eB3)) ?_ ?_
      · rintro i x9 Hr hi ⟨s4, hF⟩
        obtain ⟨z, hz, rfl⟩ := get_map hi
        have e4 := hF.e
        have hql4 := s4 _ _ (s3 _ _ hql2)
        have hin := inV_strs z q.lb
        have hsl : ((((nAft (Str.ofString "bars") r.ws).take i).filter fun z => decide (z ∈ q.lb)).map V.str).length < sizeLine := by
          have := List.length_filter_le (fun z => decide (z ∈ q.lb)) ((nAft (Str.ofString "bars") r.ws).take i)
          rw [List.length_take] at this
          rw [List.length_map, sizeLine_eq]; omega
        clear hF
        walk_at "gb go"
        · rename_i c1
          exact FlL.yes hz (decide_eq_true c1) upd_same
        · rename_i c1
          exact FlL.no hz (decide_eq_false c1) e4
      · rintro Hr ⟨s4, hF⟩
        have e4 := hF.e
        rw [List.length_map, List.take_length] at e4
        have sB := (sA.trans s3).trans s4
        have hW4 := hW.mono sB
        have hb4 := sB _ _ hb
        have hR4 := hR.mono (Same.tups sB)
        have hG4 : GgAt Hr wa g ti si r sq := ⟨sB _ _ hG.g, hG.t, hG.s⟩
        have hc4 := sB _ _ hc
        clear hF
        walk_at "gb go"
        · rename_i c1 p9 hp9
          have hbb : barB r q (Str.ofString "bars") = true := some_any (by rw [List.length_map] at c1; omega)
          exact k p9 0 _ _ (sB.trans (same_new hp9)) upd_same (.bar (barO_3 hmo hnb hbb))
        · rename_i c1 H5 s5 c2 p9 hp9
          have hbb : barB r q (Str.ofString "bars") = false := none_any (by rw [List.length_map] at c1; omega)
          rw [meet_eq hk] at c2
          exact k p9 0 _ _ ((sB.trans s5).trans (same_new hp9)) upd_same (.bar (barO_4 hmo hnb hbb c2))
        · rename_i c1 H5 s5 c2 T c3 v H6 s6 eT hRm
          have hbb : barB r q (Str.ofString "bars") = false := none_any (by rw [List.length_map] at c1; omega)
          rw [meet_eq hk] at c2
          exact k T c3 v _ ((sB.trans s5).trans s6) eT (.rm (barO_5 hmo hnb hbb c2) hRm)
theorem ok_limits (T : Txt K mg A) : FnOk P w K mg base CX0 5 A.f_limits A.d_limits ["_law_world", "_law_rows", "_law_gang", "_law_pair", "_law_out"] (spLimits) := by
  refine T.F_limits.ok sc_limits (fun vs H Q E h => ?_) (fun cdv Ar outer s H vs Q E hr h => ?_)
  · obtain ⟨a, b, g, p, o, wa, sc, bs, sp, l, ti, si, r, sq, i, j, out, rfl, _⟩ := h
    rfl
  · obtain ⟨a, b, g, p, o, wa, sc, bs, sp, l, ti, si, r, sq, i, j, out, rfl, hW, hCk, hO, hb, hR, hGd, hSp, hG, hp, hij, hj, ho, ol, k⟩ := h
    refine ⟨_, (pss_cons (ps_set (i := 5) sc_limits.nd rfl (Or.inl rfl) (pe_listRg3 rfl (by rfl) T.n_list (by rfl) T.n_range (pa_cons (pe_ix (ix_tupK K) (pv 3) pe_int (fun _ _ => rfl)) (pa_cons (pe_ix (ix_tupK K) (pv 3) pe_int (fun _ _ => rfl)) (pa_cons (pe_ix (ix_listK K) (pv 0) pe_int (fun _ _ => rfl)) pa_nil)))))
        (pss_cons (ps_set (i := 6) sc_limits.nd rfl (Or.inl rfl) (pe_lst pa_nil))
        (pss_cons (ps_for PassesOwn.never rfl (pi_range1 rfl T.n_range (pa_cons (pe_callB (call_len_seqK K) (by rfl) T.n_len (by decide +kernel) (pa_cons (pe_ix (ix_listK K) (pv 0) pe_int (fun _ _ => rfl)) pa_nil)) pa_nil)) (pg_name (i := 7) sc_limits.nd rfl (Or.inl rfl))
        (pss_one (ps_expr (pe_bm PySem.F.plainAttrs_list PySem.F.slot_list_append PySem.F.type_list_append mt_append (pv 6) (pa_cons (pe_call (ok_cap T) (hr.mono (by decide)) rfl T.g_cap T.F_cap.kp T.b_cap .nil pass0 (pa_cons (pv 0) (pa_cons (pv 1) (pa_cons (pv 2) (pa_cons (pv 7) (pa_cons (pv 5) (pa_cons (pv 4) pa_nil))))))) pa_nil)))))
        (pss_one (ps_ret (pv 6)))))), ?_⟩
    have hWe := hW.e
    have hWm := hW.w.m
    have hm1 := hO.m1
    have hrg := rgc_grid hCk.b hCk.s hij hj
    have hs1 := hCk.s.1
    repeat' ((fail_if_success (show ∃ (_ _ _ : Int) (_ : Nat), _)); walk_at "gb step")
    refine ⟨_, _, _, j - i, rfl, hrg, (by omega), fun M hM => ?_⟩
    have eM : (upd H M (.lst ((List.range (j - i)).map fun k => V.int (bs + sp * (i : Int) + (k : Nat) * sp)))) M = some (.lst ((grid bs sp i j).map V.int)) := by
      rw [upd_same]
      unfold grid
      rw [List.map_map]
      congr 2
      refine List.map_congr_left fun k _ => ?_
      show V.int _ = V.int _
      congr 1
      show bs + sp * (i : Int) + (k : Int) * sp = bs + sp * ((i + k : Nat) : Int)
      rw [show ((i + k : Nat) : Int) = (i : Int) + (k : Int) by omega, Int.mul_add, Int.mul_comm (k : Int) sp]
      omega
    have sM := same_new (o := .lst ((List.range (j - i)).map fun k => V.int (bs + sp * (i : Int) + (k : Nat) * sp))) hM
    generalize upd H M (.lst ((List.range (j - i)).map fun k => V.int (bs + sp * (i : Int) + (k : Nat) * sp))) = H1 at eM sM ⊢
    walk_at "gb go"
    rename_i D hD
    have sD := same_new (o := .lst []) hD
    have eD := upd_same (H := H1) (a := D) (o := .lst [])
    have s0 := sM.trans sD
    have eM0 := sD _ _ eM
    generalize hH2 : upd H1 D (.lst []) = H2 at eD s0 eM0 ⊢
    have hD0 : H D = none := fresh_of sM hD
    have hmk := grid_mk (i := i) (j := j) hCk.s.1 hSp
    have hne := grid_ne (bs := bs) (sp := sp) hij
    have hgl := @grid_len bs sp i j
    have nMD : M ≠ D := fun z => by rw [z, eD] at eM0; injection eM0 with e1; injection e1 with e2; have := congrArg List.length e2; rw [List.length_map, hgl] at this; have e0 : ([] : List V).length = 0 := rfl; omega
    clear hWe hWm sD hH2
    refine for_range (lo := 0) (n := (((wa.ms.map fun r => V.ref r.a).length : Nat) : Int).toNat) (fun n σ Hq => ∃ v7 : Option V, σ = [some (.ref a), some (.ref b), some (.ref g), some (.ref p), some (.ref o), some (.ref M), some (.ref D), v7] ∧ SameBut D H2 Hq ∧ BdsAt Hq D wa r sq l (bs + sp * (i : Int)) (bs + sp * (j : Int)) out n) ⟨_, rfl, SameBut.refl, [], eD, rfl, (fun p h => by cases h), fun m p q h => by cases h⟩ ?_ ?_
    · rintro n σ Hq hn ⟨v7, rfl, sb, hS⟩
      have hn2 : n < wa.ms.length := by simpa using hn
      obtain ⟨q, hq⟩ : ∃ q, wa.ms[n]? = some q := ⟨_, List.getElem?_eq_getElem hn2⟩
      have sq0 : Same H Hq := but_fresh hD0 s0 sb
      have hWq := hW.mono sq0
      have hbq := sq0 _ _ hb
      have hRq := hR.mono (Same.tups sq0)
      have hGq := hG.mono sq0
      have hoq := sq0 _ _ ho
      have eMq := sb _ _ nMD eM0
      have hq0 : wa.ms[0 + n]? = some q := by rw [Nat.zero_add]; exact hq
      have hg100 : (grid bs sp i j).length ≤ 100 := by omega
      obtain ⟨L, eL, hLl, hLt, hLb⟩ := hS.ex
      have hsl : (L.map fun p => V.ref p.1).length < sizeLine := by rw [List.length_map, sizeLine_eq]; omega
      clear hS
      generalize grid bs sp i j = hs at eMq hne hmk hg100 eM0
      walk_at "gb go"
      rename_i T c1 v H3 s3 eT hBd
      rw [Nat.zero_add] at hBd
      exact BdsAt.snoc eL hLl hLt hLb s3 eT hq hBd
    · rintro σ Hq ⟨v7, rfl, sb, hS⟩
      rw [show (((wa.ms.map fun r => V.ref r.a).length : Nat) : Int).toNat = wa.ms.length by simp] at hS
      walk_at "gb go"
      exact k D _ (but_fresh hD0 s0 sb) hS
theorem ok_pairs (T : Txt K mg A) : FnOk P w K mg base CX0 2 A.f_pairs A.d_pairs ["_law_told", "_law_due"] (spPairs) := by
  refine T.F_pairs.ok sc_pairs (fun vs H Q E h => ?_) (fun cdv Ar outer s H vs Q E hr h => ?_)
  · obtain ⟨a, b, w, r, sq, l, x, y, out, rfl, _⟩ := h
    rfl
  · obtain ⟨a, b, w, r, sq, l, x, y, out, rfl, hA, hB, h6, k⟩ := h
    refine ⟨_, (pss_cons (ps_if (PW.pt (pw_or (pt_not (pt_val (pe_callB (call_isiK' K) (by rfl) T.n_isinstance (by decide +kernel) (pa_cons (pv 0) (pa_cons (pe_bltn (v := .ty "list") (by rfl) T.n_list (by decide +kernel) rfl) pa_nil))) (by intro _; rfl))) (pw_or1 (pt_cmpR op_ne (pe_callB (call_len_seqK K) (by rfl) T.n_len (by decide +kernel) (pa_cons (pv 0) pa_nil)) (pe_callB (call_len_seqK K) (by rfl) T.n_len (by decide +kernel) (pa_cons (pv 1) pa_nil)) (nomark _))))) (pss_one (ps_ret pe_bl)) pss_nil)
        (pss_cons (ps_for PassesOwn.never rfl (pi_range1 rfl T.n_range (pa_cons (pe_callB (call_len_seqK K) (by rfl) T.n_len (by decide +kernel) (pa_cons (pv 1) pa_nil)) pa_nil)) (pg_name (i := 2) sc_pairs.nd rfl (Or.inl rfl))
        (pss_cons (ps_if (PW.pt (pw_or (pt_not (pt_val (pe_callB (call_isiK' K) (by rfl) T.n_isinstance (by decide +kernel) (pa_cons (pe_ix (ix_listK K) (pv 0) (pv 2) (fun _ _ => rfl)) (pa_cons (pe_bltn (v := .ty "tuple") (by rfl) T.n_tuple (by decide +kernel) rfl) pa_nil))) (by intro _; rfl))) (pw_or1 (pt_cmpR op_ne (pe_callB (call_len_seqK K) (by rfl) T.n_len (by decide +kernel) (pa_cons (pe_ix (ix_listK K) (pv 0) (pv 2) (fun _ _ => rfl)) pa_nil)) pe_int (nomark _))))) (pss_one (ps_ret pe_bl)) pss_nil)
        (pss_cons (ps_for PassesOwn.never rfl (pi_tupK K (pe_ix (ix_listK K) (pv 0) (pv 2) (fun _ _ => rfl))) (pg_name (i := 3) sc_pairs.nd rfl (Or.inl rfl))
        (pss_one (ps_if (PW.pt (pw_or (pt_val (pe_callB (call_isiK' K) (by rfl) T.n_isinstance (by decide +kernel) (pa_cons (pv 3) (pa_cons (pe_bltn (v := .ty "bool") (by rfl) T.n_bool (by decide +kernel) rfl) pa_nil))) (by intro _; rfl)) (pw_or1 (pt_not (pt_val (pe_callB call_isiT (by rfl) T.n_isinstance (by decide +kernel) (pa_cons (pv 3) (pa_cons (pe_tup (pa_cons (pe_bltn (v := .ty "int") (by rfl) T.n_int (by decide +kernel) rfl) (pa_cons (pe_bltn (v := .ty "str") (by rfl) T.n_str (by decide +kernel) rfl) pa_nil))) pa_nil))) (by intro _; rfl)))))) (pss_one (ps_ret pe_bl)) pss_nil)))
        (pss_one (ps_if (pt_cmpR (op_neDK K hr.units) (pe_ix (ix_listK K) (pv 0) (pv 2) (fun _ _ => rfl)) (pe_ix (ix_listK K) (pv 1) (pv 2) (fun _ _ => rfl)) (nomark _)) (pss_one (ps_ret pe_bl)) pss_nil)))))
        (pss_one (ps_ret pe_bl)))), ?_⟩
    obtain ⟨L, eL, hL, tL, bL⟩ := hA.ex
    obtain ⟨M, eM, hM, tM, bM⟩ := hB.ex
    have hlM : (M.map fun p => V.ref p.1).length = w.ms.length := by rw [List.length_map, hM]
    have hlL : (L.map fun p => V.ref p.1).length = w.ms.length := by rw [List.length_map, hL]
    have hM6 : M.length ≤ 6 := by omega
    have hL6 : L.length ≤ 6 := by omega
    have hlm : L.length = M.length := by omega
    walk_at "gb go"
    refine for_range (lo := 0) (n := (((M.map fun p => V.ref p.1).length : Nat) : Int).toNat) (fun i σ Hq => ∃ v2 v3 : Option V, σ = [some (.ref a), some (.ref b), v2, v3] ∧ Same H Hq) ⟨_, _, rfl, Same.refl _⟩ ?_ ?_
    · rintro i σ Hq hi ⟨v2, v3, rfl, s1⟩
      have hi3 : i < M.length := by rw [List.length_map] at hi; omega
      obtain ⟨pM, hpM⟩ : ∃ p, M[i]? = some p := ⟨_, List.getElem?_eq_getElem hi3⟩
      obtain ⟨pL, hpL⟩ : ∃ p, L[i]? = some p := ⟨_, List.getElem?_eq_getElem (by omega)⟩
      obtain ⟨q, hq⟩ : ∃ q, w.ms[i]? = some q := ⟨_, List.getElem?_eq_getElem (by omega)⟩
      have b1 := bL i pL q hpL hq
      have b2 := bM i pM q hpM hq
      obtain ⟨e1, e2⟩ := b1.uniq b2
      have hat1 : atI (L.map fun p => V.ref p.1) (0 + (i : Int)) = some (.ref pL.1) := by
        rw [Int.zero_add]
        exact atI_nat (by rw [List.getElem?_map, hpL]; rfl)
      have hat2 : atI (M.map fun p => V.ref p.1) (0 + (i : Int)) = some (.ref pM.1) := by
        rw [Int.zero_add]
        exact atI_nat (by rw [List.getElem?_map, hpM]; rfl)
      have eL1 := s1 _ _ eL
      have eM1 := s1 _ _ eM
      have t1 := s1 _ _ (tL pL (List.mem_of_getElem? hpL))
      have t2 := s1 _ _ (tM pM (List.mem_of_getElem? hpM))
      rw [← e1, ← e2] at t2
      have kd := b1.kind
      generalize pL.2.1 = c at t1 t2
      generalize pL.2.2 = v at t1 t2 kd
      clear b1 b2 e1 e2 bL bM tL tM hlM hlL
      rcases kd with ⟨n, rfl⟩ | ⟨z, hz, rfl⟩
      · walk_at "gb go"
        refine for_tup (K := K) (a := pL.1) (xs := [V.int c, V.int n]) (fun i2 σ Hr => ∃ v3 : Option V, σ = [some (.ref a), some (.ref b), some (.int (0 + (i : Int))), v3] ∧ Same Hq Hr) ⟨_, rfl, Same.refl _⟩ (fun i2 σ Hr _ ⟨_, _, s⟩ => SqT.of (s _ _ t1)) ?_ ?_
        · rintro i2 x9 σ Hr hi2 ⟨v3, rfl, s2⟩
          have hx : x9 = V.int c ∨ x9 = V.int n := by
            have := List.mem_of_getElem? hi2
            simpa using this
          rcases hx with rfl | rfl
          · walk_at "gb go"
            skip
          · walk_at "gb go"
            skip
        · rintro σ Hr ⟨v3, rfl, s2⟩
          have eL2 := s2 _ _ eL1
          have eM2 := s2 _ _ eM1
          obtain ⟨d, d1, d2, d3, d4⟩ := eqD_two (n := 1) (SqT.of (s2 _ _ t1)) (SqT.of (s2 _ _ t2)) (.cons (.int _) (.cons (.int _) .nil)) (by decide)
          repeat' ((fail_if_success (show ite _ _ _)); walk_at "gb step")
          rw [d4]
          walk_at "gb go"
          skip
      · have hzo := List.all_eq_true.mp five_ok z hz
        walk_at "gb go"
        refine for_tup (K := K) (a := pL.1) (xs := [V.int c, V.str z]) (fun i2 σ Hr => ∃ v3 : Option V, σ = [some (.ref a), some (.ref b), some (.int (0 + (i : Int))), v3] ∧ Same Hq Hr) ⟨_, rfl, Same.refl _⟩ (fun i2 σ Hr _ ⟨_, _, s⟩ => SqT.of (s _ _ t1)) ?_ ?_
        · rintro i2 x9 σ Hr hi2 ⟨v3, rfl, s2⟩
          have hx : x9 = V.int c ∨ x9 = V.str z := by
            have := List.mem_of_getElem? hi2
            simpa using this
          rcases hx with rfl | rfl
          · walk_at "gb go"
            skip
          · walk_at "gb go"
            skip
        · rintro σ Hr ⟨v3, rfl, s2⟩
          have eL2 := s2 _ _ eL1
          have eM2 := s2 _ _ eM1
          obtain ⟨d, d1, d2, d3, d4⟩ := eqD_two (n := 1) (SqT.of (s2 _ _ t1)) (SqT.of (s2 _ _ t2)) (.cons (.int _) (.cons (.str hzo) .nil)) (by decide)
          repeat' ((fail_if_success (show ite _ _ _)); walk_at "gb step")
          rw [d4]
          walk_at "gb go"
          skip
    · rintro σ Hq ⟨v2, v3, rfl, s1⟩
      walk_at "gb go"
      exact k _ s1
theorem ok_right (T : Txt K mg A) : FnOk P w K mg base CX0 12 A.f_right A.d_right ["_law_world", "_law_rows", "_law_takes", "_law_gang", "_law_pair", "_law_out"] (spRight7 A) := by
  refine T.F_right.ok sc_right (fun vs H Q E h => ?_) (fun cdv Ar outer s H vs Q E hr h => ?_)
  · obtain ⟨a, b, x, g, p, o, cl, wa, sc, bs, sp, l, ti, si, r, sq, i, j, out, rfl, _⟩ := h
    rfl
  · obtain ⟨a, b, x, g, p, o, cl, wa, sc, bs, sp, l, ti, si, r, sq, i, j, out, rfl, hQ, hCk, hO, hG, hSp, hij, hj, ol, k⟩ := h
    refine ⟨_, (pss_cons (ps_set (i := 6) sc_right.nd rfl (Or.inl rfl) (pe_call (ok_limits T) (hr.mono (by decide)) rfl T.g_limits T.F_limits.kp T.b_limits .nil pass0 (pa_cons (pv 0) (pa_cons (pv 1) (pa_cons (pv 3) (pa_cons (pv 4) (pa_cons (pv 5) pa_nil)))))))
        (pss_cons (ps_set (i := 7) sc_right.nd rfl (Or.inl rfl) (pe_make T.mk_Span (ok_Span_init T) (hr.mono (by decide)) rfl T.g_Span T.b_Span_init .nil passL (pa_cons (pe_ix (ix_tupK K) (pv 4) pe_int (fun _ _ => rfl)) (pa_cons (pe_ix (ix_tupK K) (pv 4) pe_int (fun _ _ => rfl)) pa_nil))))
        (pss_cons (ps_set (i := 8) sc_right.nd rfl (Or.inl rfl) (pe_call (ok_bounds T) (hr.mono (by decide)) rfl T.g_bounds T.F_bounds.kp T.b_bounds .nil pass0 (pa_cons (pv 2) (pa_cons (pv 3) (pa_cons (pv 7) (pa_cons (pv 5) pa_nil))))))
        (pss_cons (ps_if (pt_not (pt_val (pe_call (ok_pairs T) (hr.mono (by decide)) rfl T.g_pairs T.F_pairs.kp T.b_pairs .nil pass0 (pa_cons (pv 8) (pa_cons (pv 6) pa_nil))) (by intro _; rfl))) (pss_one (ps_ret pe_bl)) pss_nil)
        (pss_cons (ps_asg (pe_tup (pa_cons pe_int (pa_cons pe_str pa_nil))) (pg_sub (pv 8) pe_int set_list))
        (pss_cons (ps_if (pt_not (pt_val (pe_call (ok_pairs T) (hr.mono (by decide)) rfl T.g_pairs T.F_pairs.kp T.b_pairs .nil pass0 (pa_cons (pe_call (ok_bounds T) (hr.mono (by decide)) rfl T.g_bounds T.F_bounds.kp T.b_bounds .nil pass0 (pa_cons (pv 2) (pa_cons (pv 3) (pa_cons (pv 7) (pa_cons (pv 5) pa_nil))))) (pa_cons (pv 6) pa_nil))) (by intro _; rfl))) (pss_one (ps_ret pe_bl)) pss_nil)
        (pss_cons (ps_if (pt_cmpR op_eq (pe_callB (call_len_seqK K) (by rfl) T.n_len (by decide +kernel) (pa_cons (pv 5) pa_nil)) pe_int (nomark _)) (pss_one (ps_ret (pe_call (ok_pairs T) (hr.mono (by decide)) rfl T.g_pairs T.F_pairs.kp T.b_pairs .nil pass0 (pa_cons (pe_call (ok_bounds T) (hr.mono (by decide)) rfl T.g_bounds T.F_bounds.kp (T.e_bounds.choose_spec).2 (T.e_bounds.choose_spec).1 pass0 (pa_cons (pv 2) (pa_cons (pv 3) (pa_cons (pv 7) pa_nil)))) (pa_cons (pv 6) pa_nil))))) pss_nil)
        (pss_one (ps_ret pe_bl))))))))), ?_⟩
    have hst : L2.start ["_law_world", "_law_rows", "_law_takes", "_law_gang", "_law_pair", "_law_out", "_law_due", "_law_span_here", "_law_told"] [V.ref a, V.ref b, V.ref x, V.ref g, V.ref p, V.ref o] = [some (V.ref a), some (V.ref b), some (V.ref x), some (V.ref g), some (V.ref p), some (V.ref o), none, none, none] := rfl
    rw [hst]
    clear hst
    have hW := hQ.W
    have hb := hQ.b
    have hR := hQ.R
    have hGg := hQ.G
    have hp := hQ.p
    have ho := hQ.o
    have hs1 := hCk.s.1
    have h0i := lsum_nn (i := i) hs1
    have hle : bs + sp * (i : Int) ≤ bs + sp * (j : Int) := by have := (mul_lt (i := i) (j := j) hs1).mpr hij; omega
    have h0b : 0 ≤ bs + sp * (i : Int) := by have := hCk.b.1; omega
    have hm6 := hO.m1.2
    repeat' ((fail_if_success (show ∃ (_ _ _ _ _ : Addr) (_ : WA) (_ : List KR), _)); walk_at "gb step")
    rename_i D H1 s1 hD y dy H2 hy s2 ey
    try dsimp only [List.set]
    have hQ2 := (hQ.mono s1).mono s2
    have hD2 := hD.mono s2
    have s12 := s1.trans s2
    refine ⟨_, _, _, _, _, _, _, _, _, _, _, _, _, _, rfl, hQ2.bq hO hG ey (SqT.of hQ2.o) ol, fun N1 H3 n1 s3 hB1 => ?_⟩
    clear hW hb hR hGg hp ho hQ hD hle h0b h0i hs1 hy s1 s2
    have hD3 := hD2.mono s3
    repeat' ((fail_if_success (show ∃ (_ _ : Addr) (_ : WA) (_ : TR), _)); walk_at "gb step")
    try dsimp only [List.set]
    refine ⟨_, _, _, _, _, _, _, _, _, rfl, hB1, hD3, hm6, fun H4 s4 => ?_⟩
    obtain ⟨L, eL, hL, tL, _⟩ := hB1.ex
    have eL4 := s4 _ _ eL
    have h1m := hO.m1.1
    obtain ⟨p0, L0, rfl⟩ : ∃ p0 L0, L = p0 :: L0 := by
      cases L with
      | nil => rw [← hL] at h1m; exact absurd h1m (by decide)
      | cons p0 L0 => exact ⟨p0, L0, rfl⟩
    clear hB1 tL hL eL hD3
    walk_at "gb go"
    refine ⟨ixN_of (j := 0) (by rw [List.length_map]; exact Nat.succ_pos _), ?_⟩
    rename_i q5 hq5
    have s5 : Same H2 (upd (upd H4 q5 (.tup [.int 7, .str (Str.ofString "near")])) N1 (.lst (((p0 :: L0).map fun p => V.ref p.1).set 0 (.ref q5)))) := by walk_at "gb same"
    generalize (upd (upd H4 q5 (.tup [.int 7, .str (Str.ofString "near")])) N1 (.lst (((p0 :: L0).map fun p => V.ref p.1).set 0 (.ref q5)))) = H6 at s5 ⊢
    have hQ6 := hQ2.mono s5
    have hD6 := hD2.mono s5
    have ey6 := s5 _ _ ey
    have s16 := s12.trans s5
    clear hQ2 hD2 ey s5 hq5 eL4 s4 s3 n1 s12 h1m
    repeat' ((fail_if_success (show ∃ (_ _ _ _ _ : Addr) (_ : WA) (_ : List KR), _)); walk_at "gb step")
    try dsimp only [List.set]
    refine ⟨_, _, _, _, _, _, _, _, _, _, _, _, _, _, rfl, hQ6.bq hO hG ey6 (SqT.of hQ6.o) ol, fun N2 H7 n2 s7 hB2 => ?_⟩
    have hD7 := hD6.mono s7
    repeat' ((fail_if_success (show ∃ (_ _ : Addr) (_ : WA) (_ : TR), _)); walk_at "gb step")
    try dsimp only [List.set]
    refine ⟨_, _, _, _, _, _, _, _, _, rfl, hB2, hD7, hm6, fun H8 s8 => ?_⟩
    have hQ8 := (hQ6.mono s7).mono s8
    have hD8 := hD7.mono s8
    have ey8 := s8 _ _ (s7 _ _ ey6)
    have s18 := (s16.trans s7).trans s8
    have ho8 := hQ8.o
    clear hQ6 hD6 ey6 s16 hD7 s7 s8 hB2
    repeat' ((fail_if_success (show ite _ _ _)); walk_at "gb step")
    rw [if_neg (show ¬ ((!true) = true) by decide)]
    repeat' ((fail_if_success (show ite _ _ _)); walk_at "gb step")
    refine iteD (fun c1 => ?_) (fun c1 => ?_)
    · skip
      have h0 : out = [] := by
        have c2 : ((out.map V.int).length : Int) = 0 := V.int.inj c1
        simpa using c2
      repeat' ((fail_if_success (show ∃ (_ _ _ _ _ : Addr) (_ : WA) (_ : List KR), _)); walk_at "gb step")
      try dsimp only [List.set]
      have hod : SqT K H8 A.dt0_bounds (out.map V.int) := by rw [h0]; exact T.sq_dt0_bounds H8
      refine ⟨_, _, _, _, _, _, _, _, _, _, _, _, _, _, rfl, hQ8.bq hO hG ey8 hod ol, fun N3 H9 n3 s9 hB3 => ?_⟩
      have hD9 := hD8.mono s9
      repeat' ((fail_if_success (show ∃ (_ _ : Addr) (_ : WA) (_ : TR), _)); walk_at "gb step")
      try dsimp only [List.set]
      refine ⟨_, _, _, _, _, _, _, _, _, rfl, hB3, hD9, hm6, fun H10 s10 => ?_⟩
      walk_at "gb go"
      exact k _ ((s18.trans s9).trans s10)
    · walk_at "gb go"
      exact k _ s18
theorem ok_gangs (T : Txt K mg A) : FnOk P w K mg base CX0 1 A.f_gangs A.d_gangs ["_law_world"] (spGangs) := by
  refine T.F_gangs.ok sc_gangs (fun vs H Q E h => ?_) (fun cdv Ar outer s H vs Q E hr h => ?_)
  · obtain ⟨a, wa, sc, bs, sp, rfl, _⟩ := h
    rfl
  · obtain ⟨a, wa, sc, bs, sp, rfl, hW, hO, k⟩ := h
    refine ⟨_, (pss_cons (ps_set (i := 1) sc_gangs.nd rfl (Or.inl rfl) (pe_lst pa_nil))
        (pss_cons (ps_for PassesOwn.never rfl (pi_range1 rfl T.n_range (pa_cons (pe_callB (call_len_seqK K) (by rfl) T.n_len (by decide +kernel) (pa_cons (pe_ix (ix_listK K) (pv 0) pe_int (fun _ _ => rfl)) pa_nil)) pa_nil)) (pg_name (i := 2) sc_gangs.nd rfl (Or.inl rfl))
        (pss_one (ps_for PassesOwn.never rfl (pi_range1 rfl T.n_range (pa_cons (pe_callB (call_len_seqK K) (by rfl) T.n_len (by decide +kernel) (pa_cons (pe_ix (ix_tupK K) (pe_ix (ix_listK K) (pe_ix (ix_listK K) (pv 0) pe_int (fun _ _ => rfl)) (pv 2) (fun _ _ => rfl)) pe_int (fun _ _ => rfl)) pa_nil)) pa_nil)) (pg_name (i := 3) sc_gangs.nd rfl (Or.inl rfl))
        (pss_one (ps_expr (pe_bm PySem.F.plainAttrs_list PySem.F.slot_list_append PySem.F.type_list_append mt_append (pv 1) (pa_cons (pe_tup (pa_cons (pv 2) (pa_cons (pv 3) pa_nil))) pa_nil)))))))
        (pss_one (ps_ret (pv 1))))), ?_⟩
    have hWe := hW.e
    have hWt := hW.w.t
    have ht8 := hO.t1.2
    walk_at "gb go"
    rename_i D hD
    have s0 := same_new (o := .lst []) hD
    have eD := upd_same (H := H) (a := D) (o := .lst [])
    generalize upd H D (.lst []) = H1 at s0 eD ⊢
    refine for_range (lo := 0) (n := (((wa.ts.map fun r => V.ref r.a).length : Nat) : Int).toNat) (fun i σ Hq => ∃ v2 v3 : Option V, σ = [some (.ref a), some (.ref D), v2, v3] ∧ SameBut D H1 Hq ∧ GsL Hq D wa (3 * i)) ⟨_, _, rfl, SameBut.refl, [], eD, Nat.le_refl _, fun p h => by cases h⟩ ?_ ?_
    · rintro i σ Hq hi ⟨v2, v3, rfl, sb, hS⟩
      have hi2 : i < wa.ts.length := by simpa using hi
      obtain ⟨r, hr⟩ : ∃ r, wa.ts[i]? = some r := ⟨_, List.getElem?_eq_getElem hi2⟩
      have hrm := List.mem_of_getElem? hr
      have sq0 : Same H Hq := but_fresh hD s0 sb
      have hWe1 := sq0 _ _ hWe
      have hWt1 := sq0 _ _ hWt
      have hrA := (hW.mono sq0).w.tt r hrm
      have hre := hrA.e
      have hrs := hrA.s
      have hst3 := (hO.to r hrm).s1.2
      have hat : atI (wa.ts.map fun r => V.ref r.a) (0 + (i : Int)) = some (.ref r.a) := by
        rw [Int.zero_add]
        exact atI_nat (by rw [List.getElem?_map, hr]; rfl)
      walk_at "gb go"
      refine for_range (lo := 0) (n := (((r.st.map fun q => V.ref q.a).length : Nat) : Int).toNat) (fun j σ Hr => ∃ v3 : Option V, σ = [some (.ref a), some (.ref D), some (.int (0 + (i : Int))), v3] ∧ SameBut D H1 Hr ∧ GsL Hr D wa (3 * i + j)) ⟨_, rfl, sb, hS⟩ ?_ ?_
      · rintro j σ Hr hj ⟨v3, rfl, sb2, hS2⟩
        have hj2 : j < r.st.length := by simpa using hj
        obtain ⟨sq, hsq⟩ : ∃ sq, r.st[j]? = some sq := ⟨_, List.getElem?_eq_getElem hj2⟩
        obtain ⟨L, eL, hLl, hLt⟩ := hS2.ex
        have hsl : (L.map fun p => V.ref p.1).length < sizeLine := by rw [List.length_map, sizeLine_eq]; omega
        clear hS2 hS
        walk_at "gb go"
        rename_i T hT
        exact GsL.snoc (H := Hr) (H2 := upd Hr T (.tup [.int (0 + (i : Int)), .int (0 + (j : Int))])) (T := T) (ti := i) (si := j) eL hLl hLt (same_new hT) (by rw [upd_same, Int.zero_add, Int.zero_add]) hr hsq
      · rintro σ Hr ⟨v3, rfl, sb2, hS2⟩
        rw [show (((r.st.map fun q => V.ref q.a).length : Nat) : Int).toNat = r.st.length by simp] at hS2
        walk_at "gb go"
        exact hS2.le (by omega)
    · rintro σ Hq ⟨v2, v3, rfl, sb, hS⟩
      rw [show (((wa.ts.map fun r => V.ref r.a).length : Nat) : Int).toNat = wa.ts.length by simp] at hS
      walk_at "gb go"
      exact k D _ (but_fresh hD s0 sb) (hS.le (by omega))
theorem ok_law (T : Txt K mg A) (TB : LamX.TabB base mg A.co_check_rows A.tb_check_rows) : FnOk P w K mg base CX0 17 A.f_law A.d_law ["_law_script"] (spLaw A K) := by
  refine T.F_law.ok sc_law (fun vs H Q E h => ?_) (fun cdv Ar outer s H vs Q E hr h => ?_)
  · obtain ⟨sc, ns, rfl, _⟩ := h
    rfl
  · obtain ⟨sc, ns, rfl, hS, hl, hb, hT, k⟩ := h
    refine ⟨_, (pss_cons (ps_set (i := 1) sc_law.nd rfl (Or.inr rfl) (pe_call (ok_seeded T) (hr.mono (by decide)) rfl T.g_seeded T.F_seeded.kp T.b_seeded .nil pass0 (pa_cons (pv 0) pa_nil)))
        (pss_cons (ps_set (i := 2) sc_law.nd rfl (Or.inr rfl) (pe_call (ok_made T) (hr.mono (by decide)) rfl T.g_made T.F_made.kp T.b_made .nil pass0 (pa_cons (pv 1) (pa_cons (pe_op op_add pe_int (pe_op op_mulX pe_int (pe_callTy call_int1 (by rfl) T.n_int (by decide +kernel) (pa_cons (pe_cmpR op_eq (pe_call (ok_draw T) (hr.mono (by decide)) rfl T.g_draw T.F_draw.kp T.b_draw .nil pass0 (pa_cons (pv 1) (pa_cons pe_int pa_nil))) pe_int (nomark _)) pa_nil)))) pa_nil))))
        (pss_cons (ps_set (i := 2) sc_law.nd rfl (Or.inr rfl) (pe_op op_cat (pv 2) (pe_call (ok_clock T) (hr.mono (by decide)) rfl T.g_clock T.F_clock.kp T.b_clock .nil pass0 (pa_cons (pv 1) pa_nil))))
        (pss_cons (ps_setLc (i := 3) (own := [("_law_k", 11)]) (g := gName 11) (tt := tYes) rfl sc_law.nd rfl rfl (sw_true rfl rfl rfl (by decide +kernel)) (pi_range1 rfl T.n_range (pa_cons (pe_call (ok_draw T) (hr.mono (by decide)) rfl T.g_draw T.F_draw.kp T.b_draw .nil pass0 (pa_cons (pv 1) (pa_cons pe_int pa_nil))) pa_nil)) (blkOk_by (N := ["_law_script", "_law_pool", "_law_world", "_law_rows", "_law_extra", "_law_pair", "_law_out", "_law_cluster", "_law_takes", "_law_more", "_law_gang", "_law_k"]) (sc := defScope s_law) (by decide +kernel)) (fun _ _ _ _ _ => (pg_name (i := 11) sc_law.nd rfl (Or.inl rfl))) (fun _ _ _ _ _ => pts_nil) (fun _ _ _ _ _ => (pe_call (ok_taken T) (hr.mono (by decide)) rfl T.g_taken T.F_taken.kp T.b_taken .nil pass0 (pa_cons (pv 1) (pa_cons (pv 2) pa_nil)))))
        (pss_cons (ps_setLc (i := 4) (own := [("_law_k", 11)]) (g := gName 11) (tt := tYes) rfl sc_law.nd rfl rfl (sw_true rfl rfl rfl (by decide +kernel)) (pi_range1 rfl T.n_range (pa_cons (pe_op op_add pe_int (pe_call (ok_draw T) (hr.mono (by decide)) rfl T.g_draw T.F_draw.kp T.b_draw .nil pass0 (pa_cons (pv 1) (pa_cons pe_int pa_nil)))) pa_nil)) (blkOk_by (N := ["_law_script", "_law_pool", "_law_world", "_law_rows", "_law_extra", "_law_pair", "_law_out", "_law_cluster", "_law_takes", "_law_more", "_law_gang", "_law_k"]) (sc := defScope s_law) (by decide +kernel)) (fun _ _ _ _ _ => (pg_name (i := 11) sc_law.nd rfl (Or.inl rfl))) (fun _ _ _ _ _ => pts_nil) (fun _ _ _ _ _ => (pe_call (ok_taken T) (hr.mono (by decide)) rfl T.g_taken T.F_taken.kp T.b_taken .nil pass0 (pa_cons (pv 1) (pa_cons (pv 2) pa_nil)))))
        (pss_cons (ps_set (i := 5) sc_law.nd rfl (Or.inl rfl) (pe_call (ok_span T) (hr.mono (by decide)) rfl T.g_span T.F_span.kp T.b_span .nil pass0 (pa_cons (pv 1) (pa_cons (pv 2) pa_nil))))
        (pss_cons (ps_set (i := 6) sc_law.nd rfl (Or.inl rfl) (pe_callTy call_tuple_of (by rfl) T.n_tuple (by decide +kernel) (pa_cons (pe_lc (own := [("_law_k", 11)]) (g := gName 11) rfl sc_law.nd (pi_range1 rfl T.n_range (pa_cons (pe_callB (call_len_seqK K) (by rfl) T.n_len (by decide +kernel) (pa_cons (pe_ix (ix_listK K) (pv 2) pe_int (fun _ _ => rfl)) pa_nil)) pa_nil)) (blkOk_by (N := ["_law_script", "_law_pool", "_law_world", "_law_rows", "_law_extra", "_law_pair", "_law_out", "_law_cluster", "_law_takes", "_law_more", "_law_gang", "_law_k"]) (sc := defScope s_law) (by decide +kernel)) (fun _ _ _ _ _ => (pg_name (i := 11) sc_law.nd rfl (Or.inl rfl))) (fun _ _ _ _ _ => pts_one (by exact (pt_cmpR op_eq (pe_call (ok_draw T) (hr.mono (by decide)) rfl T.g_draw T.F_draw.kp T.b_draw .nil pass0 (pa_cons (pv 1) (pa_cons pe_int pa_nil))) pe_int (nomark _)))) (fun _ _ _ _ _ => (pv 11))) pa_nil)))
        (pss_cons (ps_set (i := 7) sc_law.nd rfl (Or.inl rfl) (pe_call (ok_built T TB) (hr.mono (by decide)) rfl T.g_built T.F_built.kp T.b_built .nil pass0 (pa_cons (pv 2) pa_nil)))
        (pss_cons (ps_set (i := 8) sc_law.nd rfl (Or.inl rfl) (pe_make T.mk_Takes (ok_Takes_init T) (hr.mono (by decide)) rfl T.g_Takes T.b_Takes_init .nil pass0 (pa_cons (pv 7) (pa_cons (pe_callTy call_list_of (by rfl) T.n_list (by decide +kernel) (pa_cons (pv 3) pa_nil)) pa_nil))))
        (pss_cons (ps_set (i := 9) sc_law.nd rfl (Or.inl rfl) (pe_op (op_ownL T.me_Takes_add T.sf_Takes T.l_Takes_add (ok_Takes_add T) (hr.mono (by decide)) T.b_Takes_add pass0) (pv 8) (pe_callTy call_list_of (by rfl) T.n_list (by decide +kernel) (pa_cons (pv 4) pa_nil))))
        (pss_cons (ps_for PassesOwn.never rfl (pi_listK K (pe_slice sl_list (pe_call (ok_gangs T) (hr.mono (by decide)) rfl T.g_gangs T.F_gangs.kp T.b_gangs .nil pass0 (pa_cons (pv 2) pa_nil)) po_none (po_some pe_int))) (pg_name (i := 10) sc_law.nd rfl (Or.inl rfl))
        (pss_cons (ps_if (pt_not (pt_val (pe_call (ok_right T) (hr.mono (by decide)) rfl T.g_right T.F_right.kp T.b_right .nil pass0 (pa_cons (pv 2) (pa_cons (pv 3) (pa_cons (pv 8) (pa_cons (pv 10) (pa_cons (pv 5) (pa_cons (pv 6) pa_nil))))))) (by intro _; rfl))) (pss_one (ps_ret pe_bl)) pss_nil)
        (pss_cons (ps_if (pt_not (pt_val (pe_call (ok_right T) (hr.mono (by decide)) rfl T.g_right T.F_right.kp T.b_right .nil pass0 (pa_cons (pv 2) (pa_cons (pe_op op_cat (pv 3) (pv 4)) (pa_cons (pv 9) (pa_cons (pv 10) (pa_cons (pv 5) (pa_cons (pe_tup pa_nil) pa_nil))))))) (by intro _; rfl))) (pss_one (ps_ret pe_bl)) pss_nil)
        (pss_one (ps_if (pt_not (pt_val (pe_call (ok_right T) (hr.mono (by decide)) rfl T.g_right T.F_right.kp T.b_right .nil pass0 (pa_cons (pv 2) (pa_cons (pv 3) (pa_cons (pv 8) (pa_cons (pv 10) (pa_cons (pv 5) (pa_cons (pe_tup pa_nil) pa_nil))))))) (by intro _; rfl))) (pss_one (ps_ret pe_bl)) pss_nil)))))
        (pss_one (ps_ret pe_bl))))))))))))), ?_⟩
    have hst : L2.start ["_law_script", "_law_pool", "_law_world", "_law_rows", "_law_extra", "_law_pair", "_law_out", "_law_cluster", "_law_takes", "_law_more", "_law_gang", "_law_k"] [V.ref sc] = [some (V.ref sc), none, none, none, none, none, none, none, none, none, none, none] := rfl
    rw [hst]
    clear hst
    repeat' ((fail_if_success (show P3 _ _ ∧ _)); walk_at "gb step")
    rename_i p H1 s1 P1 fp
    have hT1 : LamX.Tabs [(A.tb_check_rows, GL.lamQ "check_rows")] H1 := tabs_same s1 hT
    clear hS hb hT
    repeat' ((fail_if_success (show ∃ (_ _ : List V), _)); walk_at "gb step")
    rename_i r0 H2 a0 a1 P2 s2 wd0 wa sc2 H3 hW hO hs1 hs2 hNe P3' s3 l bs sp H4 nlp el4 hCk P4 s4
    try dsimp only [List.set]
    have hW4 := hW.but hNe P3' s4
    have hT4 := tabs_p3 s4 P3' (tabs_p3 s3 P2 (tabs_p3 s2 P1 hT1))
    refine ⟨_, _, rfl, rfl, hW4.e, el4, (by rw [sizeLine_eq]; simp), fun wd hwd => ?_⟩
    have hW7 : Wd7 (upd H4 wd (.lst ([.ref wa.ra, .ref wa.ma, .ref wa.ga, .ref wa.ta, .int sc2] ++ [.int bs, .int sp]))) wd wa sc2 bs sp := ⟨upd_same, hW4.w.ext (ext_same (same_new hwd))⟩
    have s5 := same_new (o := .lst ([.ref wa.ra, .ref wa.ma, .ref wa.ga, .ref wa.ta, .int sc2] ++ [.int bs, .int sp])) hwd
    generalize upd H4 wd (.lst ([.ref wa.ra, .ref wa.ma, .ref wa.ga, .ref wa.ta, .int sc2] ++ [.int bs, .int sp])) = H5 at s5 hW7 ⊢
    have P5 := P4.mono s5
    have hT5 := tabs_same s5 hT4
    have hN7 : WNe p wd wa := ⟨P4.nn hwd, hNe.r, hNe.m, hNe.g, hNe.t⟩
    clear hW hW4 hT4 hNe hT1 s1 s2 s3 s4 s5 P1 P2 P3' P4 el4 nlp hwd a0 a1
    walk_at "gb go"
    rename_i r7 H7 c0 c1 P7 s7 D hD
    have hW8 := hW7.but hN7 P5 s7
    have hT8 := tabs_p3 s7 P5 hT5
    clear hW7 hT5 P5 s7
    have nD := P7.nn hD
    refine lc_range (lo := 0) (n := r7.toNat) (fun i Hq => P3 Hq p ∧ SameBut p H7 Hq ∧ Rows7 Hq D wa bs sp i) ⟨P7.mono (same_new hD), (same_new hD).but, [], upd_same, rfl, ⟨fun r h => by cases h⟩, fun r h => by cases h⟩ ?_ ?_
    · rintro i Hq hi ⟨Pq, sb, hR⟩
      obtain ⟨rl, e, hrl, ha, ho⟩ := hR.ex
      have hsl : (rl.map fun r => V.ref r.a).length < sizeLine := by rw [List.length_map, sizeLine_eq]; omega
      have hWq := hW8.but hN7 P7 sb
      clear hR
      walk_at "gb go"
      rename_i r H8 hr hk P8 s8
      exact Rows7.snoc hrl ha ho (p3_tups s8 Pq) (s8 _ _ nD e) hr hk
    · rintro Hq ⟨Pq, sb, hR⟩
      obtain ⟨rl, eD, hrl, haD, hoD⟩ := hR.ex
      have hWq := hW8.but hN7 P7 sb
      have hTq := tabs_p3 sb P7 hT8
      have hrl6 : rl.length ≤ 6 := by omega
      clear hR hW8 hT8 sb hD P7 hrl
      try dsimp only [List.set]
      walk_at "gb go"
      rename_i rE H9 d0 d1 P9 s9 E9 hE
      have hW9 := hWq.but hN7 Pq s9
      have hT9 := tabs_p3 s9 Pq hTq
      have eD9 := s9 _ _ nD eD
      have haD9 := haD.mono (p3_tups s9 Pq)
      clear hWq hTq eD haD Pq s9
      have nE := P9.nn hE
      refine lc_range (lo := 0) (n := (1 + rE).toNat) (fun i Hq => P3 Hq p ∧ SameBut p H9 Hq ∧ Rows7 Hq E9 wa bs sp i) ⟨P9.mono (same_new hE), (same_new hE).but, [], upd_same, rfl, ⟨fun r h => by cases h⟩, fun r h => by cases h⟩ ?_ ?_
      · rintro i Hq hi ⟨Pq, sb, hR⟩
        obtain ⟨el, e, hel, ha, ho⟩ := hR.ex
        have hsl : (el.map fun r => V.ref r.a).length < sizeLine := by rw [List.length_map, sizeLine_eq]; omega
        have hWq := hW9.but hN7 P9 sb
        clear hR
        walk_at "gb go"
        rename_i r H8 hr hk P8 s8
        exact Rows7.snoc hel ha ho (p3_tups s8 Pq) (s8 _ _ nE e) hr hk
      · rintro Hq ⟨Pq, sb, hR⟩
        obtain ⟨el, eE, hel, haE, hoE⟩ := hR.ex
        have hWq := hW9.but hN7 P9 sb
        have hTq := tabs_p3 sb P9 hT9
        have hel2 : el.length ≤ 2 := by omega
        have eDq := sb _ _ nD eD9
        have haDq := haD9.mono (p3_tups sb P9)
        clear hR hW9 hT9 sb hE P9 hel eD9 haD9
        try dsimp only [List.set]
        repeat' ((fail_if_success (show SqL _ _ _ _ ∧ atI _ _ = _ ∧ _)); walk_at "gb step")
        rename_i pt px py Hp1 ept hsp Pp sp1
        have npt := Pp.ne ept
        have hWp := hWq.but hN7 Pq sp1
        have hTp := tabs_p3 sp1 Pq hTq
        have eDp := sp1 _ _ nD eDq
        have haDp := haDq.mono (p3_tups sp1 Pq)
        have eEp := sp1 _ _ nE eE
        have haEp := haE.mono (p3_tups sp1 Pq)
        refine ⟨SqL.of hWp.e, rfl, ?_⟩
        clear hWq hTq eDq haDq eE haE Pq sp1
        have hWm := hWp.w.m
        have hm6 := hO.m1.2
        walk_at "gb go"
        rename_i F9 hF
        have nF := Pp.nn hF
        clear hWm
        refine lc_range (lo := 0) (n := (((wa.ms.map fun r => V.ref r.a).length : Nat) : Int).toNat) (fun i Hq => P3 Hq p ∧ SameBut p Hp1 Hq ∧ OutL Hq F9 i) ⟨Pp.mono (same_new hF), (same_new hF).but, [], upd_same, Nat.le_refl 0⟩ ?_ ?_
        · rintro i Hq hi ⟨Pq, sb, hR⟩
          obtain ⟨ol, e, hol⟩ := hR.ex
          have hi6 : i < 6 := by rw [List.length_map] at hi; omega
          have hsl : (ol.map V.int).length < sizeLine := by rw [List.length_map, sizeLine_eq]; omega
          clear hR
          walk_at "gb go"
          · exact OutL.snoc hol
          · rename_i rr Hz z0 z1 Pz sz zn
            exact ⟨ol, sz _ _ nF e, Nat.le_succ_of_le hol⟩
        · rintro Hq ⟨Pq, sb, hR⟩
          obtain ⟨out, eF, hout⟩ := hR.ex
          have hout6 : out.length ≤ 6 := by rw [List.length_map] at hout; omega
          have hWq := hWp.but hN7 Pp sb
          have hTq := tabs_p3 sb Pp hTp
          have eDq := sb _ _ nD eDp
          have haDq := haDp.mono (p3_tups sb Pp)
          have eEq := sb _ _ nE eEp
          have haEq := haEp.mono (p3_tups sb Pp)
          have ept2 := sb _ _ npt ept
          clear hR hWp hTp eDp haDp eEp haEp ept sb hF Pp hout
          try dsimp only [List.set]
          repeat' ((fail_if_success (show ∃ (_ : Addr) (_ : WA) (_ : Int) (_ : Int) (_ : Int), _)); walk_at "gb step")
          rename_i ot hot
          try dsimp only [List.set]
          have s6 := same_new (o := .tup (out.map V.int)) hot
          have eot : (upd Hq ot (.tup (out.map V.int))) ot = some (.tup (out.map V.int)) := upd_same
          generalize upd Hq ot (.tup (out.map V.int)) = Hr at s6 eot ⊢
          refine ⟨wd, wa, sc2, bs, sp, rfl, hWq.mono s6, hO, tabs_same s6 hTq, fun c HC xC tC hC => ?_⟩
          have xS : LamX.ExtN Hq HC := (ext_same s6).trans xC
          have hWc := hWq.ext xS
          have bd := ext_hp xS eDq (fun _ z => by cases z)
          have be := ext_hp xS eEq (fun _ z => by cases z)
          have rd := haDq.mono (ext_tups xS)
          have re := haEq.mono (ext_tups xS)
          have ep := ext_hp xS ept2 (fun _ z => by cases z)
          have eo := ext_hp xC eot (fun _ z => by cases z)
          clear hWq hTq eDq eEq haDq haEq ept2 eot xS xC s6 hot eF tC
          try dsimp only [List.set]
          repeat' ((fail_if_success (show ∃ (_ _ : Addr) (_ : List (Str × V)) (_ : Addr) (_ : List V), _)); walk_at "gb step")
          rename_i l1 hl1 x K1 hx s1 tk1 l2 hl2
          try dsimp only [List.set]
          obtain ⟨dx1, t1, ex1, et1⟩ := tk1.ex
          have eK2 : (upd K1 l2 (.lst (el.map fun r => V.ref r.a))) l2 = some (.lst (el.map fun r => V.ref r.a)) := upd_same
          have sn2 := same_new (o := .lst (el.map fun r => V.ref r.a)) hl2
          have s02 : Same HC (upd K1 l2 (.lst (el.map fun r => V.ref r.a))) := by walk_at "gb same"
          generalize upd K1 l2 (.lst (el.map fun r => V.ref r.a)) = K2 at eK2 sn2 s02 ⊢
          refine ⟨x, dx1, _, l2, _, rfl, sn2 _ _ ex1, rfl, eK2, x, l2, dx1, c, t1, _, _, rfl, sn2 _ _ ex1, sn2 _ _ et1, ⟨.inl eK2⟩, (by rw [List.length_map]; omega), (by rw [List.length_map]; omega), fun m K3 s3 tkm => ?_⟩
          rw [← List.map_append] at tkm
          obtain ⟨i, j, rfl, rfl, hij, hj⟩ := hsp.ex
          have s03 := s02.trans s3
          have B : B7 A K3 wd wa sc2 bs sp D rl E9 el pt i j x c m ot out := ⟨hWc.mono s03, s03 _ _ bd, s03 _ _ be, rd.mono (Same.tups s03), re.mono (Same.tups s03), s03 _ _ ep, (tk1.fr (fr_same sn2)).fr (fr_same s3), tkm, hC.fr s03, s03 _ _ eo⟩
          clear hWc bd be rd re ep eo hC s02 s03 sn2 s3 tk1 tkm ex1 et1 eK2 hl2 hl1 hx s1
          try dsimp only [List.set]
          repeat' ((fail_if_success (show ∃ (_ : Addr) (_ : WA) (_ : Int) (_ : Int) (_ : Int), _)); walk_at "gb step")
          refine ⟨wd, wa, sc2, bs, sp, rfl, B.w, hO, fun G HG sG hG => ?_⟩
          replace B := B.mono sG
          obtain ⟨gl, eG, hgl, hgs⟩ := hG.ex
          have gR : GdR wa rl := gdr7 hoD (by omega)
          have k7B : ∀ r ∈ rl ++ el, K7 wa bs sp r := fun r hr => (List.mem_append.mp hr).elim (hoD r) (hoE r)
          have gB : GdR wa (rl ++ el) := gdr7 k7B (by rw [List.length_append]; omega)
          clear sG hG
          walk_at "gb go"
          rename_i S hS9
          have e8 : cutV (gl.map fun p => V.ref p.1) none (some 8) = (gl.take 8).map fun p => V.ref p.1 := by rw [show (some 8 : Option Int) = some ((8 : Nat) : Int) from rfl, cut_lo, List.map_take]
          rw [e8]
          have sS := same_new (o := .lst ((gl.take 8).map fun p => V.ref p.1)) hS9
          have eS : (upd HG S (.lst ((gl.take 8).map fun p => V.ref p.1))) S = some (.lst ((gl.take 8).map fun p => V.ref p.1)) := upd_same
          generalize upd HG S (.lst ((gl.take 8).map fun p => V.ref p.1)) = HS at sS eS ⊢
          replace B := B.mono sS
          have hgt : ∀ q ∈ gl.take 8, HS q.1 = some (.tup [.int (q.2.1 : Int), .int (q.2.2 : Int)]) ∧ ∃ r sq, wa.ts[q.2.1]? = some r ∧ r.st[q.2.2]? = some sq := fun q hq => ⟨sS _ _ (hgs q (List.mem_of_mem_take hq)).1, (hgs q (List.mem_of_mem_take hq)).2⟩
          clear e8 sS hS9 hgs eG hgl
          generalize gl.take 8 = g8 at eS hgt ⊢
          refine for_list (K := K) (a := S) (xs := g8.map fun p => V.ref p.1) (fun n σ Hq => ∃ v10 v11 : Option V, σ = [some (V.ref sc), some (V.ref p), some (V.ref wd), some (V.ref D), some (V.ref E9), some (V.ref pt), some (V.ref ot), some (V.ref c), some (V.ref x), some (V.ref m), v10, v11] ∧ Same HS Hq) ⟨_, _, rfl, Same.refl _⟩ (fun n σ Hq _ ⟨_, _, _, s'⟩ => SqL.of (s' _ _ eS)) ?_ ?_
          · rintro n x9 σ Hq hi ⟨v10, v11, rfl, sq0⟩
            obtain ⟨q, hq, rfl⟩ := get_map hi
            obtain ⟨eg0, r, sq, hr, hsq⟩ := hgt q (List.mem_of_getElem? hq)
            have B1 := B.mono sq0
            have eg := sq0 _ _ eg0
            clear B
            repeat' ((fail_if_success (show ∃ (_ _ _ _ _ _ _ : Addr) (_ : WA) (_ _ _ : Int) (_ : List KR), _)); walk_at "gb step")
            try dsimp only [List.set]
            refine ⟨wd, D, x, q.1, pt, ot, c, wa, sc2, bs, sp, rl, q.2.1, q.2.2, r, sq, i, j, out, rfl, ⟨B1.w, B1.d, B1.rd, B1.x, B1.c, ⟨eg, hr, hsq⟩, B1.p, B1.o⟩, hCk, hO, gR, (fun z hz => (hoD z hz).sp), hij, hj, (by omega), fun H2 s2 => ?_⟩
            have B2 := B1.mono s2
            have eg2 := s2 _ _ eg
            have bd := B2.d
            have be := B2.e
            clear B1 eg
            repeat' ((fail_if_success (show ∃ (_ _ _ _ _ _ _ : Addr) (_ : WA) (_ _ _ : Int) (_ : List KR), _)); walk_at "gb step")
            rename_i lN hlN lO hlO
            try dsimp only [List.set]
            have eN : (upd (upd H2 lN (.lst ((rl.map fun r => V.ref r.a) ++ el.map fun r => V.ref r.a))) lO (.tup [])) lN = some (.lst ((rl ++ el).map fun r => V.ref r.a)) := by
              rw [List.map_append]
              walk_at "gb hp"
            have eO : (upd (upd H2 lN (.lst ((rl.map fun r => V.ref r.a) ++ el.map fun r => V.ref r.a))) lO (.tup [])) lO = some (.tup (([] : List Int).map V.int)) := upd_same
            have sN : Same H2 (upd (upd H2 lN (.lst ((rl.map fun r => V.ref r.a) ++ el.map fun r => V.ref r.a))) lO (.tup [])) := by walk_at "gb same"
            generalize (upd (upd H2 lN (.lst ((rl.map fun r => V.ref r.a) ++ el.map fun r => V.ref r.a))) lO (.tup [])) = H3 at eN eO sN ⊢
            have B3 := B2.mono sN
            have eg3 := sN _ _ eg2
            clear B2 eg2 bd be hlN hlO
            refine ⟨wd, lN, m, q.1, pt, lO, c, wa, sc2, bs, sp, rl ++ el, q.2.1, q.2.2, r, sq, i, j, [], rfl, ⟨B3.w, eN, ra_app B3.rd B3.re, B3.m, B3.c, ⟨eg3, hr, hsq⟩, B3.p, eO⟩, hCk, hO, gB, (fun z hz => (k7B z hz).sp), hij, hj, (by decide), fun H4 s4 => ?_⟩
            have B4 := B3.mono s4
            have eg4 := s4 _ _ eg3
            have s04 := ((sq0.trans s2).trans sN).trans s4
            clear B3 eg3 eN eO s2 sN s4 sq0
            repeat' ((fail_if_success (show ∃ (_ _ _ _ _ _ _ : Addr) (_ : WA) (_ _ _ : Int) (_ : List KR), _)); walk_at "gb step")
            rename_i lP hlP
            try dsimp only [List.set]
            have eP : (upd H4 lP (.tup [])) lP = some (.tup (([] : List Int).map V.int)) := upd_same
            have sP := same_new (o := .tup []) hlP
            generalize (upd H4 lP (.tup [])) = H5 at eP sP ⊢
            have B5 := B4.mono sP
            have eg5 := sP _ _ eg4
            clear B4 eg4 hlP
            refine ⟨wd, D, x, q.1, pt, lP, c, wa, sc2, bs, sp, rl, q.2.1, q.2.2, r, sq, i, j, [], rfl, ⟨B5.w, B5.d, B5.rd, B5.x, B5.c, ⟨eg5, hr, hsq⟩, B5.p, eP⟩, hCk, hO, gR, (fun z hz => (hoD z hz).sp), hij, hj, (by decide), fun H6 s6 => ?_⟩
            have s06 := (s04.trans sP).trans s6
            clear B5 eg5 eP sP s6 s04
            walk_at "gb go"
            skip
          · rintro σ Hq ⟨v10, v11, rfl, sq⟩
            walk_at "gb go"
            exact k _
end
theorem all_mk {P : Program} {w : World} {K : PySem.W.Frag} {h : Heap} {mg : Str → Option Value} {fa : Addr} (X : K.In h) (G : h.Ns mainGlobals mg) (hfa : mg "law" = some (.ref fa))
    {c_Amounts c_Takes c_Machine c_Group c_Stage c_Template c_Cluster c_Span c_GangError c_BadAmounts c_BadRow c_Unknown c_BadSpan tc_PLAIN_WISHES tc_NAMING_WISHES co_check_rows tb_check_rows f_GangError_init f_refuse_lengths f_Amounts_init f_Amounts_add f_Amounts_sub f_Amounts_mul f_Amounts_rmul f_Amounts_and f_Amounts_contains f_Amounts_len f_Amounts_iter f_is_name f_names_after f_path_of f_leaf_names f_is_name_new f_are_names f_amounts_fit f_some_amounts_fit f_machine_fits f_limit_fits f_floors_fit f_group_fits f_stage_fits f_wish_fits f_template_fits f_check_foes f_check_part f_check_rows f_index_of f_foes_of f_Machine_init f_Group_init f_Stage_init f_Template_init f_Cluster_init f_used_at f_Takes_init f_Span_init f_Takes_common f_Takes_free f_Takes_users f_Takes_iter f_Takes_add f_Cluster_stage_of f_room_of f_bar_of f_bound_of f_bounds f_seeded f_draw f_named f_few f_asks f_phase f_machine f_form f_made f_built f_clock f_span f_taken f_spare f_wished f_foes f_meets f_room f_cap f_limits f_pairs f_right f_gangs f_law : Addr}
    {od_GangError_init an_GangError_init : Option Addr} {sl_GangError_init : Array (Option Value)} {oc_GangError_init kV_GangError_init dc_GangError_init pm_GangError_init cd_GangError_init ct_GangError_init : Value}
    {od_refuse_lengths an_refuse_lengths : Option Addr} {sl_refuse_lengths : Array (Option Value)} {oc_refuse_lengths kV_refuse_lengths dc_refuse_lengths pm_refuse_lengths cd_refuse_lengths ct_refuse_lengths : Value}
    {od_Amounts_init an_Amounts_init : Option Addr} {sl_Amounts_init : Array (Option Value)} {oc_Amounts_init kV_Amounts_init dc_Amounts_init pm_Amounts_init cd_Amounts_init ct_Amounts_init : Value}
    {od_Amounts_add an_Amounts_add : Option Addr} {sl_Amounts_add : Array (Option Value)} {oc_Amounts_add kV_Amounts_add dc_Amounts_add pm_Amounts_add cd_Amounts_add ct_Amounts_add : Value}
    {od_Amounts_sub an_Amounts_sub : Option Addr} {sl_Amounts_sub : Array (Option Value)} {oc_Amounts_sub kV_Amounts_sub dc_Amounts_sub pm_Amounts_sub cd_Amounts_sub ct_Amounts_sub : Value}
    {od_Amounts_mul an_Amounts_mul : Option Addr} {sl_Amounts_mul : Array (Option Value)} {oc_Amounts_mul kV_Amounts_mul dc_Amounts_mul pm_Amounts_mul cd_Amounts_mul ct_Amounts_mul : Value}
    {od_Amounts_rmul an_Amounts_rmul : Option Addr} {sl_Amounts_rmul : Array (Option Value)} {oc_Amounts_rmul kV_Amounts_rmul dc_Amounts_rmul pm_Amounts_rmul cd_Amounts_rmul ct_Amounts_rmul : Value}
    {od_Amounts_and an_Amounts_and : Option Addr} {sl_Amounts_and : Array (Option Value)} {oc_Amounts_and kV_Amounts_and dc_Amounts_and pm_Amounts_and cd_Amounts_and ct_Amounts_and : Value}
    {od_Amounts_contains an_Amounts_contains : Option Addr} {sl_Amounts_contains : Array (Option Value)} {oc_Amounts_contains kV_Amounts_contains dc_Amounts_contains pm_Amounts_contains cd_Amounts_contains ct_Amounts_contains : Value}
    {od_Amounts_len an_Amounts_len : Option Addr} {sl_Amounts_len : Array (Option Value)} {oc_Amounts_len kV_Amounts_len dc_Amounts_len pm_Amounts_len cd_Amounts_len ct_Amounts_len : Value}
    {od_Amounts_iter an_Amounts_iter : Option Addr} {sl_Amounts_iter : Array (Option Value)} {oc_Amounts_iter kV_Amounts_iter dc_Amounts_iter pm_Amounts_iter cd_Amounts_iter ct_Amounts_iter : Value}
    {od_is_name an_is_name : Option Addr} {sl_is_name : Array (Option Value)} {oc_is_name kV_is_name dc_is_name pm_is_name cd_is_name ct_is_name : Value}
    {od_names_after an_names_after : Option Addr} {sl_names_after : Array (Option Value)} {oc_names_after kV_names_after dc_names_after pm_names_after cd_names_after ct_names_after : Value}
    {od_path_of an_path_of : Option Addr} {sl_path_of : Array (Option Value)} {oc_path_of kV_path_of dc_path_of pm_path_of cd_path_of ct_path_of : Value}
    {od_leaf_names an_leaf_names : Option Addr} {sl_leaf_names : Array (Option Value)} {oc_leaf_names kV_leaf_names dc_leaf_names pm_leaf_names cd_leaf_names ct_leaf_names : Value}
    {od_is_name_new an_is_name_new : Option Addr} {sl_is_name_new : Array (Option Value)} {oc_is_name_new kV_is_name_new dc_is_name_new pm_is_name_new cd_is_name_new ct_is_name_new : Value}
    {od_are_names an_are_names : Option Addr} {sl_are_names : Array (Option Value)} {oc_are_names kV_are_names dc_are_names pm_are_names cd_are_names ct_are_names : Value}
    {od_amounts_fit an_amounts_fit : Option Addr} {sl_amounts_fit : Array (Option Value)} {oc_amounts_fit kV_amounts_fit dc_amounts_fit pm_amounts_fit cd_amounts_fit ct_amounts_fit : Value}
    {od_some_amounts_fit an_some_amounts_fit : Option Addr} {sl_some_amounts_fit : Array (Option Value)} {oc_some_amounts_fit kV_some_amounts_fit dc_some_amounts_fit pm_some_amounts_fit cd_some_amounts_fit ct_some_amounts_fit : Value}
    {od_machine_fits an_machine_fits : Option Addr} {sl_machine_fits : Array (Option Value)} {oc_machine_fits kV_machine_fits dc_machine_fits pm_machine_fits cd_machine_fits ct_machine_fits : Value}
    {od_limit_fits an_limit_fits : Option Addr} {sl_limit_fits : Array (Option Value)} {oc_limit_fits kV_limit_fits dc_limit_fits pm_limit_fits cd_limit_fits ct_limit_fits : Value}
    {od_floors_fit an_floors_fit : Option Addr} {sl_floors_fit : Array (Option Value)} {oc_floors_fit kV_floors_fit dc_floors_fit pm_floors_fit cd_floors_fit ct_floors_fit : Value}
    {od_group_fits an_group_fits : Option Addr} {sl_group_fits : Array (Option Value)} {oc_group_fits kV_group_fits dc_group_fits pm_group_fits cd_group_fits ct_group_fits : Value}
    {od_stage_fits an_stage_fits : Option Addr} {sl_stage_fits : Array (Option Value)} {oc_stage_fits kV_stage_fits dc_stage_fits pm_stage_fits cd_stage_fits ct_stage_fits : Value}
    {od_wish_fits an_wish_fits : Option Addr} {sl_wish_fits : Array (Option Value)} {oc_wish_fits kV_wish_fits dc_wish_fits pm_wish_fits cd_wish_fits ct_wish_fits : Value}
    {od_template_fits an_template_fits : Option Addr} {sl_template_fits : Array (Option Value)} {oc_template_fits kV_template_fits dc_template_fits pm_template_fits cd_template_fits ct_template_fits : Value}
    {od_check_foes an_check_foes : Option Addr} {sl_check_foes : Array (Option Value)} {oc_check_foes kV_check_foes dc_check_foes pm_check_foes cd_check_foes ct_check_foes : Value}
    {od_check_part an_check_part : Option Addr} {sl_check_part : Array (Option Value)} {oc_check_part kV_check_part dc_check_part pm_check_part cd_check_part ct_check_part : Value}
    {od_check_rows an_check_rows : Option Addr} {sl_check_rows : Array (Option Value)} {oc_check_rows kV_check_rows dc_check_rows pm_check_rows  ct_check_rows : Value}
    {od_index_of an_index_of : Option Addr} {sl_index_of : Array (Option Value)} {oc_index_of kV_index_of dc_index_of pm_index_of cd_index_of ct_index_of : Value}
    {od_foes_of an_foes_of : Option Addr} {sl_foes_of : Array (Option Value)} {oc_foes_of kV_foes_of dc_foes_of pm_foes_of cd_foes_of ct_foes_of : Value}
    {od_Machine_init an_Machine_init : Option Addr} {sl_Machine_init : Array (Option Value)} {oc_Machine_init kV_Machine_init dc_Machine_init pm_Machine_init cd_Machine_init ct_Machine_init : Value}
    {od_Group_init an_Group_init : Option Addr} {sl_Group_init : Array (Option Value)} {oc_Group_init kV_Group_init dc_Group_init pm_Group_init cd_Group_init ct_Group_init : Value}
    {od_Stage_init an_Stage_init : Option Addr} {sl_Stage_init : Array (Option Value)} {oc_Stage_init kV_Stage_init dc_Stage_init pm_Stage_init cd_Stage_init ct_Stage_init : Value}
    {od_Template_init an_Template_init : Option Addr} {sl_Template_init : Array (Option Value)} {oc_Template_init kV_Template_init dc_Template_init pm_Template_init cd_Template_init ct_Template_init : Value}
    {od_Cluster_init an_Cluster_init : Option Addr} {sl_Cluster_init : Array (Option Value)} {oc_Cluster_init kV_Cluster_init dc_Cluster_init pm_Cluster_init cd_Cluster_init ct_Cluster_init : Value}
    {od_used_at an_used_at : Option Addr} {sl_used_at : Array (Option Value)} {oc_used_at kV_used_at dc_used_at pm_used_at cd_used_at ct_used_at : Value}
    {od_Takes_init an_Takes_init : Option Addr} {sl_Takes_init : Array (Option Value)} {oc_Takes_init kV_Takes_init dc_Takes_init pm_Takes_init cd_Takes_init ct_Takes_init : Value}
    {od_Span_init an_Span_init : Option Addr} {sl_Span_init : Array (Option Value)} {oc_Span_init kV_Span_init dc_Span_init pm_Span_init cd_Span_init ct_Span_init : Value}
    {od_Takes_common an_Takes_common : Option Addr} {sl_Takes_common : Array (Option Value)} {oc_Takes_common kV_Takes_common dc_Takes_common pm_Takes_common cd_Takes_common ct_Takes_common : Value}
    {od_Takes_free an_Takes_free : Option Addr} {sl_Takes_free : Array (Option Value)} {oc_Takes_free kV_Takes_free dc_Takes_free pm_Takes_free cd_Takes_free ct_Takes_free : Value}
    {od_Takes_users an_Takes_users : Option Addr} {sl_Takes_users : Array (Option Value)} {oc_Takes_users kV_Takes_users dc_Takes_users pm_Takes_users cd_Takes_users ct_Takes_users : Value}
    {od_Takes_iter an_Takes_iter : Option Addr} {sl_Takes_iter : Array (Option Value)} {oc_Takes_iter kV_Takes_iter dc_Takes_iter pm_Takes_iter cd_Takes_iter ct_Takes_iter : Value}
    {od_Takes_add an_Takes_add : Option Addr} {sl_Takes_add : Array (Option Value)} {oc_Takes_add kV_Takes_add dc_Takes_add pm_Takes_add cd_Takes_add ct_Takes_add : Value}
    {od_Cluster_stage_of an_Cluster_stage_of : Option Addr} {sl_Cluster_stage_of : Array (Option Value)} {oc_Cluster_stage_of kV_Cluster_stage_of dc_Cluster_stage_of pm_Cluster_stage_of cd_Cluster_stage_of ct_Cluster_stage_of : Value}
    {od_room_of an_room_of : Option Addr} {sl_room_of : Array (Option Value)} {oc_room_of kV_room_of dc_room_of pm_room_of cd_room_of ct_room_of : Value}
    {od_bar_of an_bar_of : Option Addr} {sl_bar_of : Array (Option Value)} {oc_bar_of kV_bar_of dc_bar_of pm_bar_of cd_bar_of ct_bar_of : Value}
    {od_bound_of an_bound_of : Option Addr} {sl_bound_of : Array (Option Value)} {oc_bound_of kV_bound_of dc_bound_of pm_bound_of cd_bound_of ct_bound_of : Value}
    {od_bounds an_bounds : Option Addr} {sl_bounds : Array (Option Value)} {oc_bounds kV_bounds dc_bounds pm_bounds cd_bounds ct_bounds : Value}
    {T_bounds : Addr} {oT_bounds : Value} {dT_bounds : Option Addr} {nT_bounds : Nat} {sT_bounds : Array (Option Value)} 
    {dt0_bounds : Addr} {dD_dt0_bounds : Option Addr} {nD_dt0_bounds : Nat} {sD_dt0_bounds : Array (Option Value)}
    {od_seeded an_seeded : Option Addr} {sl_seeded : Array (Option Value)} {oc_seeded kV_seeded dc_seeded pm_seeded cd_seeded ct_seeded : Value}
    {od_draw an_draw : Option Addr} {sl_draw : Array (Option Value)} {oc_draw kV_draw dc_draw pm_draw cd_draw ct_draw : Value}
    {od_named an_named : Option Addr} {sl_named : Array (Option Value)} {oc_named kV_named dc_named pm_named cd_named ct_named : Value}
    {od_few an_few : Option Addr} {sl_few : Array (Option Value)} {oc_few kV_few dc_few pm_few cd_few ct_few : Value}
    {od_asks an_asks : Option Addr} {sl_asks : Array (Option Value)} {oc_asks kV_asks dc_asks pm_asks cd_asks ct_asks : Value}
    {od_phase an_phase : Option Addr} {sl_phase : Array (Option Value)} {oc_phase kV_phase dc_phase pm_phase cd_phase ct_phase : Value}
    {od_machine an_machine : Option Addr} {sl_machine : Array (Option Value)} {oc_machine kV_machine dc_machine pm_machine cd_machine ct_machine : Value}
    {od_form an_form : Option Addr} {sl_form : Array (Option Value)} {oc_form kV_form dc_form pm_form cd_form ct_form : Value}
    {od_made an_made : Option Addr} {sl_made : Array (Option Value)} {oc_made kV_made dc_made pm_made cd_made ct_made : Value}
    {od_built an_built : Option Addr} {sl_built : Array (Option Value)} {oc_built kV_built dc_built pm_built cd_built ct_built : Value}
    {od_clock an_clock : Option Addr} {sl_clock : Array (Option Value)} {oc_clock kV_clock dc_clock pm_clock cd_clock ct_clock : Value}
    {od_span an_span : Option Addr} {sl_span : Array (Option Value)} {oc_span kV_span dc_span pm_span cd_span ct_span : Value}
    {od_taken an_taken : Option Addr} {sl_taken : Array (Option Value)} {oc_taken kV_taken dc_taken pm_taken cd_taken ct_taken : Value}
    {od_spare an_spare : Option Addr} {sl_spare : Array (Option Value)} {oc_spare kV_spare dc_spare pm_spare cd_spare ct_spare : Value}
    {od_wished an_wished : Option Addr} {sl_wished : Array (Option Value)} {oc_wished kV_wished dc_wished pm_wished cd_wished ct_wished : Value}
    {od_foes an_foes : Option Addr} {sl_foes : Array (Option Value)} {oc_foes kV_foes dc_foes pm_foes cd_foes ct_foes : Value}
    {od_meets an_meets : Option Addr} {sl_meets : Array (Option Value)} {oc_meets kV_meets dc_meets pm_meets cd_meets ct_meets : Value}
    {od_room an_room : Option Addr} {sl_room : Array (Option Value)} {oc_room kV_room dc_room pm_room cd_room ct_room : Value}
    {od_cap an_cap : Option Addr} {sl_cap : Array (Option Value)} {oc_cap kV_cap dc_cap pm_cap cd_cap ct_cap : Value}
    {od_limits an_limits : Option Addr} {sl_limits : Array (Option Value)} {oc_limits kV_limits dc_limits pm_limits cd_limits ct_limits : Value}
    {od_pairs an_pairs : Option Addr} {sl_pairs : Array (Option Value)} {oc_pairs kV_pairs dc_pairs pm_pairs cd_pairs ct_pairs : Value}
    {od_right an_right : Option Addr} {sl_right : Array (Option Value)} {oc_right kV_right dc_right pm_right cd_right ct_right : Value}
    {od_gangs an_gangs : Option Addr} {sl_gangs : Array (Option Value)} {oc_gangs kV_gangs dc_gangs pm_gangs cd_gangs ct_gangs : Value}
    {od_law an_law : Option Addr} {sl_law : Array (Option Value)} {oc_law kV_law dc_law pm_law cd_law ct_law : Value}
    {rc_Amounts_mul fo_Amounts_mul ro_Amounts_mul : Option Value}
    {rc_Takes_add fo_Takes_add ro_Takes_add : Option Value}
    {nm_GangError q_GangError : Str} {N_GangError : Addr} {bs_GangError bm_GangError : List Value} {sn_GangError : List Str} {sub_GangError : List Value} {ab_GangError : Bool} {col_GangError : Option Bool} {dd_GangError : Option Addr} {m0_GangError m1_GangError m2_GangError m3_GangError m5_GangError : Option Value}
    {nm_BadAmounts q_BadAmounts : Str} {N_BadAmounts : Addr} {bs_BadAmounts bm_BadAmounts : List Value} {sn_BadAmounts : List Str} {sub_BadAmounts : List Value} {ab_BadAmounts : Bool} {col_BadAmounts : Option Bool} {dd_BadAmounts : Option Addr} {m0_BadAmounts m1_BadAmounts m2_BadAmounts m3_BadAmounts m5_BadAmounts : Option Value}
    {nm_BadRow q_BadRow : Str} {N_BadRow : Addr} {bs_BadRow bm_BadRow : List Value} {sn_BadRow : List Str} {sub_BadRow : List Value} {ab_BadRow : Bool} {col_BadRow : Option Bool} {dd_BadRow : Option Addr} {m0_BadRow m1_BadRow m2_BadRow m3_BadRow m5_BadRow : Option Value}
    {nm_Unknown q_Unknown : Str} {N_Unknown : Addr} {bs_Unknown bm_Unknown : List Value} {sn_Unknown : List Str} {sub_Unknown : List Value} {ab_Unknown : Bool} {col_Unknown : Option Bool} {dd_Unknown : Option Addr} {m0_Unknown m1_Unknown m2_Unknown m3_Unknown m5_Unknown : Option Value}
    {nm_BadSpan q_BadSpan : Str} {N_BadSpan : Addr} {bs_BadSpan bm_BadSpan : List Value} {sn_BadSpan : List Str} {sub_BadSpan : List Value} {ab_BadSpan : Bool} {col_BadSpan : Option Bool} {dd_BadSpan : Option Addr} {m0_BadSpan m1_BadSpan m2_BadSpan m3_BadSpan m5_BadSpan : Option Value}
    {dT_PLAIN_WISHES : Option Addr} {nT_PLAIN_WISHES : Nat} {sT_PLAIN_WISHES : Array (Option Value)} {tk0_PLAIN_WISHES : Tok} {tk1_PLAIN_WISHES : Tok}
    {dT_NAMING_WISHES : Option Addr} {nT_NAMING_WISHES : Nat} {sT_NAMING_WISHES : Array (Option Value)} {tk0_NAMING_WISHES : Tok} {tk1_NAMING_WISHES : Tok} {tk2_NAMING_WISHES : Tok} {tk3_NAMING_WISHES : Tok}
    {tk_LETTERS : Tok}
    {tk_DIGITS : Tok}
    {tk_MOST_RESOURCES : Tok}
    {tk_MOST_MACHINES : Tok}
    {tk_MOST_GROUPS : Tok}
    {tk_MOST_TEMPLATES : Tok}
    {tk_MOST_LABELS : Tok}
    {tk_MOST_ABOVE : Tok}
    {tk_MOST_STAGES : Tok}
    {tk_MOST_WISHES : Tok}
    {tk_GREATEST_AMOUNT : Tok}
    (nb_abs : PySem.W.nsIn K mainGlobals "abs" = some none)
    (nb_all : PySem.W.nsIn K mainGlobals "all" = some none)
    (nb_any : PySem.W.nsIn K mainGlobals "any" = some none)
    (nb_bool : PySem.W.nsIn K mainGlobals "bool" = some none)
    (nb_enumerate : PySem.W.nsIn K mainGlobals "enumerate" = some none)
    (nb_int : PySem.W.nsIn K mainGlobals "int" = some none)
    (nb_isinstance : PySem.W.nsIn K mainGlobals "isinstance" = some none)
    (nb_iter : PySem.W.nsIn K mainGlobals "iter" = some none)
    (nb_len : PySem.W.nsIn K mainGlobals "len" = some none)
    (nb_list : PySem.W.nsIn K mainGlobals "list" = some none)
    (nb_max : PySem.W.nsIn K mainGlobals "max" = some none)
    (nb_min : PySem.W.nsIn K mainGlobals "min" = some none)
    (nb_range : PySem.W.nsIn K mainGlobals "range" = some none)
    (nb_set : PySem.W.nsIn K mainGlobals "set" = some none)
    (nb_sorted : PySem.W.nsIn K mainGlobals "sorted" = some none)
    (nb_str : PySem.W.nsIn K mainGlobals "str" = some none)
    (nb_sum : PySem.W.nsIn K mainGlobals "sum" = some none)
    (nb_tuple : PySem.W.nsIn K mainGlobals "tuple" = some none)
    (nb_zip : PySem.W.nsIn K mainGlobals "zip" = some none)
    (ag_Amounts : PySem.W.nsIn K mainGlobals "Amounts" = some (some (.ref c_Amounts)))
    (ag_Takes : PySem.W.nsIn K mainGlobals "Takes" = some (some (.ref c_Takes)))
    (ag_Machine : PySem.W.nsIn K mainGlobals "Machine" = some (some (.ref c_Machine)))
    (ag_Group : PySem.W.nsIn K mainGlobals "Group" = some (some (.ref c_Group)))
    (ag_Stage : PySem.W.nsIn K mainGlobals "Stage" = some (some (.ref c_Stage)))
    (ag_Template : PySem.W.nsIn K mainGlobals "Template" = some (some (.ref c_Template)))
    (ag_Cluster : PySem.W.nsIn K mainGlobals "Cluster" = some (some (.ref c_Cluster)))
    (ag_Span : PySem.W.nsIn K mainGlobals "Span" = some (some (.ref c_Span)))
    (ag_GangError : PySem.W.nsIn K mainGlobals "GangError" = some (some (.ref c_GangError)))
    (ag_BadAmounts : PySem.W.nsIn K mainGlobals "BadAmounts" = some (some (.ref c_BadAmounts)))
    (ag_BadRow : PySem.W.nsIn K mainGlobals "BadRow" = some (some (.ref c_BadRow)))
    (ag_Unknown : PySem.W.nsIn K mainGlobals "Unknown" = some (some (.ref c_Unknown)))
    (ag_BadSpan : PySem.W.nsIn K mainGlobals "BadSpan" = some (some (.ref c_BadSpan)))
    (at_GangError_init : PySem.W.findIn K (.ref c_GangError) "__init__" = some (some (.ref f_GangError_init)))
    (lk_GangError_init : K.lookup f_GangError_init = some ⟨oc_GangError_init, od_GangError_init, .func (PySem.W.fnOf "__init__" "GangError.__init__" (defArgs s_GangError_init) (defBody s_GangError_init) (defScope s_GangError_init) .none kV_GangError_init dc_GangError_init pm_GangError_init an_GangError_init cd_GangError_init ct_GangError_init), sl_GangError_init⟩)
    (co_GangError_init : PySem.W.codeIn K cd_GangError_init "GangError.__init__" = true)
    (ke_GangError_init : PySem.W.keepIn K (.ref f_GangError_init) = true)
    (fn_GangError_init : PySem.W.isFn K (.ref f_GangError_init) = true)
    (at_refuse_lengths : PySem.W.nsIn K mainGlobals "refuse_lengths" = some (some (.ref f_refuse_lengths)))
    (lk_refuse_lengths : K.lookup f_refuse_lengths = some ⟨oc_refuse_lengths, od_refuse_lengths, .func (PySem.W.fnOf "refuse_lengths" "refuse_lengths" (defArgs s_refuse_lengths) (defBody s_refuse_lengths) (defScope s_refuse_lengths) .none kV_refuse_lengths dc_refuse_lengths pm_refuse_lengths an_refuse_lengths cd_refuse_lengths ct_refuse_lengths), sl_refuse_lengths⟩)
    (co_refuse_lengths : PySem.W.codeIn K cd_refuse_lengths "refuse_lengths" = true)
    (ke_refuse_lengths : PySem.W.keepIn K (.ref f_refuse_lengths) = true)
    (at_Amounts_init : PySem.W.findIn K (.ref c_Amounts) "__init__" = some (some (.ref f_Amounts_init)))
    (lk_Amounts_init : K.lookup f_Amounts_init = some ⟨oc_Amounts_init, od_Amounts_init, .func (PySem.W.fnOf "__init__" "Amounts.__init__" (defArgs s_Amounts_init) (defBody s_Amounts_init) (defScope s_Amounts_init) .none kV_Amounts_init dc_Amounts_init pm_Amounts_init an_Amounts_init cd_Amounts_init ct_Amounts_init), sl_Amounts_init⟩)
    (co_Amounts_init : PySem.W.codeIn K cd_Amounts_init "Amounts.__init__" = true)
    (ke_Amounts_init : PySem.W.keepIn K (.ref f_Amounts_init) = true)
    (fn_Amounts_init : PySem.W.isFn K (.ref f_Amounts_init) = true)
    (at_Amounts_add : PySem.W.findIn K (.ref c_Amounts) "__add__" = some (some (.ref f_Amounts_add)))
    (lk_Amounts_add : K.lookup f_Amounts_add = some ⟨oc_Amounts_add, od_Amounts_add, .func (PySem.W.fnOf "__add__" "Amounts.__add__" (defArgs s_Amounts_add) (defBody s_Amounts_add) (defScope s_Amounts_add) .none kV_Amounts_add dc_Amounts_add pm_Amounts_add an_Amounts_add cd_Amounts_add ct_Amounts_add), sl_Amounts_add⟩)
    (co_Amounts_add : PySem.W.codeIn K cd_Amounts_add "Amounts.__add__" = true)
    (ke_Amounts_add : PySem.W.keepIn K (.ref f_Amounts_add) = true)
    (fn_Amounts_add : PySem.W.isFn K (.ref f_Amounts_add) = true)
    (at_Amounts_sub : PySem.W.findIn K (.ref c_Amounts) "__sub__" = some (some (.ref f_Amounts_sub)))
    (lk_Amounts_sub : K.lookup f_Amounts_sub = some ⟨oc_Amounts_sub, od_Amounts_sub, .func (PySem.W.fnOf "__sub__" "Amounts.__sub__" (defArgs s_Amounts_sub) (defBody s_Amounts_sub) (defScope s_Amounts_sub) .none kV_Amounts_sub dc_Amounts_sub pm_Amounts_sub an_Amounts_sub cd_Amounts_sub ct_Amounts_sub), sl_Amounts_sub⟩)
    (co_Amounts_sub : PySem.W.codeIn K cd_Amounts_sub "Amounts.__sub__" = true)
    (ke_Amounts_sub : PySem.W.keepIn K (.ref f_Amounts_sub) = true)
    (fn_Amounts_sub : PySem.W.isFn K (.ref f_Amounts_sub) = true)
    (at_Amounts_mul : PySem.W.findIn K (.ref c_Amounts) "__mul__" = some (some (.ref f_Amounts_mul)))
    (lk_Amounts_mul : K.lookup f_Amounts_mul = some ⟨oc_Amounts_mul, od_Amounts_mul, .func (PySem.W.fnOf "__mul__" "Amounts.__mul__" (defArgs s_Amounts_mul) (defBody s_Amounts_mul) (defScope s_Amounts_mul) .none kV_Amounts_mul dc_Amounts_mul pm_Amounts_mul an_Amounts_mul cd_Amounts_mul ct_Amounts_mul), sl_Amounts_mul⟩)
    (co_Amounts_mul : PySem.W.codeIn K cd_Amounts_mul "Amounts.__mul__" = true)
    (ke_Amounts_mul : PySem.W.keepIn K (.ref f_Amounts_mul) = true)
    (fn_Amounts_mul : PySem.W.isFn K (.ref f_Amounts_mul) = true)
    (at_Amounts_rmul : PySem.W.findIn K (.ref c_Amounts) "__rmul__" = some (some (.ref f_Amounts_rmul)))
    (lk_Amounts_rmul : K.lookup f_Amounts_rmul = some ⟨oc_Amounts_rmul, od_Amounts_rmul, .func (PySem.W.fnOf "__rmul__" "Amounts.__rmul__" (defArgs s_Amounts_rmul) (defBody s_Amounts_rmul) (defScope s_Amounts_rmul) .none kV_Amounts_rmul dc_Amounts_rmul pm_Amounts_rmul an_Amounts_rmul cd_Amounts_rmul ct_Amounts_rmul), sl_Amounts_rmul⟩)
    (co_Amounts_rmul : PySem.W.codeIn K cd_Amounts_rmul "Amounts.__rmul__" = true)
    (ke_Amounts_rmul : PySem.W.keepIn K (.ref f_Amounts_rmul) = true)
    (fn_Amounts_rmul : PySem.W.isFn K (.ref f_Amounts_rmul) = true)
    (at_Amounts_and : PySem.W.findIn K (.ref c_Amounts) "__and__" = some (some (.ref f_Amounts_and)))
    (lk_Amounts_and : K.lookup f_Amounts_and = some ⟨oc_Amounts_and, od_Amounts_and, .func (PySem.W.fnOf "__and__" "Amounts.__and__" (defArgs s_Amounts_and) (defBody s_Amounts_and) (defScope s_Amounts_and) .none kV_Amounts_and dc_Amounts_and pm_Amounts_and an_Amounts_and cd_Amounts_and ct_Amounts_and), sl_Amounts_and⟩)
    (co_Amounts_and : PySem.W.codeIn K cd_Amounts_and "Amounts.__and__" = true)
    (ke_Amounts_and : PySem.W.keepIn K (.ref f_Amounts_and) = true)
    (fn_Amounts_and : PySem.W.isFn K (.ref f_Amounts_and) = true)
    (at_Amounts_contains : PySem.W.findIn K (.ref c_Amounts) "__contains__" = some (some (.ref f_Amounts_contains)))
    (lk_Amounts_contains : K.lookup f_Amounts_contains = some ⟨oc_Amounts_contains, od_Amounts_contains, .func (PySem.W.fnOf "__contains__" "Amounts.__contains__" (defArgs s_Amounts_contains) (defBody s_Amounts_contains) (defScope s_Amounts_contains) .none kV_Amounts_contains dc_Amounts_contains pm_Amounts_contains an_Amounts_contains cd_Amounts_contains ct_Amounts_contains), sl_Amounts_contains⟩)
    (co_Amounts_contains : PySem.W.codeIn K cd_Amounts_contains "Amounts.__contains__" = true)
    (ke_Amounts_contains : PySem.W.keepIn K (.ref f_Amounts_contains) = true)
    (fn_Amounts_contains : PySem.W.isFn K (.ref f_Amounts_contains) = true)
    (at_Amounts_len : PySem.W.findIn K (.ref c_Amounts) "__len__" = some (some (.ref f_Amounts_len)))
    (lk_Amounts_len : K.lookup f_Amounts_len = some ⟨oc_Amounts_len, od_Amounts_len, .func (PySem.W.fnOf "__len__" "Amounts.__len__" (defArgs s_Amounts_len) (defBody s_Amounts_len) (defScope s_Amounts_len) .none kV_Amounts_len dc_Amounts_len pm_Amounts_len an_Amounts_len cd_Amounts_len ct_Amounts_len), sl_Amounts_len⟩)
    (co_Amounts_len : PySem.W.codeIn K cd_Amounts_len "Amounts.__len__" = true)
    (ke_Amounts_len : PySem.W.keepIn K (.ref f_Amounts_len) = true)
    (fn_Amounts_len : PySem.W.isFn K (.ref f_Amounts_len) = true)
    (at_Amounts_iter : PySem.W.findIn K (.ref c_Amounts) "__iter__" = some (some (.ref f_Amounts_iter)))
    (lk_Amounts_iter : K.lookup f_Amounts_iter = some ⟨oc_Amounts_iter, od_Amounts_iter, .func (PySem.W.fnOf "__iter__" "Amounts.__iter__" (defArgs s_Amounts_iter) (defBody s_Amounts_iter) (defScope s_Amounts_iter) .none kV_Amounts_iter dc_Amounts_iter pm_Amounts_iter an_Amounts_iter cd_Amounts_iter ct_Amounts_iter), sl_Amounts_iter⟩)
    (co_Amounts_iter : PySem.W.codeIn K cd_Amounts_iter "Amounts.__iter__" = true)
    (ke_Amounts_iter : PySem.W.keepIn K (.ref f_Amounts_iter) = true)
    (fn_Amounts_iter : PySem.W.isFn K (.ref f_Amounts_iter) = true)
    (at_is_name : PySem.W.nsIn K mainGlobals "is_name" = some (some (.ref f_is_name)))
    (lk_is_name : K.lookup f_is_name = some ⟨oc_is_name, od_is_name, .func (PySem.W.fnOf "is_name" "is_name" (defArgs s_is_name) (defBody s_is_name) (defScope s_is_name) .none kV_is_name dc_is_name pm_is_name an_is_name cd_is_name ct_is_name), sl_is_name⟩)
    (co_is_name : PySem.W.codeIn K cd_is_name "is_name" = true)
    (ke_is_name : PySem.W.keepIn K (.ref f_is_name) = true)
    (at_names_after : PySem.W.nsIn K mainGlobals "names_after" = some (some (.ref f_names_after)))
    (lk_names_after : K.lookup f_names_after = some ⟨oc_names_after, od_names_after, .func (PySem.W.fnOf "names_after" "names_after" (defArgs s_names_after) (defBody s_names_after) (defScope s_names_after) .none kV_names_after dc_names_after pm_names_after an_names_after cd_names_after ct_names_after), sl_names_after⟩)
    (co_names_after : PySem.W.codeIn K cd_names_after "names_after" = true)
    (ke_names_after : PySem.W.keepIn K (.ref f_names_after) = true)
    (at_path_of : PySem.W.nsIn K mainGlobals "path_of" = some (some (.ref f_path_of)))
    (lk_path_of : K.lookup f_path_of = some ⟨oc_path_of, od_path_of, .func (PySem.W.fnOf "path_of" "path_of" (defArgs s_path_of) (defBody s_path_of) (defScope s_path_of) .none kV_path_of dc_path_of pm_path_of an_path_of cd_path_of ct_path_of), sl_path_of⟩)
    (co_path_of : PySem.W.codeIn K cd_path_of "path_of" = true)
    (ke_path_of : PySem.W.keepIn K (.ref f_path_of) = true)
    (at_leaf_names : PySem.W.nsIn K mainGlobals "leaf_names" = some (some (.ref f_leaf_names)))
    (lk_leaf_names : K.lookup f_leaf_names = some ⟨oc_leaf_names, od_leaf_names, .func (PySem.W.fnOf "leaf_names" "leaf_names" (defArgs s_leaf_names) (defBody s_leaf_names) (defScope s_leaf_names) .none kV_leaf_names dc_leaf_names pm_leaf_names an_leaf_names cd_leaf_names ct_leaf_names), sl_leaf_names⟩)
    (co_leaf_names : PySem.W.codeIn K cd_leaf_names "leaf_names" = true)
    (ke_leaf_names : PySem.W.keepIn K (.ref f_leaf_names) = true)
    (at_is_name_new : PySem.W.nsIn K mainGlobals "is_name_new" = some (some (.ref f_is_name_new)))
    (lk_is_name_new : K.lookup f_is_name_new = some ⟨oc_is_name_new, od_is_name_new, .func (PySem.W.fnOf "is_name_new" "is_name_new" (defArgs s_is_name_new) (defBody s_is_name_new) (defScope s_is_name_new) .none kV_is_name_new dc_is_name_new pm_is_name_new an_is_name_new cd_is_name_new ct_is_name_new), sl_is_name_new⟩)
    (co_is_name_new : PySem.W.codeIn K cd_is_name_new "is_name_new" = true)
    (ke_is_name_new : PySem.W.keepIn K (.ref f_is_name_new) = true)
    (at_are_names : PySem.W.nsIn K mainGlobals "are_names" = some (some (.ref f_are_names)))
    (lk_are_names : K.lookup f_are_names = some ⟨oc_are_names, od_are_names, .func (PySem.W.fnOf "are_names" "are_names" (defArgs s_are_names) (defBody s_are_names) (defScope s_are_names) .none kV_are_names dc_are_names pm_are_names an_are_names cd_are_names ct_are_names), sl_are_names⟩)
    (co_are_names : PySem.W.codeIn K cd_are_names "are_names" = true)
    (ke_are_names : PySem.W.keepIn K (.ref f_are_names) = true)
    (at_amounts_fit : PySem.W.nsIn K mainGlobals "amounts_fit" = some (some (.ref f_amounts_fit)))
    (lk_amounts_fit : K.lookup f_amounts_fit = some ⟨oc_amounts_fit, od_amounts_fit, .func (PySem.W.fnOf "amounts_fit" "amounts_fit" (defArgs s_amounts_fit) (defBody s_amounts_fit) (defScope s_amounts_fit) .none kV_amounts_fit dc_amounts_fit pm_amounts_fit an_amounts_fit cd_amounts_fit ct_amounts_fit), sl_amounts_fit⟩)
    (co_amounts_fit : PySem.W.codeIn K cd_amounts_fit "amounts_fit" = true)
    (ke_amounts_fit : PySem.W.keepIn K (.ref f_amounts_fit) = true)
    (at_some_amounts_fit : PySem.W.nsIn K mainGlobals "some_amounts_fit" = some (some (.ref f_some_amounts_fit)))
    (lk_some_amounts_fit : K.lookup f_some_amounts_fit = some ⟨oc_some_amounts_fit, od_some_amounts_fit, .func (PySem.W.fnOf "some_amounts_fit" "some_amounts_fit" (defArgs s_some_amounts_fit) (defBody s_some_amounts_fit) (defScope s_some_amounts_fit) .none kV_some_amounts_fit dc_some_amounts_fit pm_some_amounts_fit an_some_amounts_fit cd_some_amounts_fit ct_some_amounts_fit), sl_some_amounts_fit⟩)
    (co_some_amounts_fit : PySem.W.codeIn K cd_some_amounts_fit "some_amounts_fit" = true)
    (ke_some_amounts_fit : PySem.W.keepIn K (.ref f_some_amounts_fit) = true)
    (at_machine_fits : PySem.W.nsIn K mainGlobals "machine_fits" = some (some (.ref f_machine_fits)))
    (lk_machine_fits : K.lookup f_machine_fits = some ⟨oc_machine_fits, od_machine_fits, .func (PySem.W.fnOf "machine_fits" "machine_fits" (defArgs s_machine_fits) (defBody s_machine_fits) (defScope s_machine_fits) .none kV_machine_fits dc_machine_fits pm_machine_fits an_machine_fits cd_machine_fits ct_machine_fits), sl_machine_fits⟩)
    (co_machine_fits : PySem.W.codeIn K cd_machine_fits "machine_fits" = true)
    (ke_machine_fits : PySem.W.keepIn K (.ref f_machine_fits) = true)
    (at_limit_fits : PySem.W.nsIn K mainGlobals "limit_fits" = some (some (.ref f_limit_fits)))
    (lk_limit_fits : K.lookup f_limit_fits = some ⟨oc_limit_fits, od_limit_fits, .func (PySem.W.fnOf "limit_fits" "limit_fits" (defArgs s_limit_fits) (defBody s_limit_fits) (defScope s_limit_fits) .none kV_limit_fits dc_limit_fits pm_limit_fits an_limit_fits cd_limit_fits ct_limit_fits), sl_limit_fits⟩)
    (co_limit_fits : PySem.W.codeIn K cd_limit_fits "limit_fits" = true)
    (ke_limit_fits : PySem.W.keepIn K (.ref f_limit_fits) = true)
    (at_floors_fit : PySem.W.nsIn K mainGlobals "floors_fit" = some (some (.ref f_floors_fit)))
    (lk_floors_fit : K.lookup f_floors_fit = some ⟨oc_floors_fit, od_floors_fit, .func (PySem.W.fnOf "floors_fit" "floors_fit" (defArgs s_floors_fit) (defBody s_floors_fit) (defScope s_floors_fit) .none kV_floors_fit dc_floors_fit pm_floors_fit an_floors_fit cd_floors_fit ct_floors_fit), sl_floors_fit⟩)
    (co_floors_fit : PySem.W.codeIn K cd_floors_fit "floors_fit" = true)
    (ke_floors_fit : PySem.W.keepIn K (.ref f_floors_fit) = true)
    (at_group_fits : PySem.W.nsIn K mainGlobals "group_fits" = some (some (.ref f_group_fits)))
    (lk_group_fits : K.lookup f_group_fits = some ⟨oc_group_fits, od_group_fits, .func (PySem.W.fnOf "group_fits" "group_fits" (defArgs s_group_fits) (defBody s_group_fits) (defScope s_group_fits) .none kV_group_fits dc_group_fits pm_group_fits an_group_fits cd_group_fits ct_group_fits), sl_group_fits⟩)
    (co_group_fits : PySem.W.codeIn K cd_group_fits "group_fits" = true)
    (ke_group_fits : PySem.W.keepIn K (.ref f_group_fits) = true)
    (at_stage_fits : PySem.W.nsIn K mainGlobals "stage_fits" = some (some (.ref f_stage_fits)))
    (lk_stage_fits : K.lookup f_stage_fits = some ⟨oc_stage_fits, od_stage_fits, .func (PySem.W.fnOf "stage_fits" "stage_fits" (defArgs s_stage_fits) (defBody s_stage_fits) (defScope s_stage_fits) .none kV_stage_fits dc_stage_fits pm_stage_fits an_stage_fits cd_stage_fits ct_stage_fits), sl_stage_fits⟩)
    (co_stage_fits : PySem.W.codeIn K cd_stage_fits "stage_fits" = true)
    (ke_stage_fits : PySem.W.keepIn K (.ref f_stage_fits) = true)
    (at_wish_fits : PySem.W.nsIn K mainGlobals "wish_fits" = some (some (.ref f_wish_fits)))
    (lk_wish_fits : K.lookup f_wish_fits = some ⟨oc_wish_fits, od_wish_fits, .func (PySem.W.fnOf "wish_fits" "wish_fits" (defArgs s_wish_fits) (defBody s_wish_fits) (defScope s_wish_fits) .none kV_wish_fits dc_wish_fits pm_wish_fits an_wish_fits cd_wish_fits ct_wish_fits), sl_wish_fits⟩)
    (co_wish_fits : PySem.W.codeIn K cd_wish_fits "wish_fits" = true)
    (ke_wish_fits : PySem.W.keepIn K (.ref f_wish_fits) = true)
    (at_template_fits : PySem.W.nsIn K mainGlobals "template_fits" = some (some (.ref f_template_fits)))
    (lk_template_fits : K.lookup f_template_fits = some ⟨oc_template_fits, od_template_fits, .func (PySem.W.fnOf "template_fits" "template_fits" (defArgs s_template_fits) (defBody s_template_fits) (defScope s_template_fits) .none kV_template_fits dc_template_fits pm_template_fits an_template_fits cd_template_fits ct_template_fits), sl_template_fits⟩)
    (co_template_fits : PySem.W.codeIn K cd_template_fits "template_fits" = true)
    (ke_template_fits : PySem.W.keepIn K (.ref f_template_fits) = true)
    (at_check_foes : PySem.W.nsIn K mainGlobals "check_foes" = some (some (.ref f_check_foes)))
    (lk_check_foes : K.lookup f_check_foes = some ⟨oc_check_foes, od_check_foes, .func (PySem.W.fnOf "check_foes" "check_foes" (defArgs s_check_foes) (defBody s_check_foes) (defScope s_check_foes) .none kV_check_foes dc_check_foes pm_check_foes an_check_foes cd_check_foes ct_check_foes), sl_check_foes⟩)
    (co_check_foes : PySem.W.codeIn K cd_check_foes "check_foes" = true)
    (ke_check_foes : PySem.W.keepIn K (.ref f_check_foes) = true)
    (at_check_part : PySem.W.nsIn K mainGlobals "check_part" = some (some (.ref f_check_part)))
    (lk_check_part : K.lookup f_check_part = some ⟨oc_check_part, od_check_part, .func (PySem.W.fnOf "check_part" "check_part" (defArgs s_check_part) (defBody s_check_part) (defScope s_check_part) .none kV_check_part dc_check_part pm_check_part an_check_part cd_check_part ct_check_part), sl_check_part⟩)
    (co_check_part : PySem.W.codeIn K cd_check_part "check_part" = true)
    (ke_check_part : PySem.W.keepIn K (.ref f_check_part) = true)
    (at_check_rows : PySem.W.nsIn K mainGlobals "check_rows" = some (some (.ref f_check_rows)))
    (lk_check_rows : K.lookup f_check_rows = some ⟨oc_check_rows, od_check_rows, .func (PySem.W.fnOf "check_rows" "check_rows" (defArgs s_check_rows) (defBody s_check_rows) (defScope s_check_rows) .none kV_check_rows dc_check_rows pm_check_rows an_check_rows (.ref co_check_rows) ct_check_rows), sl_check_rows⟩)
    (cc_check_rows : PySem.W.codeIn K (.ref co_check_rows) "check_rows" = true)
    (hd_check_rows : PySem.W.codeHdIn K co_check_rows tb_check_rows = true)
    (nt_check_rows : K.lookup tb_check_rows = none)
    (ke_check_rows : PySem.W.keepIn K (.ref f_check_rows) = true)
    (at_index_of : PySem.W.nsIn K mainGlobals "index_of" = some (some (.ref f_index_of)))
    (lk_index_of : K.lookup f_index_of = some ⟨oc_index_of, od_index_of, .func (PySem.W.fnOf "index_of" "index_of" (defArgs s_index_of) (defBody s_index_of) (defScope s_index_of) .none kV_index_of dc_index_of pm_index_of an_index_of cd_index_of ct_index_of), sl_index_of⟩)
    (co_index_of : PySem.W.codeIn K cd_index_of "index_of" = true)
    (ke_index_of : PySem.W.keepIn K (.ref f_index_of) = true)
    (at_foes_of : PySem.W.nsIn K mainGlobals "foes_of" = some (some (.ref f_foes_of)))
    (lk_foes_of : K.lookup f_foes_of = some ⟨oc_foes_of, od_foes_of, .func (PySem.W.fnOf "foes_of" "foes_of" (defArgs s_foes_of) (defBody s_foes_of) (defScope s_foes_of) .none kV_foes_of dc_foes_of pm_foes_of an_foes_of cd_foes_of ct_foes_of), sl_foes_of⟩)
    (co_foes_of : PySem.W.codeIn K cd_foes_of "foes_of" = true)
    (ke_foes_of : PySem.W.keepIn K (.ref f_foes_of) = true)
    (at_Machine_init : PySem.W.findIn K (.ref c_Machine) "__init__" = some (some (.ref f_Machine_init)))
    (lk_Machine_init : K.lookup f_Machine_init = some ⟨oc_Machine_init, od_Machine_init, .func (PySem.W.fnOf "__init__" "Machine.__init__" (defArgs s_Machine_init) (defBody s_Machine_init) (defScope s_Machine_init) .none kV_Machine_init dc_Machine_init pm_Machine_init an_Machine_init cd_Machine_init ct_Machine_init), sl_Machine_init⟩)
    (co_Machine_init : PySem.W.codeIn K cd_Machine_init "Machine.__init__" = true)
    (ke_Machine_init : PySem.W.keepIn K (.ref f_Machine_init) = true)
    (fn_Machine_init : PySem.W.isFn K (.ref f_Machine_init) = true)
    (at_Group_init : PySem.W.findIn K (.ref c_Group) "__init__" = some (some (.ref f_Group_init)))
    (lk_Group_init : K.lookup f_Group_init = some ⟨oc_Group_init, od_Group_init, .func (PySem.W.fnOf "__init__" "Group.__init__" (defArgs s_Group_init) (defBody s_Group_init) (defScope s_Group_init) .none kV_Group_init dc_Group_init pm_Group_init an_Group_init cd_Group_init ct_Group_init), sl_Group_init⟩)
    (co_Group_init : PySem.W.codeIn K cd_Group_init "Group.__init__" = true)
    (ke_Group_init : PySem.W.keepIn K (.ref f_Group_init) = true)
    (fn_Group_init : PySem.W.isFn K (.ref f_Group_init) = true)
    (at_Stage_init : PySem.W.findIn K (.ref c_Stage) "__init__" = some (some (.ref f_Stage_init)))
    (lk_Stage_init : K.lookup f_Stage_init = some ⟨oc_Stage_init, od_Stage_init, .func (PySem.W.fnOf "__init__" "Stage.__init__" (defArgs s_Stage_init) (defBody s_Stage_init) (defScope s_Stage_init) .none kV_Stage_init dc_Stage_init pm_Stage_init an_Stage_init cd_Stage_init ct_Stage_init), sl_Stage_init⟩)
    (co_Stage_init : PySem.W.codeIn K cd_Stage_init "Stage.__init__" = true)
    (ke_Stage_init : PySem.W.keepIn K (.ref f_Stage_init) = true)
    (fn_Stage_init : PySem.W.isFn K (.ref f_Stage_init) = true)
    (at_Template_init : PySem.W.findIn K (.ref c_Template) "__init__" = some (some (.ref f_Template_init)))
    (lk_Template_init : K.lookup f_Template_init = some ⟨oc_Template_init, od_Template_init, .func (PySem.W.fnOf "__init__" "Template.__init__" (defArgs s_Template_init) (defBody s_Template_init) (defScope s_Template_init) .none kV_Template_init dc_Template_init pm_Template_init an_Template_init cd_Template_init ct_Template_init), sl_Template_init⟩)
    (co_Template_init : PySem.W.codeIn K cd_Template_init "Template.__init__" = true)
    (ke_Template_init : PySem.W.keepIn K (.ref f_Template_init) = true)
    (fn_Template_init : PySem.W.isFn K (.ref f_Template_init) = true)
    (at_Cluster_init : PySem.W.findIn K (.ref c_Cluster) "__init__" = some (some (.ref f_Cluster_init)))
    (lk_Cluster_init : K.lookup f_Cluster_init = some ⟨oc_Cluster_init, od_Cluster_init, .func (PySem.W.fnOf "__init__" "Cluster.__init__" (defArgs s_Cluster_init) (defBody s_Cluster_init) (defScope s_Cluster_init) .none kV_Cluster_init dc_Cluster_init pm_Cluster_init an_Cluster_init cd_Cluster_init ct_Cluster_init), sl_Cluster_init⟩)
    (co_Cluster_init : PySem.W.codeIn K cd_Cluster_init "Cluster.__init__" = true)
    (ke_Cluster_init : PySem.W.keepIn K (.ref f_Cluster_init) = true)
    (fn_Cluster_init : PySem.W.isFn K (.ref f_Cluster_init) = true)
    (at_used_at : PySem.W.nsIn K mainGlobals "used_at" = some (some (.ref f_used_at)))
    (lk_used_at : K.lookup f_used_at = some ⟨oc_used_at, od_used_at, .func (PySem.W.fnOf "used_at" "used_at" (defArgs s_used_at) (defBody s_used_at) (defScope s_used_at) .none kV_used_at dc_used_at pm_used_at an_used_at cd_used_at ct_used_at), sl_used_at⟩)
    (co_used_at : PySem.W.codeIn K cd_used_at "used_at" = true)
    (ke_used_at : PySem.W.keepIn K (.ref f_used_at) = true)
    (at_Takes_init : PySem.W.findIn K (.ref c_Takes) "__init__" = some (some (.ref f_Takes_init)))
    (lk_Takes_init : K.lookup f_Takes_init = some ⟨oc_Takes_init, od_Takes_init, .func (PySem.W.fnOf "__init__" "Takes.__init__" (defArgs s_Takes_init) (defBody s_Takes_init) (defScope s_Takes_init) .none kV_Takes_init dc_Takes_init pm_Takes_init an_Takes_init cd_Takes_init ct_Takes_init), sl_Takes_init⟩)
    (co_Takes_init : PySem.W.codeIn K cd_Takes_init "Takes.__init__" = true)
    (ke_Takes_init : PySem.W.keepIn K (.ref f_Takes_init) = true)
    (fn_Takes_init : PySem.W.isFn K (.ref f_Takes_init) = true)
    (at_Span_init : PySem.W.findIn K (.ref c_Span) "__init__" = some (some (.ref f_Span_init)))
    (lk_Span_init : K.lookup f_Span_init = some ⟨oc_Span_init, od_Span_init, .func (PySem.W.fnOf "__init__" "Span.__init__" (defArgs s_Span_init) (defBody s_Span_init) (defScope s_Span_init) .none kV_Span_init dc_Span_init pm_Span_init an_Span_init cd_Span_init ct_Span_init), sl_Span_init⟩)
    (co_Span_init : PySem.W.codeIn K cd_Span_init "Span.__init__" = true)
    (ke_Span_init : PySem.W.keepIn K (.ref f_Span_init) = true)
    (fn_Span_init : PySem.W.isFn K (.ref f_Span_init) = true)
    (at_Takes_common : PySem.W.findIn K (.ref c_Takes) "common" = some (some (.ref f_Takes_common)))
    (lk_Takes_common : K.lookup f_Takes_common = some ⟨oc_Takes_common, od_Takes_common, .func (PySem.W.fnOf "common" "Takes.common" (defArgs s_Takes_common) (defBody s_Takes_common) (defScope s_Takes_common) .none kV_Takes_common dc_Takes_common pm_Takes_common an_Takes_common cd_Takes_common ct_Takes_common), sl_Takes_common⟩)
    (co_Takes_common : PySem.W.codeIn K cd_Takes_common "Takes.common" = true)
    (ke_Takes_common : PySem.W.keepIn K (.ref f_Takes_common) = true)
    (fn_Takes_common : PySem.W.isFn K (.ref f_Takes_common) = true)
    (at_Takes_free : PySem.W.findIn K (.ref c_Takes) "free" = some (some (.ref f_Takes_free)))
    (lk_Takes_free : K.lookup f_Takes_free = some ⟨oc_Takes_free, od_Takes_free, .func (PySem.W.fnOf "free" "Takes.free" (defArgs s_Takes_free) (defBody s_Takes_free) (defScope s_Takes_free) .none kV_Takes_free dc_Takes_free pm_Takes_free an_Takes_free cd_Takes_free ct_Takes_free), sl_Takes_free⟩)
    (co_Takes_free : PySem.W.codeIn K cd_Takes_free "Takes.free" = true)
    (ke_Takes_free : PySem.W.keepIn K (.ref f_Takes_free) = true)
    (fn_Takes_free : PySem.W.isFn K (.ref f_Takes_free) = true)
    (at_Takes_users : PySem.W.findIn K (.ref c_Takes) "users" = some (some (.ref f_Takes_users)))
    (lk_Takes_users : K.lookup f_Takes_users = some ⟨oc_Takes_users, od_Takes_users, .func (PySem.W.fnOf "users" "Takes.users" (defArgs s_Takes_users) (defBody s_Takes_users) (defScope s_Takes_users) .none kV_Takes_users dc_Takes_users pm_Takes_users an_Takes_users cd_Takes_users ct_Takes_users), sl_Takes_users⟩)
    (co_Takes_users : PySem.W.codeIn K cd_Takes_users "Takes.users" = true)
    (ke_Takes_users : PySem.W.keepIn K (.ref f_Takes_users) = true)
    (fn_Takes_users : PySem.W.isFn K (.ref f_Takes_users) = true)
    (at_Takes_iter : PySem.W.findIn K (.ref c_Takes) "__iter__" = some (some (.ref f_Takes_iter)))
    (lk_Takes_iter : K.lookup f_Takes_iter = some ⟨oc_Takes_iter, od_Takes_iter, .func (PySem.W.fnOf "__iter__" "Takes.__iter__" (defArgs s_Takes_iter) (defBody s_Takes_iter) (defScope s_Takes_iter) .none kV_Takes_iter dc_Takes_iter pm_Takes_iter an_Takes_iter cd_Takes_iter ct_Takes_iter), sl_Takes_iter⟩)
    (co_Takes_iter : PySem.W.codeIn K cd_Takes_iter "Takes.__iter__" = true)
    (ke_Takes_iter : PySem.W.keepIn K (.ref f_Takes_iter) = true)
    (fn_Takes_iter : PySem.W.isFn K (.ref f_Takes_iter) = true)
    (at_Takes_add : PySem.W.findIn K (.ref c_Takes) "__add__" = some (some (.ref f_Takes_add)))
    (lk_Takes_add : K.lookup f_Takes_add = some ⟨oc_Takes_add, od_Takes_add, .func (PySem.W.fnOf "__add__" "Takes.__add__" (defArgs s_Takes_add) (defBody s_Takes_add) (defScope s_Takes_add) .none kV_Takes_add dc_Takes_add pm_Takes_add an_Takes_add cd_Takes_add ct_Takes_add), sl_Takes_add⟩)
    (co_Takes_add : PySem.W.codeIn K cd_Takes_add "Takes.__add__" = true)
    (ke_Takes_add : PySem.W.keepIn K (.ref f_Takes_add) = true)
    (fn_Takes_add : PySem.W.isFn K (.ref f_Takes_add) = true)
    (at_Cluster_stage_of : PySem.W.findIn K (.ref c_Cluster) "stage_of" = some (some (.ref f_Cluster_stage_of)))
    (lk_Cluster_stage_of : K.lookup f_Cluster_stage_of = some ⟨oc_Cluster_stage_of, od_Cluster_stage_of, .func (PySem.W.fnOf "stage_of" "Cluster.stage_of" (defArgs s_Cluster_stage_of) (defBody s_Cluster_stage_of) (defScope s_Cluster_stage_of) .none kV_Cluster_stage_of dc_Cluster_stage_of pm_Cluster_stage_of an_Cluster_stage_of cd_Cluster_stage_of ct_Cluster_stage_of), sl_Cluster_stage_of⟩)
    (co_Cluster_stage_of : PySem.W.codeIn K cd_Cluster_stage_of "Cluster.stage_of" = true)
    (ke_Cluster_stage_of : PySem.W.keepIn K (.ref f_Cluster_stage_of) = true)
    (fn_Cluster_stage_of : PySem.W.isFn K (.ref f_Cluster_stage_of) = true)
    (at_room_of : PySem.W.nsIn K mainGlobals "room_of" = some (some (.ref f_room_of)))
    (lk_room_of : K.lookup f_room_of = some ⟨oc_room_of, od_room_of, .func (PySem.W.fnOf "room_of" "room_of" (defArgs s_room_of) (defBody s_room_of) (defScope s_room_of) .none kV_room_of dc_room_of pm_room_of an_room_of cd_room_of ct_room_of), sl_room_of⟩)
    (co_room_of : PySem.W.codeIn K cd_room_of "room_of" = true)
    (ke_room_of : PySem.W.keepIn K (.ref f_room_of) = true)
    (at_bar_of : PySem.W.nsIn K mainGlobals "bar_of" = some (some (.ref f_bar_of)))
    (lk_bar_of : K.lookup f_bar_of = some ⟨oc_bar_of, od_bar_of, .func (PySem.W.fnOf "bar_of" "bar_of" (defArgs s_bar_of) (defBody s_bar_of) (defScope s_bar_of) .none kV_bar_of dc_bar_of pm_bar_of an_bar_of cd_bar_of ct_bar_of), sl_bar_of⟩)
    (co_bar_of : PySem.W.codeIn K cd_bar_of "bar_of" = true)
    (ke_bar_of : PySem.W.keepIn K (.ref f_bar_of) = true)
    (at_bound_of : PySem.W.nsIn K mainGlobals "bound_of" = some (some (.ref f_bound_of)))
    (lk_bound_of : K.lookup f_bound_of = some ⟨oc_bound_of, od_bound_of, .func (PySem.W.fnOf "bound_of" "bound_of" (defArgs s_bound_of) (defBody s_bound_of) (defScope s_bound_of) .none kV_bound_of dc_bound_of pm_bound_of an_bound_of cd_bound_of ct_bound_of), sl_bound_of⟩)
    (co_bound_of : PySem.W.codeIn K cd_bound_of "bound_of" = true)
    (ke_bound_of : PySem.W.keepIn K (.ref f_bound_of) = true)
    (at_bounds : PySem.W.nsIn K mainGlobals "bounds" = some (some (.ref f_bounds)))
    (lk_bounds : K.lookup f_bounds = some ⟨oc_bounds, od_bounds, .func (PySem.W.fnOf "bounds" "bounds" (defArgs s_bounds) (defBody s_bounds) (defScope s_bounds) (.ref T_bounds) kV_bounds dc_bounds pm_bounds an_bounds cd_bounds ct_bounds), sl_bounds⟩)
    (co_bounds : PySem.W.codeIn K cd_bounds "bounds" = true)
    (ke_bounds : PySem.W.keepIn K (.ref f_bounds) = true)
    (dl_bounds : K.lookup T_bounds = some ⟨oT_bounds, dT_bounds, .seq #[Value.ref dt0_bounds] nT_bounds, sT_bounds⟩)
    (td_dt0_bounds : K.lookup dt0_bounds = some ⟨.type "tuple", dD_dt0_bounds, .seq #[] nD_dt0_bounds, sD_dt0_bounds⟩)
    (at_seeded : PySem.W.nsIn K mainGlobals "_law_seeded" = some (some (.ref f_seeded)))
    (lk_seeded : K.lookup f_seeded = some ⟨oc_seeded, od_seeded, .func (PySem.W.fnOf "_law_seeded" "_law_seeded" (defArgs s_seeded) (defBody s_seeded) (defScope s_seeded) .none kV_seeded dc_seeded pm_seeded an_seeded cd_seeded ct_seeded), sl_seeded⟩)
    (co_seeded : PySem.W.codeIn K cd_seeded "_law_seeded" = true)
    (ke_seeded : PySem.W.keepIn K (.ref f_seeded) = true)
    (at_draw : PySem.W.nsIn K mainGlobals "_law_draw" = some (some (.ref f_draw)))
    (lk_draw : K.lookup f_draw = some ⟨oc_draw, od_draw, .func (PySem.W.fnOf "_law_draw" "_law_draw" (defArgs s_draw) (defBody s_draw) (defScope s_draw) .none kV_draw dc_draw pm_draw an_draw cd_draw ct_draw), sl_draw⟩)
    (co_draw : PySem.W.codeIn K cd_draw "_law_draw" = true)
    (ke_draw : PySem.W.keepIn K (.ref f_draw) = true)
    (at_named : PySem.W.nsIn K mainGlobals "_law_named" = some (some (.ref f_named)))
    (lk_named : K.lookup f_named = some ⟨oc_named, od_named, .func (PySem.W.fnOf "_law_named" "_law_named" (defArgs s_named) (defBody s_named) (defScope s_named) .none kV_named dc_named pm_named an_named cd_named ct_named), sl_named⟩)
    (co_named : PySem.W.codeIn K cd_named "_law_named" = true)
    (ke_named : PySem.W.keepIn K (.ref f_named) = true)
    (at_few : PySem.W.nsIn K mainGlobals "_law_few" = some (some (.ref f_few)))
    (lk_few : K.lookup f_few = some ⟨oc_few, od_few, .func (PySem.W.fnOf "_law_few" "_law_few" (defArgs s_few) (defBody s_few) (defScope s_few) .none kV_few dc_few pm_few an_few cd_few ct_few), sl_few⟩)
    (co_few : PySem.W.codeIn K cd_few "_law_few" = true)
    (ke_few : PySem.W.keepIn K (.ref f_few) = true)
    (at_asks : PySem.W.nsIn K mainGlobals "_law_asks" = some (some (.ref f_asks)))
    (lk_asks : K.lookup f_asks = some ⟨oc_asks, od_asks, .func (PySem.W.fnOf "_law_asks" "_law_asks" (defArgs s_asks) (defBody s_asks) (defScope s_asks) .none kV_asks dc_asks pm_asks an_asks cd_asks ct_asks), sl_asks⟩)
    (co_asks : PySem.W.codeIn K cd_asks "_law_asks" = true)
    (ke_asks : PySem.W.keepIn K (.ref f_asks) = true)
    (at_phase : PySem.W.nsIn K mainGlobals "_law_phase" = some (some (.ref f_phase)))
    (lk_phase : K.lookup f_phase = some ⟨oc_phase, od_phase, .func (PySem.W.fnOf "_law_phase" "_law_phase" (defArgs s_phase) (defBody s_phase) (defScope s_phase) .none kV_phase dc_phase pm_phase an_phase cd_phase ct_phase), sl_phase⟩)
    (co_phase : PySem.W.codeIn K cd_phase "_law_phase" = true)
    (ke_phase : PySem.W.keepIn K (.ref f_phase) = true)
    (at_machine : PySem.W.nsIn K mainGlobals "_law_machine" = some (some (.ref f_machine)))
    (lk_machine : K.lookup f_machine = some ⟨oc_machine, od_machine, .func (PySem.W.fnOf "_law_machine" "_law_machine" (defArgs s_machine) (defBody s_machine) (defScope s_machine) .none kV_machine dc_machine pm_machine an_machine cd_machine ct_machine), sl_machine⟩)
    (co_machine : PySem.W.codeIn K cd_machine "_law_machine" = true)
    (ke_machine : PySem.W.keepIn K (.ref f_machine) = true)
    (at_form : PySem.W.nsIn K mainGlobals "_law_form" = some (some (.ref f_form)))
    (lk_form : K.lookup f_form = some ⟨oc_form, od_form, .func (PySem.W.fnOf "_law_form" "_law_form" (defArgs s_form) (defBody s_form) (defScope s_form) .none kV_form dc_form pm_form an_form cd_form ct_form), sl_form⟩)
    (co_form : PySem.W.codeIn K cd_form "_law_form" = true)
    (ke_form : PySem.W.keepIn K (.ref f_form) = true)
    (at_made : PySem.W.nsIn K mainGlobals "_law_made" = some (some (.ref f_made)))
    (lk_made : K.lookup f_made = some ⟨oc_made, od_made, .func (PySem.W.fnOf "_law_made" "_law_made" (defArgs s_made) (defBody s_made) (defScope s_made) .none kV_made dc_made pm_made an_made cd_made ct_made), sl_made⟩)
    (co_made : PySem.W.codeIn K cd_made "_law_made" = true)
    (ke_made : PySem.W.keepIn K (.ref f_made) = true)
    (at_built : PySem.W.nsIn K mainGlobals "_law_built" = some (some (.ref f_built)))
    (lk_built : K.lookup f_built = some ⟨oc_built, od_built, .func (PySem.W.fnOf "_law_built" "_law_built" (defArgs s_built) (defBody s_built) (defScope s_built) .none kV_built dc_built pm_built an_built cd_built ct_built), sl_built⟩)
    (co_built : PySem.W.codeIn K cd_built "_law_built" = true)
    (ke_built : PySem.W.keepIn K (.ref f_built) = true)
    (at_clock : PySem.W.nsIn K mainGlobals "_law_clock" = some (some (.ref f_clock)))
    (lk_clock : K.lookup f_clock = some ⟨oc_clock, od_clock, .func (PySem.W.fnOf "_law_clock" "_law_clock" (defArgs s_clock) (defBody s_clock) (defScope s_clock) .none kV_clock dc_clock pm_clock an_clock cd_clock ct_clock), sl_clock⟩)
    (co_clock : PySem.W.codeIn K cd_clock "_law_clock" = true)
    (ke_clock : PySem.W.keepIn K (.ref f_clock) = true)
    (at_span : PySem.W.nsIn K mainGlobals "_law_span" = some (some (.ref f_span)))
    (lk_span : K.lookup f_span = some ⟨oc_span, od_span, .func (PySem.W.fnOf "_law_span" "_law_span" (defArgs s_span) (defBody s_span) (defScope s_span) .none kV_span dc_span pm_span an_span cd_span ct_span), sl_span⟩)
    (co_span : PySem.W.codeIn K cd_span "_law_span" = true)
    (ke_span : PySem.W.keepIn K (.ref f_span) = true)
    (at_taken : PySem.W.nsIn K mainGlobals "_law_taken" = some (some (.ref f_taken)))
    (lk_taken : K.lookup f_taken = some ⟨oc_taken, od_taken, .func (PySem.W.fnOf "_law_taken" "_law_taken" (defArgs s_taken) (defBody s_taken) (defScope s_taken) .none kV_taken dc_taken pm_taken an_taken cd_taken ct_taken), sl_taken⟩)
    (co_taken : PySem.W.codeIn K cd_taken "_law_taken" = true)
    (ke_taken : PySem.W.keepIn K (.ref f_taken) = true)
    (at_spare : PySem.W.nsIn K mainGlobals "_law_spare" = some (some (.ref f_spare)))
    (lk_spare : K.lookup f_spare = some ⟨oc_spare, od_spare, .func (PySem.W.fnOf "_law_spare" "_law_spare" (defArgs s_spare) (defBody s_spare) (defScope s_spare) .none kV_spare dc_spare pm_spare an_spare cd_spare ct_spare), sl_spare⟩)
    (co_spare : PySem.W.codeIn K cd_spare "_law_spare" = true)
    (ke_spare : PySem.W.keepIn K (.ref f_spare) = true)
    (at_wished : PySem.W.nsIn K mainGlobals "_law_wished" = some (some (.ref f_wished)))
    (lk_wished : K.lookup f_wished = some ⟨oc_wished, od_wished, .func (PySem.W.fnOf "_law_wished" "_law_wished" (defArgs s_wished) (defBody s_wished) (defScope s_wished) .none kV_wished dc_wished pm_wished an_wished cd_wished ct_wished), sl_wished⟩)
    (co_wished : PySem.W.codeIn K cd_wished "_law_wished" = true)
    (ke_wished : PySem.W.keepIn K (.ref f_wished) = true)
    (at_foes : PySem.W.nsIn K mainGlobals "_law_foes" = some (some (.ref f_foes)))
    (lk_foes : K.lookup f_foes = some ⟨oc_foes, od_foes, .func (PySem.W.fnOf "_law_foes" "_law_foes" (defArgs s_foes) (defBody s_foes) (defScope s_foes) .none kV_foes dc_foes pm_foes an_foes cd_foes ct_foes), sl_foes⟩)
    (co_foes : PySem.W.codeIn K cd_foes "_law_foes" = true)
    (ke_foes : PySem.W.keepIn K (.ref f_foes) = true)
    (at_meets : PySem.W.nsIn K mainGlobals "_law_meets" = some (some (.ref f_meets)))
    (lk_meets : K.lookup f_meets = some ⟨oc_meets, od_meets, .func (PySem.W.fnOf "_law_meets" "_law_meets" (defArgs s_meets) (defBody s_meets) (defScope s_meets) .none kV_meets dc_meets pm_meets an_meets cd_meets ct_meets), sl_meets⟩)
    (co_meets : PySem.W.codeIn K cd_meets "_law_meets" = true)
    (ke_meets : PySem.W.keepIn K (.ref f_meets) = true)
    (at_room : PySem.W.nsIn K mainGlobals "_law_room" = some (some (.ref f_room)))
    (lk_room : K.lookup f_room = some ⟨oc_room, od_room, .func (PySem.W.fnOf "_law_room" "_law_room" (defArgs s_room) (defBody s_room) (defScope s_room) .none kV_room dc_room pm_room an_room cd_room ct_room), sl_room⟩)
    (co_room : PySem.W.codeIn K cd_room "_law_room" = true)
    (ke_room : PySem.W.keepIn K (.ref f_room) = true)
    (at_cap : PySem.W.nsIn K mainGlobals "_law_cap" = some (some (.ref f_cap)))
    (lk_cap : K.lookup f_cap = some ⟨oc_cap, od_cap, .func (PySem.W.fnOf "_law_cap" "_law_cap" (defArgs s_cap) (defBody s_cap) (defScope s_cap) .none kV_cap dc_cap pm_cap an_cap cd_cap ct_cap), sl_cap⟩)
    (co_cap : PySem.W.codeIn K cd_cap "_law_cap" = true)
    (ke_cap : PySem.W.keepIn K (.ref f_cap) = true)
    (at_limits : PySem.W.nsIn K mainGlobals "_law_limits" = some (some (.ref f_limits)))
    (lk_limits : K.lookup f_limits = some ⟨oc_limits, od_limits, .func (PySem.W.fnOf "_law_limits" "_law_limits" (defArgs s_limits) (defBody s_limits) (defScope s_limits) .none kV_limits dc_limits pm_limits an_limits cd_limits ct_limits), sl_limits⟩)
    (co_limits : PySem.W.codeIn K cd_limits "_law_limits" = true)
    (ke_limits : PySem.W.keepIn K (.ref f_limits) = true)
    (at_pairs : PySem.W.nsIn K mainGlobals "_law_pairs" = some (some (.ref f_pairs)))
    (lk_pairs : K.lookup f_pairs = some ⟨oc_pairs, od_pairs, .func (PySem.W.fnOf "_law_pairs" "_law_pairs" (defArgs s_pairs) (defBody s_pairs) (defScope s_pairs) .none kV_pairs dc_pairs pm_pairs an_pairs cd_pairs ct_pairs), sl_pairs⟩)
    (co_pairs : PySem.W.codeIn K cd_pairs "_law_pairs" = true)
    (ke_pairs : PySem.W.keepIn K (.ref f_pairs) = true)
    (at_right : PySem.W.nsIn K mainGlobals "_law_right" = some (some (.ref f_right)))
    (lk_right : K.lookup f_right = some ⟨oc_right, od_right, .func (PySem.W.fnOf "_law_right" "_law_right" (defArgs s_right) (defBody s_right) (defScope s_right) .none kV_right dc_right pm_right an_right cd_right ct_right), sl_right⟩)
    (co_right : PySem.W.codeIn K cd_right "_law_right" = true)
    (ke_right : PySem.W.keepIn K (.ref f_right) = true)
    (at_gangs : PySem.W.nsIn K mainGlobals "_law_gangs" = some (some (.ref f_gangs)))
    (lk_gangs : K.lookup f_gangs = some ⟨oc_gangs, od_gangs, .func (PySem.W.fnOf "_law_gangs" "_law_gangs" (defArgs s_gangs) (defBody s_gangs) (defScope s_gangs) .none kV_gangs dc_gangs pm_gangs an_gangs cd_gangs ct_gangs), sl_gangs⟩)
    (co_gangs : PySem.W.codeIn K cd_gangs "_law_gangs" = true)
    (ke_gangs : PySem.W.keepIn K (.ref f_gangs) = true)
    (at_law : PySem.W.nsIn K mainGlobals "law" = some (some (.ref f_law)))
    (lk_law : K.lookup f_law = some ⟨oc_law, od_law, .func (PySem.W.fnOf "law" "law" (defArgs s_law) (defBody s_law) (defScope s_law) .none kV_law dc_law pm_law an_law cd_law ct_law), sl_law⟩)
    (co_law : PySem.W.codeIn K cd_law "law" = true)
    (ke_law : PySem.W.keepIn K (.ref f_law) = true)
    (pg_Amounts : PySem.W.plainGet K c_Amounts Str.empty = true)
    (hd_Amounts : PySem.W.hasDictIn K c_Amounts = true)
    (po_Amounts : PySem.W.plainOver K c_Amounts = true)
    (sa_Amounts : PySem.W.findIn K (.ref c_Amounts) "__setattr__" = some (some (.builtin "object.__setattr__")))
    (mk_Amounts : PySem.W.makesIn K c_Amounts = true)
    (kp_Amounts : PySem.W.keepIn K (.ref c_Amounts) = true)
    (sf_Amounts : PySem.W.selfFirst K c_Amounts = true)
    (k1_Amounts : PySem.W.findIn K (.ref c_Amounts) "__class__" = some (some (.builtin "object.__class__")))
    (k4_Amounts : PySem.W.mroIn K c_Amounts (.type "object") = some true)
    (no_Amounts_numbers : PySem.W.findIn K (.ref c_Amounts) "numbers" = some none)
    (ir_Amounts_mul : PySem.W.findIn K (.ref c_Amounts) "__rmul__" = some rc_Amounts_mul)
    (iz_Amounts_mul : (rc_Amounts_mul = none ∨ ∃ g : Addr, rc_Amounts_mul = some (.ref g)))
    (i1_Amounts_mul : PySem.W.findIn K (.type "int") "__mul__" = some fo_Amounts_mul)
    (i2_Amounts_mul : PySem.W.findIn K (.type "int") "__rmul__" = some ro_Amounts_mul)
    (is_Amounts_mul : PySem.W.subIn K (.type "int") (.ref c_Amounts) = some false)
    (pg_Takes : PySem.W.plainGet K c_Takes Str.empty = true)
    (hd_Takes : PySem.W.hasDictIn K c_Takes = true)
    (po_Takes : PySem.W.plainOver K c_Takes = true)
    (sa_Takes : PySem.W.findIn K (.ref c_Takes) "__setattr__" = some (some (.builtin "object.__setattr__")))
    (mk_Takes : PySem.W.makesIn K c_Takes = true)
    (kp_Takes : PySem.W.keepIn K (.ref c_Takes) = true)
    (sf_Takes : PySem.W.selfFirst K c_Takes = true)
    (k1_Takes : PySem.W.findIn K (.ref c_Takes) "__class__" = some (some (.builtin "object.__class__")))
    (k4_Takes : PySem.W.mroIn K c_Takes (.type "object") = some true)
    (no_Takes_cluster : PySem.W.findIn K (.ref c_Takes) "cluster" = some none)
    (no_Takes_rows : PySem.W.findIn K (.ref c_Takes) "rows" = some none)
    (ir_Takes_add : PySem.W.findIn K (.ref c_Takes) "__radd__" = some rc_Takes_add)
    (iz_Takes_add : (rc_Takes_add = none ∨ ∃ g : Addr, rc_Takes_add = some (.ref g)))
    (i1_Takes_add : PySem.W.findIn K (.type "list") "__add__" = some fo_Takes_add)
    (i2_Takes_add : PySem.W.findIn K (.type "list") "__radd__" = some ro_Takes_add)
    (is_Takes_add : PySem.W.subIn K (.type "list") (.ref c_Takes) = some false)
    (pg_Machine : PySem.W.plainGet K c_Machine Str.empty = true)
    (hd_Machine : PySem.W.hasDictIn K c_Machine = true)
    (po_Machine : PySem.W.plainOver K c_Machine = true)
    (sa_Machine : PySem.W.findIn K (.ref c_Machine) "__setattr__" = some (some (.builtin "object.__setattr__")))
    (mk_Machine : PySem.W.makesIn K c_Machine = true)
    (kp_Machine : PySem.W.keepIn K (.ref c_Machine) = true)
    (sf_Machine : PySem.W.selfFirst K c_Machine = true)
    (k1_Machine : PySem.W.findIn K (.ref c_Machine) "__class__" = some (some (.builtin "object.__class__")))
    (k4_Machine : PySem.W.mroIn K c_Machine (.type "object") = some true)
    (no_Machine_name : PySem.W.findIn K (.ref c_Machine) "name" = some none)
    (no_Machine_zone : PySem.W.findIn K (.ref c_Machine) "zone" = some none)
    (no_Machine_labels : PySem.W.findIn K (.ref c_Machine) "labels" = some none)
    (no_Machine_amounts : PySem.W.findIn K (.ref c_Machine) "amounts" = some none)
    (pg_Group : PySem.W.plainGet K c_Group Str.empty = true)
    (hd_Group : PySem.W.hasDictIn K c_Group = true)
    (po_Group : PySem.W.plainOver K c_Group = true)
    (sa_Group : PySem.W.findIn K (.ref c_Group) "__setattr__" = some (some (.builtin "object.__setattr__")))
    (mk_Group : PySem.W.makesIn K c_Group = true)
    (kp_Group : PySem.W.keepIn K (.ref c_Group) = true)
    (sf_Group : PySem.W.selfFirst K c_Group = true)
    (k1_Group : PySem.W.findIn K (.ref c_Group) "__class__" = some (some (.builtin "object.__class__")))
    (k4_Group : PySem.W.mroIn K c_Group (.type "object") = some true)
    (no_Group_name : PySem.W.findIn K (.ref c_Group) "name" = some none)
    (no_Group_parent : PySem.W.findIn K (.ref c_Group) "parent" = some none)
    (no_Group_weight : PySem.W.findIn K (.ref c_Group) "weight" = some none)
    (no_Group_floor : PySem.W.findIn K (.ref c_Group) "floor" = some none)
    (no_Group_limit : PySem.W.findIn K (.ref c_Group) "limit" = some none)
    (no_Group_path : PySem.W.findIn K (.ref c_Group) "path" = some none)
    (no_Group_leaf : PySem.W.findIn K (.ref c_Group) "leaf" = some none)
    (pg_Stage : PySem.W.plainGet K c_Stage Str.empty = true)
    (hd_Stage : PySem.W.hasDictIn K c_Stage = true)
    (po_Stage : PySem.W.plainOver K c_Stage = true)
    (sa_Stage : PySem.W.findIn K (.ref c_Stage) "__setattr__" = some (some (.builtin "object.__setattr__")))
    (mk_Stage : PySem.W.makesIn K c_Stage = true)
    (kp_Stage : PySem.W.keepIn K (.ref c_Stage) = true)
    (sf_Stage : PySem.W.selfFirst K c_Stage = true)
    (k1_Stage : PySem.W.findIn K (.ref c_Stage) "__class__" = some (some (.builtin "object.__class__")))
    (k4_Stage : PySem.W.mroIn K c_Stage (.type "object") = some true)
    (no_Stage_tasks : PySem.W.findIn K (.ref c_Stage) "tasks" = some none)
    (no_Stage_amounts : PySem.W.findIn K (.ref c_Stage) "amounts" = some none)
    (no_Stage_hours : PySem.W.findIn K (.ref c_Stage) "hours" = some none)
    (no_Stage_total : PySem.W.findIn K (.ref c_Stage) "total" = some none)
    (pg_Template : PySem.W.plainGet K c_Template Str.empty = true)
    (hd_Template : PySem.W.hasDictIn K c_Template = true)
    (po_Template : PySem.W.plainOver K c_Template = true)
    (sa_Template : PySem.W.findIn K (.ref c_Template) "__setattr__" = some (some (.builtin "object.__setattr__")))
    (mk_Template : PySem.W.makesIn K c_Template = true)
    (kp_Template : PySem.W.keepIn K (.ref c_Template) = true)
    (sf_Template : PySem.W.selfFirst K c_Template = true)
    (k1_Template : PySem.W.findIn K (.ref c_Template) "__class__" = some (some (.builtin "object.__class__")))
    (k4_Template : PySem.W.mroIn K c_Template (.type "object") = some true)
    (no_Template_name : PySem.W.findIn K (.ref c_Template) "name" = some none)
    (no_Template_group : PySem.W.findIn K (.ref c_Template) "group" = some none)
    (no_Template_rank : PySem.W.findIn K (.ref c_Template) "rank" = some none)
    (no_Template_every : PySem.W.findIn K (.ref c_Template) "every" = some none)
    (no_Template_stages : PySem.W.findIn K (.ref c_Template) "stages" = some none)
    (no_Template_wishes : PySem.W.findIn K (.ref c_Template) "wishes" = some none)
    (no_Template_needs : PySem.W.findIn K (.ref c_Template) "needs" = some none)
    (no_Template_bars : PySem.W.findIn K (.ref c_Template) "bars" = some none)
    (no_Template_likes : PySem.W.findIn K (.ref c_Template) "likes" = some none)
    (no_Template_foes : PySem.W.findIn K (.ref c_Template) "foes" = some none)
    (no_Template_near : PySem.W.findIn K (.ref c_Template) "near" = some none)
    (no_Template_apart : PySem.W.findIn K (.ref c_Template) "apart" = some none)
    (pg_Cluster : PySem.W.plainGet K c_Cluster Str.empty = true)
    (hd_Cluster : PySem.W.hasDictIn K c_Cluster = true)
    (po_Cluster : PySem.W.plainOver K c_Cluster = true)
    (sa_Cluster : PySem.W.findIn K (.ref c_Cluster) "__setattr__" = some (some (.builtin "object.__setattr__")))
    (mk_Cluster : PySem.W.makesIn K c_Cluster = true)
    (kp_Cluster : PySem.W.keepIn K (.ref c_Cluster) = true)
    (sf_Cluster : PySem.W.selfFirst K c_Cluster = true)
    (k1_Cluster : PySem.W.findIn K (.ref c_Cluster) "__class__" = some (some (.builtin "object.__class__")))
    (k4_Cluster : PySem.W.mroIn K c_Cluster (.type "object") = some true)
    (no_Cluster_parts : PySem.W.findIn K (.ref c_Cluster) "parts" = some none)
    (no_Cluster_resources : PySem.W.findIn K (.ref c_Cluster) "resources" = some none)
    (no_Cluster_machines : PySem.W.findIn K (.ref c_Cluster) "machines" = some none)
    (no_Cluster_groups : PySem.W.findIn K (.ref c_Cluster) "groups" = some none)
    (no_Cluster_templates : PySem.W.findIn K (.ref c_Cluster) "templates" = some none)
    (no_Cluster_total : PySem.W.findIn K (.ref c_Cluster) "total" = some none)
    (pg_Span : PySem.W.plainGet K c_Span Str.empty = true)
    (hd_Span : PySem.W.hasDictIn K c_Span = true)
    (po_Span : PySem.W.plainOver K c_Span = true)
    (sa_Span : PySem.W.findIn K (.ref c_Span) "__setattr__" = some (some (.builtin "object.__setattr__")))
    (mk_Span : PySem.W.makesIn K c_Span = true)
    (kp_Span : PySem.W.keepIn K (.ref c_Span) = true)
    (sf_Span : PySem.W.selfFirst K c_Span = true)
    (k1_Span : PySem.W.findIn K (.ref c_Span) "__class__" = some (some (.builtin "object.__class__")))
    (k4_Span : PySem.W.mroIn K c_Span (.type "object") = some true)
    (no_Span_start : PySem.W.findIn K (.ref c_Span) "start" = some none)
    (no_Span_end : PySem.W.findIn K (.ref c_Span) "end" = some none)
    (kg : PySem.W.specialIn K (.builtin "object.__class__") "__get__" = some (some (.builtin "getset_descriptor.__get__")))
    (kt : PySem.W.takesIn K (.builtin "object.__class__") = some true)
    (xl_GangError : K.lookup c_GangError = some (excClassObj nm_GangError q_GangError c_GangError N_GangError bs_GangError bm_GangError true sn_GangError sub_GangError ab_GangError col_GangError dd_GangError m0_GangError m1_GangError m2_GangError m3_GangError m5_GangError "ValueError.__new__"))
    (xr_GangError : PySem.HandSPX.refsVE bm_GangError = true)
    (xsa_GangError : PySem.W.findIn K (.ref c_GangError) "__setattr__" = some (some (.builtin "object.__setattr__")))
    (xex_GangError : PySem.W.subIn K (.ref c_GangError) (.type "BaseException") = some true)
    (xty_GangError : PySem.W.typeIn K (.ref c_GangError) = some (.type "type"))
    (xkp_GangError : PySem.W.keepIn K (.ref c_GangError) = true)
    (xin_GangError : PySem.W.findIn K (.ref c_GangError) "__init__" = some (some (.ref f_GangError_init)))
    (xno_GangError : PySem.W.findIn K (.ref c_GangError) "subject" = some none)
    (xga_GangError : PySem.W.findIn K (.ref c_GangError) "__getattribute__" = some (some (.builtin "BaseException.__getattribute__")))
    (xgg_GangError : PySem.W.findIn K (.ref c_GangError) "__getattr__" = some none)
    (xhd_GangError : PySem.W.hasDictIn K c_GangError = true)
    (xk1_GangError : PySem.W.findIn K (.ref c_GangError) "__class__" = some (some (.builtin "object.__class__")))
    (xk4_GangError : PySem.W.mroIn K c_GangError (.type "object") = some true)
    (xem_GangError : PySem.W.subIn K (.ref c_GangError) (.ref c_GangError) = some true)
    (xl_BadAmounts : K.lookup c_BadAmounts = some (excClassObj nm_BadAmounts q_BadAmounts c_BadAmounts N_BadAmounts bs_BadAmounts bm_BadAmounts true sn_BadAmounts sub_BadAmounts ab_BadAmounts col_BadAmounts dd_BadAmounts m0_BadAmounts m1_BadAmounts m2_BadAmounts m3_BadAmounts m5_BadAmounts "ValueError.__new__"))
    (xr_BadAmounts : PySem.HandSPX.refsVE bm_BadAmounts = true)
    (xsa_BadAmounts : PySem.W.findIn K (.ref c_BadAmounts) "__setattr__" = some (some (.builtin "object.__setattr__")))
    (xex_BadAmounts : PySem.W.subIn K (.ref c_BadAmounts) (.type "BaseException") = some true)
    (xty_BadAmounts : PySem.W.typeIn K (.ref c_BadAmounts) = some (.type "type"))
    (xkp_BadAmounts : PySem.W.keepIn K (.ref c_BadAmounts) = true)
    (xin_BadAmounts : PySem.W.findIn K (.ref c_BadAmounts) "__init__" = some (some (.ref f_GangError_init)))
    (xno_BadAmounts : PySem.W.findIn K (.ref c_BadAmounts) "subject" = some none)
    (xga_BadAmounts : PySem.W.findIn K (.ref c_BadAmounts) "__getattribute__" = some (some (.builtin "BaseException.__getattribute__")))
    (xgg_BadAmounts : PySem.W.findIn K (.ref c_BadAmounts) "__getattr__" = some none)
    (xhd_BadAmounts : PySem.W.hasDictIn K c_BadAmounts = true)
    (xk1_BadAmounts : PySem.W.findIn K (.ref c_BadAmounts) "__class__" = some (some (.builtin "object.__class__")))
    (xk4_BadAmounts : PySem.W.mroIn K c_BadAmounts (.type "object") = some true)
    (xem_BadAmounts : PySem.W.subIn K (.ref c_BadAmounts) (.ref c_GangError) = some true)
    (xl_BadRow : K.lookup c_BadRow = some (excClassObj nm_BadRow q_BadRow c_BadRow N_BadRow bs_BadRow bm_BadRow true sn_BadRow sub_BadRow ab_BadRow col_BadRow dd_BadRow m0_BadRow m1_BadRow m2_BadRow m3_BadRow m5_BadRow "ValueError.__new__"))
    (xr_BadRow : PySem.HandSPX.refsVE bm_BadRow = true)
    (xsa_BadRow : PySem.W.findIn K (.ref c_BadRow) "__setattr__" = some (some (.builtin "object.__setattr__")))
    (xex_BadRow : PySem.W.subIn K (.ref c_BadRow) (.type "BaseException") = some true)
    (xty_BadRow : PySem.W.typeIn K (.ref c_BadRow) = some (.type "type"))
    (xkp_BadRow : PySem.W.keepIn K (.ref c_BadRow) = true)
    (xin_BadRow : PySem.W.findIn K (.ref c_BadRow) "__init__" = some (some (.ref f_GangError_init)))
    (xno_BadRow : PySem.W.findIn K (.ref c_BadRow) "subject" = some none)
    (xga_BadRow : PySem.W.findIn K (.ref c_BadRow) "__getattribute__" = some (some (.builtin "BaseException.__getattribute__")))
    (xgg_BadRow : PySem.W.findIn K (.ref c_BadRow) "__getattr__" = some none)
    (xhd_BadRow : PySem.W.hasDictIn K c_BadRow = true)
    (xk1_BadRow : PySem.W.findIn K (.ref c_BadRow) "__class__" = some (some (.builtin "object.__class__")))
    (xk4_BadRow : PySem.W.mroIn K c_BadRow (.type "object") = some true)
    (xem_BadRow : PySem.W.subIn K (.ref c_BadRow) (.ref c_GangError) = some true)
    (xl_Unknown : K.lookup c_Unknown = some (excClassObj nm_Unknown q_Unknown c_Unknown N_Unknown bs_Unknown bm_Unknown true sn_Unknown sub_Unknown ab_Unknown col_Unknown dd_Unknown m0_Unknown m1_Unknown m2_Unknown m3_Unknown m5_Unknown "ValueError.__new__"))
    (xr_Unknown : PySem.HandSPX.refsVE bm_Unknown = true)
    (xsa_Unknown : PySem.W.findIn K (.ref c_Unknown) "__setattr__" = some (some (.builtin "object.__setattr__")))
    (xex_Unknown : PySem.W.subIn K (.ref c_Unknown) (.type "BaseException") = some true)
    (xty_Unknown : PySem.W.typeIn K (.ref c_Unknown) = some (.type "type"))
    (xkp_Unknown : PySem.W.keepIn K (.ref c_Unknown) = true)
    (xin_Unknown : PySem.W.findIn K (.ref c_Unknown) "__init__" = some (some (.ref f_GangError_init)))
    (xno_Unknown : PySem.W.findIn K (.ref c_Unknown) "subject" = some none)
    (xga_Unknown : PySem.W.findIn K (.ref c_Unknown) "__getattribute__" = some (some (.builtin "BaseException.__getattribute__")))
    (xgg_Unknown : PySem.W.findIn K (.ref c_Unknown) "__getattr__" = some none)
    (xhd_Unknown : PySem.W.hasDictIn K c_Unknown = true)
    (xk1_Unknown : PySem.W.findIn K (.ref c_Unknown) "__class__" = some (some (.builtin "object.__class__")))
    (xk4_Unknown : PySem.W.mroIn K c_Unknown (.type "object") = some true)
    (xem_Unknown : PySem.W.subIn K (.ref c_Unknown) (.ref c_GangError) = some true)
    (xl_BadSpan : K.lookup c_BadSpan = some (excClassObj nm_BadSpan q_BadSpan c_BadSpan N_BadSpan bs_BadSpan bm_BadSpan true sn_BadSpan sub_BadSpan ab_BadSpan col_BadSpan dd_BadSpan m0_BadSpan m1_BadSpan m2_BadSpan m3_BadSpan m5_BadSpan "ValueError.__new__"))
    (xr_BadSpan : PySem.HandSPX.refsVE bm_BadSpan = true)
    (xsa_BadSpan : PySem.W.findIn K (.ref c_BadSpan) "__setattr__" = some (some (.builtin "object.__setattr__")))
    (xex_BadSpan : PySem.W.subIn K (.ref c_BadSpan) (.type "BaseException") = some true)
    (xty_BadSpan : PySem.W.typeIn K (.ref c_BadSpan) = some (.type "type"))
    (xkp_BadSpan : PySem.W.keepIn K (.ref c_BadSpan) = true)
    (xin_BadSpan : PySem.W.findIn K (.ref c_BadSpan) "__init__" = some (some (.ref f_GangError_init)))
    (xno_BadSpan : PySem.W.findIn K (.ref c_BadSpan) "subject" = some none)
    (xga_BadSpan : PySem.W.findIn K (.ref c_BadSpan) "__getattribute__" = some (some (.builtin "BaseException.__getattribute__")))
    (xgg_BadSpan : PySem.W.findIn K (.ref c_BadSpan) "__getattr__" = some none)
    (xhd_BadSpan : PySem.W.hasDictIn K c_BadSpan = true)
    (xk1_BadSpan : PySem.W.findIn K (.ref c_BadSpan) "__class__" = some (some (.builtin "object.__class__")))
    (xk4_BadSpan : PySem.W.mroIn K c_BadSpan (.type "object") = some true)
    (xem_BadSpan : PySem.W.subIn K (.ref c_BadSpan) (.ref c_GangError) = some true)
    (tI_GangError : PySem.W.typeIn K (.ref f_GangError_init) = some (.type "function"))
    (si_Amounts : PySem.W.subIn K (.ref c_Amounts) (.type "int") = some false)
    (ty_Amounts : PySem.W.typeIn K (.ref c_Amounts) = some (.type "type"))
    (st_int_Amounts : PySem.W.subIn K (.type "int") (.ref c_Amounts) = some false)
    (ta_PLAIN_WISHES : PySem.W.nsIn K mainGlobals "PLAIN_WISHES" = some (some (.ref tc_PLAIN_WISHES)))
    (td_PLAIN_WISHES : K.lookup tc_PLAIN_WISHES = some ⟨.type "tuple", dT_PLAIN_WISHES, .seq #[Value.str (Str.ofString "near") tk0_PLAIN_WISHES, Value.str (Str.ofString "apart") tk1_PLAIN_WISHES] nT_PLAIN_WISHES, sT_PLAIN_WISHES⟩)
    (ta_NAMING_WISHES : PySem.W.nsIn K mainGlobals "NAMING_WISHES" = some (some (.ref tc_NAMING_WISHES)))
    (td_NAMING_WISHES : K.lookup tc_NAMING_WISHES = some ⟨.type "tuple", dT_NAMING_WISHES, .seq #[Value.str (Str.ofString "needs") tk0_NAMING_WISHES, Value.str (Str.ofString "bars") tk1_NAMING_WISHES, Value.str (Str.ofString "likes") tk2_NAMING_WISHES, Value.str (Str.ofString "never") tk3_NAMING_WISHES] nT_NAMING_WISHES, sT_NAMING_WISHES⟩)
    (nl_Takes : PySem.W.findIn K (.ref c_Takes) "__len__" = some none)
    (nh_Takes : PySem.W.findIn K (.ref c_Takes) "__length_hint__" = some none)
    (kc_LETTERS : PySem.W.nsIn K mainGlobals "LETTERS" = some (some (.str (Str.ofString "abcdefghijklmnopqrstuvwxyz") tk_LETTERS)))
    (kc_DIGITS : PySem.W.nsIn K mainGlobals "DIGITS" = some (some (.str (Str.ofString "0123456789") tk_DIGITS)))
    (kc_MOST_RESOURCES : PySem.W.nsIn K mainGlobals "MOST_RESOURCES" = some (some (.int 3 tk_MOST_RESOURCES)))
    (kc_MOST_MACHINES : PySem.W.nsIn K mainGlobals "MOST_MACHINES" = some (some (.int 6 tk_MOST_MACHINES)))
    (kc_MOST_GROUPS : PySem.W.nsIn K mainGlobals "MOST_GROUPS" = some (some (.int 8 tk_MOST_GROUPS)))
    (kc_MOST_TEMPLATES : PySem.W.nsIn K mainGlobals "MOST_TEMPLATES" = some (some (.int 8 tk_MOST_TEMPLATES)))
    (kc_MOST_LABELS : PySem.W.nsIn K mainGlobals "MOST_LABELS" = some (some (.int 6 tk_MOST_LABELS)))
    (kc_MOST_ABOVE : PySem.W.nsIn K mainGlobals "MOST_ABOVE" = some (some (.int 3 tk_MOST_ABOVE)))
    (kc_MOST_STAGES : PySem.W.nsIn K mainGlobals "MOST_STAGES" = some (some (.int 3 tk_MOST_STAGES)))
    (kc_MOST_WISHES : PySem.W.nsIn K mainGlobals "MOST_WISHES" = some (some (.int 6 tk_MOST_WISHES)))
    (kc_GREATEST_AMOUNT : PySem.W.nsIn K mainGlobals "GREATEST_AMOUNT" = some (some (.int 9999 tk_GREATEST_AMOUNT)))
    (RT : GL.RecTab K mg "check_rows" h)
    : ∃ (fd : FuncData) (cs : List (Addr × Addr)) (sp : Sp), (∀ p ∈ cs, h.get? p.2 = some { cls := .none, data := .fields #[] }) ∧ (∀ p ∈ cs, K.lookup p.2 = none) ∧ (∀ p ∈ cs, PySem.W.CodeHd h p.1 p.2) ∧ (∀ (s : Shared) (v : Value), BindsTo s fd ⟨[v], []⟩ [("_law_script", v)]) ∧
      (∀ (H : Hp) (a : Addr) (ns : List Int), ns.length ≤ 63 → (∀ z ∈ ns, Builtin.Int.intBits z ≤ 1048576) → (∀ p ∈ cs, H p.2 = some (.tbl #[])) → SqL K H a (ns.map V.int) → sp [.ref a] H (fun v _ => v = .bl true) fun _ _ _ => False) ∧
      ∀ base : Heap, K.In base → base.Ns mainGlobals mg → (∀ p ∈ cs, LamX.TabB base mg p.1 p.2) → FnOk P w K mg base CX0 17 fa fd ["_law_script"] sp := by
  have e := hfa.symm.trans (PySem.W.mg_of X G at_law)
  cases e
  let A : Adr := { c_Amounts := c_Amounts, c_Takes := c_Takes, c_Machine := c_Machine, c_Group := c_Group, c_Stage := c_Stage, c_Template := c_Template, c_Cluster := c_Cluster, c_Span := c_Span, c_GangError := c_GangError, c_BadAmounts := c_BadAmounts, c_BadRow := c_BadRow, c_Unknown := c_Unknown, c_BadSpan := c_BadSpan, tc_PLAIN_WISHES := tc_PLAIN_WISHES, tc_NAMING_WISHES := tc_NAMING_WISHES, dt0_bounds := dt0_bounds, co_check_rows := co_check_rows, tb_check_rows := tb_check_rows, f_GangError_init := f_GangError_init, d_GangError_init := PySem.W.fnOf "__init__" "GangError.__init__" (defArgs s_GangError_init) (defBody s_GangError_init) (defScope s_GangError_init) .none kV_GangError_init dc_GangError_init pm_GangError_init an_GangError_init cd_GangError_init ct_GangError_init, f_refuse_lengths := f_refuse_lengths, d_refuse_lengths := PySem.W.fnOf "refuse_lengths" "refuse_lengths" (defArgs s_refuse_lengths) (defBody s_refuse_lengths) (defScope s_refuse_lengths) .none kV_refuse_lengths dc_refuse_lengths pm_refuse_lengths an_refuse_lengths cd_refuse_lengths ct_refuse_lengths, f_Amounts_init := f_Amounts_init, d_Amounts_init := PySem.W.fnOf "__init__" "Amounts.__init__" (defArgs s_Amounts_init) (defBody s_Amounts_init) (defScope s_Amounts_init) .none kV_Amounts_init dc_Amounts_init pm_Amounts_init an_Amounts_init cd_Amounts_init ct_Amounts_init, f_Amounts_add := f_Amounts_add, d_Amounts_add := PySem.W.fnOf "__add__" "Amounts.__add__" (defArgs s_Amounts_add) (defBody s_Amounts_add) (defScope s_Amounts_add) .none kV_Amounts_add dc_Amounts_add pm_Amounts_add an_Amounts_add cd_Amounts_add ct_Amounts_add, f_Amounts_sub := f_Amounts_sub, d_Amounts_sub := PySem.W.fnOf "__sub__" "Amounts.__sub__" (defArgs s_Amounts_sub) (defBody s_Amounts_sub) (defScope s_Amounts_sub) .none kV_Amounts_sub dc_Amounts_sub pm_Amounts_sub an_Amounts_sub cd_Amounts_sub ct_Amounts_sub, f_Amounts_mul := f_Amounts_mul, d_Amounts_mul := PySem.W.fnOf "__mul__" "Amounts.__mul__" (defArgs s_Amounts_mul) (defBody s_Amounts_mul) (defScope s_Amounts_mul) .none kV_Amounts_mul dc_Amounts_mul pm_Amounts_mul an_Amounts_mul cd_Amounts_mul ct_Amounts_mul, f_Amounts_rmul := f_Amounts_rmul, d_Amounts_rmul := PySem.W.fnOf "__rmul__" "Amounts.__rmul__" (defArgs s_Amounts_rmul) (defBody s_Amounts_rmul) (defScope s_Amounts_rmul) .none kV_Amounts_rmul dc_Amounts_rmul pm_Amounts_rmul an_Amounts_rmul cd_Amounts_rmul ct_Amounts_rmul, f_Amounts_and := f_Amounts_and, d_Amounts_and := PySem.W.fnOf "__and__" "Amounts.__and__" (defArgs s_Amounts_and) (defBody s_Amounts_and) (defScope s_Amounts_and) .none kV_Amounts_and dc_Amounts_and pm_Amounts_and an_Amounts_and cd_Amounts_and ct_Amounts_and, f_Amounts_contains := f_Amounts_contains, d_Amounts_contains := PySem.W.fnOf "__contains__" "Amounts.__contains__" (defArgs s_Amounts_contains) (defBody s_Amounts_contains) (defScope s_Amounts_contains) .none kV_Amounts_contains dc_Amounts_contains pm_Amounts_contains an_Amounts_contains cd_Amounts_contains ct_Amounts_contains, f_Amounts_len := f_Amounts_len, d_Amounts_len := PySem.W.fnOf "__len__" "Amounts.__len__" (defArgs s_Amounts_len) (defBody s_Amounts_len) (defScope s_Amounts_len) .none kV_Amounts_len dc_Amounts_len pm_Amounts_len an_Amounts_len cd_Amounts_len ct_Amounts_len, f_Amounts_iter := f_Amounts_iter, d_Amounts_iter := PySem.W.fnOf "__iter__" "Amounts.__iter__" (defArgs s_Amounts_iter) (defBody s_Amounts_iter) (defScope s_Amounts_iter) .none kV_Amounts_iter dc_Amounts_iter pm_Amounts_iter an_Amounts_iter cd_Amounts_iter ct_Amounts_iter, f_is_name := f_is_name, d_is_name := PySem.W.fnOf "is_name" "is_name" (defArgs s_is_name) (defBody s_is_name) (defScope s_is_name) .none kV_is_name dc_is_name pm_is_name an_is_name cd_is_name ct_is_name, f_names_after := f_names_after, d_names_after := PySem.W.fnOf "names_after" "names_after" (defArgs s_names_after) (defBody s_names_after) (defScope s_names_after) .none kV_names_after dc_names_after pm_names_after an_names_after cd_names_after ct_names_after, f_path_of := f_path_of, d_path_of := PySem.W.fnOf "path_of" "path_of" (defArgs s_path_of) (defBody s_path_of) (defScope s_path_of) .none kV_path_of dc_path_of pm_path_of an_path_of cd_path_of ct_path_of, f_leaf_names := f_leaf_names, d_leaf_names := PySem.W.fnOf "leaf_names" "leaf_names" (defArgs s_leaf_names) (defBody s_leaf_names) (defScope s_leaf_names) .none kV_leaf_names dc_leaf_names pm_leaf_names an_leaf_names cd_leaf_names ct_leaf_names, f_is_name_new := f_is_name_new, d_is_name_new := PySem.W.fnOf "is_name_new" "is_name_new" (defArgs s_is_name_new) (defBody s_is_name_new) (defScope s_is_name_new) .none kV_is_name_new dc_is_name_new pm_is_name_new an_is_name_new cd_is_name_new ct_is_name_new, f_are_names := f_are_names, d_are_names := PySem.W.fnOf "are_names" "are_names" (defArgs s_are_names) (defBody s_are_names) (defScope s_are_names) .none kV_are_names dc_are_names pm_are_names an_are_names cd_are_names ct_are_names, f_amounts_fit := f_amounts_fit, d_amounts_fit := PySem.W.fnOf "amounts_fit" "amounts_fit" (defArgs s_amounts_fit) (defBody s_amounts_fit) (defScope s_amounts_fit) .none kV_amounts_fit dc_amounts_fit pm_amounts_fit an_amounts_fit cd_amounts_fit ct_amounts_fit, f_some_amounts_fit := f_some_amounts_fit, d_some_amounts_fit := PySem.W.fnOf "some_amounts_fit" "some_amounts_fit" (defArgs s_some_amounts_fit) (defBody s_some_amounts_fit) (defScope s_some_amounts_fit) .none kV_some_amounts_fit dc_some_amounts_fit pm_some_amounts_fit an_some_amounts_fit cd_some_amounts_fit ct_some_amounts_fit, f_machine_fits := f_machine_fits, d_machine_fits := PySem.W.fnOf "machine_fits" "machine_fits" (defArgs s_machine_fits) (defBody s_machine_fits) (defScope s_machine_fits) .none kV_machine_fits dc_machine_fits pm_machine_fits an_machine_fits cd_machine_fits ct_machine_fits, f_limit_fits := f_limit_fits, d_limit_fits := PySem.W.fnOf "limit_fits" "limit_fits" (defArgs s_limit_fits) (defBody s_limit_fits) (defScope s_limit_fits) .none kV_limit_fits dc_limit_fits pm_limit_fits an_limit_fits cd_limit_fits ct_limit_fits, f_floors_fit := f_floors_fit, d_floors_fit := PySem.W.fnOf "floors_fit" "floors_fit" (defArgs s_floors_fit) (defBody s_floors_fit) (defScope s_floors_fit) .none kV_floors_fit dc_floors_fit pm_floors_fit an_floors_fit cd_floors_fit ct_floors_fit, f_group_fits := f_group_fits, d_group_fits := PySem.W.fnOf "group_fits" "group_fits" (defArgs s_group_fits) (defBody s_group_fits) (defScope s_group_fits) .none kV_group_fits dc_group_fits pm_group_fits an_group_fits cd_group_fits ct_group_fits, f_stage_fits := f_stage_fits, d_stage_fits := PySem.W.fnOf "stage_fits" "stage_fits" (defArgs s_stage_fits) (defBody s_stage_fits) (defScope s_stage_fits) .none kV_stage_fits dc_stage_fits pm_stage_fits an_stage_fits cd_stage_fits ct_stage_fits, f_wish_fits := f_wish_fits, d_wish_fits := PySem.W.fnOf "wish_fits" "wish_fits" (defArgs s_wish_fits) (defBody s_wish_fits) (defScope s_wish_fits) .none kV_wish_fits dc_wish_fits pm_wish_fits an_wish_fits cd_wish_fits ct_wish_fits, f_template_fits := f_template_fits, d_template_fits := PySem.W.fnOf "template_fits" "template_fits" (defArgs s_template_fits) (defBody s_template_fits) (defScope s_template_fits) .none kV_template_fits dc_template_fits pm_template_fits an_template_fits cd_template_fits ct_template_fits, f_check_foes := f_check_foes, d_check_foes := PySem.W.fnOf "check_foes" "check_foes" (defArgs s_check_foes) (defBody s_check_foes) (defScope s_check_foes) .none kV_check_foes dc_check_foes pm_check_foes an_check_foes cd_check_foes ct_check_foes, f_check_part := f_check_part, d_check_part := PySem.W.fnOf "check_part" "check_part" (defArgs s_check_part) (defBody s_check_part) (defScope s_check_part) .none kV_check_part dc_check_part pm_check_part an_check_part cd_check_part ct_check_part, f_check_rows := f_check_rows, d_check_rows := PySem.W.fnOf "check_rows" "check_rows" (defArgs s_check_rows) (defBody s_check_rows) (defScope s_check_rows) .none kV_check_rows dc_check_rows pm_check_rows an_check_rows (.ref co_check_rows) ct_check_rows, f_index_of := f_index_of, d_index_of := PySem.W.fnOf "index_of" "index_of" (defArgs s_index_of) (defBody s_index_of) (defScope s_index_of) .none kV_index_of dc_index_of pm_index_of an_index_of cd_index_of ct_index_of, f_foes_of := f_foes_of, d_foes_of := PySem.W.fnOf "foes_of" "foes_of" (defArgs s_foes_of) (defBody s_foes_of) (defScope s_foes_of) .none kV_foes_of dc_foes_of pm_foes_of an_foes_of cd_foes_of ct_foes_of, f_Machine_init := f_Machine_init, d_Machine_init := PySem.W.fnOf "__init__" "Machine.__init__" (defArgs s_Machine_init) (defBody s_Machine_init) (defScope s_Machine_init) .none kV_Machine_init dc_Machine_init pm_Machine_init an_Machine_init cd_Machine_init ct_Machine_init, f_Group_init := f_Group_init, d_Group_init := PySem.W.fnOf "__init__" "Group.__init__" (defArgs s_Group_init) (defBody s_Group_init) (defScope s_Group_init) .none kV_Group_init dc_Group_init pm_Group_init an_Group_init cd_Group_init ct_Group_init, f_Stage_init := f_Stage_init, d_Stage_init := PySem.W.fnOf "__init__" "Stage.__init__" (defArgs s_Stage_init) (defBody s_Stage_init) (defScope s_Stage_init) .none kV_Stage_init dc_Stage_init pm_Stage_init an_Stage_init cd_Stage_init ct_Stage_init, f_Template_init := f_Template_init, d_Template_init := PySem.W.fnOf "__init__" "Template.__init__" (defArgs s_Template_init) (defBody s_Template_init) (defScope s_Template_init) .none kV_Template_init dc_Template_init pm_Template_init an_Template_init cd_Template_init ct_Template_init, f_Cluster_init := f_Cluster_init, d_Cluster_init := PySem.W.fnOf "__init__" "Cluster.__init__" (defArgs s_Cluster_init) (defBody s_Cluster_init) (defScope s_Cluster_init) .none kV_Cluster_init dc_Cluster_init pm_Cluster_init an_Cluster_init cd_Cluster_init ct_Cluster_init, f_used_at := f_used_at, d_used_at := PySem.W.fnOf "used_at" "used_at" (defArgs s_used_at) (defBody s_used_at) (defScope s_used_at) .none kV_used_at dc_used_at pm_used_at an_used_at cd_used_at ct_used_at, f_Takes_init := f_Takes_init, d_Takes_init := PySem.W.fnOf "__init__" "Takes.__init__" (defArgs s_Takes_init) (defBody s_Takes_init) (defScope s_Takes_init) .none kV_Takes_init dc_Takes_init pm_Takes_init an_Takes_init cd_Takes_init ct_Takes_init, f_Span_init := f_Span_init, d_Span_init := PySem.W.fnOf "__init__" "Span.__init__" (defArgs s_Span_init) (defBody s_Span_init) (defScope s_Span_init) .none kV_Span_init dc_Span_init pm_Span_init an_Span_init cd_Span_init ct_Span_init, f_Takes_common := f_Takes_common, d_Takes_common := PySem.W.fnOf "common" "Takes.common" (defArgs s_Takes_common) (defBody s_Takes_common) (defScope s_Takes_common) .none kV_Takes_common dc_Takes_common pm_Takes_common an_Takes_common cd_Takes_common ct_Takes_common, f_Takes_free := f_Takes_free, d_Takes_free := PySem.W.fnOf "free" "Takes.free" (defArgs s_Takes_free) (defBody s_Takes_free) (defScope s_Takes_free) .none kV_Takes_free dc_Takes_free pm_Takes_free an_Takes_free cd_Takes_free ct_Takes_free, f_Takes_users := f_Takes_users, d_Takes_users := PySem.W.fnOf "users" "Takes.users" (defArgs s_Takes_users) (defBody s_Takes_users) (defScope s_Takes_users) .none kV_Takes_users dc_Takes_users pm_Takes_users an_Takes_users cd_Takes_users ct_Takes_users, f_Takes_iter := f_Takes_iter, d_Takes_iter := PySem.W.fnOf "__iter__" "Takes.__iter__" (defArgs s_Takes_iter) (defBody s_Takes_iter) (defScope s_Takes_iter) .none kV_Takes_iter dc_Takes_iter pm_Takes_iter an_Takes_iter cd_Takes_iter ct_Takes_iter, f_Takes_add := f_Takes_add, d_Takes_add := PySem.W.fnOf "__add__" "Takes.__add__" (defArgs s_Takes_add) (defBody s_Takes_add) (defScope s_Takes_add) .none kV_Takes_add dc_Takes_add pm_Takes_add an_Takes_add cd_Takes_add ct_Takes_add, f_Cluster_stage_of := f_Cluster_stage_of, d_Cluster_stage_of := PySem.W.fnOf "stage_of" "Cluster.stage_of" (defArgs s_Cluster_stage_of) (defBody s_Cluster_stage_of) (defScope s_Cluster_stage_of) .none kV_Cluster_stage_of dc_Cluster_stage_of pm_Cluster_stage_of an_Cluster_stage_of cd_Cluster_stage_of ct_Cluster_stage_of, f_room_of := f_room_of, d_room_of := PySem.W.fnOf "room_of" "room_of" (defArgs s_room_of) (defBody s_room_of) (defScope s_room_of) .none kV_room_of dc_room_of pm_room_of an_room_of cd_room_of ct_room_of, f_bar_of := f_bar_of, d_bar_of := PySem.W.fnOf "bar_of" "bar_of" (defArgs s_bar_of) (defBody s_bar_of) (defScope s_bar_of) .none kV_bar_of dc_bar_of pm_bar_of an_bar_of cd_bar_of ct_bar_of, f_bound_of := f_bound_of, d_bound_of := PySem.W.fnOf "bound_of" "bound_of" (defArgs s_bound_of) (defBody s_bound_of) (defScope s_bound_of) .none kV_bound_of dc_bound_of pm_bound_of an_bound_of cd_bound_of ct_bound_of, f_bounds := f_bounds, d_bounds := PySem.W.fnOf "bounds" "bounds" (defArgs s_bounds) (defBody s_bounds) (defScope s_bounds) (.ref T_bounds) kV_bounds dc_bounds pm_bounds an_bounds cd_bounds ct_bounds, f_seeded := f_seeded, d_seeded := PySem.W.fnOf "_law_seeded" "_law_seeded" (defArgs s_seeded) (defBody s_seeded) (defScope s_seeded) .none kV_seeded dc_seeded pm_seeded an_seeded cd_seeded ct_seeded, f_draw := f_draw, d_draw := PySem.W.fnOf "_law_draw" "_law_draw" (defArgs s_draw) (defBody s_draw) (defScope s_draw) .none kV_draw dc_draw pm_draw an_draw cd_draw ct_draw, f_named := f_named, d_named := PySem.W.fnOf "_law_named" "_law_named" (defArgs s_named) (defBody s_named) (defScope s_named) .none kV_named dc_named pm_named an_named cd_named ct_named, f_few := f_few, d_few := PySem.W.fnOf "_law_few" "_law_few" (defArgs s_few) (defBody s_few) (defScope s_few) .none kV_few dc_few pm_few an_few cd_few ct_few, f_asks := f_asks, d_asks := PySem.W.fnOf "_law_asks" "_law_asks" (defArgs s_asks) (defBody s_asks) (defScope s_asks) .none kV_asks dc_asks pm_asks an_asks cd_asks ct_asks, f_phase := f_phase, d_phase := PySem.W.fnOf "_law_phase" "_law_phase" (defArgs s_phase) (defBody s_phase) (defScope s_phase) .none kV_phase dc_phase pm_phase an_phase cd_phase ct_phase, f_machine := f_machine, d_machine := PySem.W.fnOf "_law_machine" "_law_machine" (defArgs s_machine) (defBody s_machine) (defScope s_machine) .none kV_machine dc_machine pm_machine an_machine cd_machine ct_machine, f_form := f_form, d_form := PySem.W.fnOf "_law_form" "_law_form" (defArgs s_form) (defBody s_form) (defScope s_form) .none kV_form dc_form pm_form an_form cd_form ct_form, f_made := f_made, d_made := PySem.W.fnOf "_law_made" "_law_made" (defArgs s_made) (defBody s_made) (defScope s_made) .none kV_made dc_made pm_made an_made cd_made ct_made, f_built := f_built, d_built := PySem.W.fnOf "_law_built" "_law_built" (defArgs s_built) (defBody s_built) (defScope s_built) .none kV_built dc_built pm_built an_built cd_built ct_built, f_clock := f_clock, d_clock := PySem.W.fnOf "_law_clock" "_law_clock" (defArgs s_clock) (defBody s_clock) (defScope s_clock) .none kV_clock dc_clock pm_clock an_clock cd_clock ct_clock, f_span := f_span, d_span := PySem.W.fnOf "_law_span" "_law_span" (defArgs s_span) (defBody s_span) (defScope s_span) .none kV_span dc_span pm_span an_span cd_span ct_span, f_taken := f_taken, d_taken := PySem.W.fnOf "_law_taken" "_law_taken" (defArgs s_taken) (defBody s_taken) (defScope s_taken) .none kV_taken dc_taken pm_taken an_taken cd_taken ct_taken, f_spare := f_spare, d_spare := PySem.W.fnOf "_law_spare" "_law_spare" (defArgs s_spare) (defBody s_spare) (defScope s_spare) .none kV_spare dc_spare pm_spare an_spare cd_spare ct_spare, f_wished := f_wished, d_wished := PySem.W.fnOf "_law_wished" "_law_wished" (defArgs s_wished) (defBody s_wished) (defScope s_wished) .none kV_wished dc_wished pm_wished an_wished cd_wished ct_wished, f_foes := f_foes, d_foes := PySem.W.fnOf "_law_foes" "_law_foes" (defArgs s_foes) (defBody s_foes) (defScope s_foes) .none kV_foes dc_foes pm_foes an_foes cd_foes ct_foes, f_meets := f_meets, d_meets := PySem.W.fnOf "_law_meets" "_law_meets" (defArgs s_meets) (defBody s_meets) (defScope s_meets) .none kV_meets dc_meets pm_meets an_meets cd_meets ct_meets, f_room := f_room, d_room := PySem.W.fnOf "_law_room" "_law_room" (defArgs s_room) (defBody s_room) (defScope s_room) .none kV_room dc_room pm_room an_room cd_room ct_room, f_cap := f_cap, d_cap := PySem.W.fnOf "_law_cap" "_law_cap" (defArgs s_cap) (defBody s_cap) (defScope s_cap) .none kV_cap dc_cap pm_cap an_cap cd_cap ct_cap, f_limits := f_limits, d_limits := PySem.W.fnOf "_law_limits" "_law_limits" (defArgs s_limits) (defBody s_limits) (defScope s_limits) .none kV_limits dc_limits pm_limits an_limits cd_limits ct_limits, f_pairs := f_pairs, d_pairs := PySem.W.fnOf "_law_pairs" "_law_pairs" (defArgs s_pairs) (defBody s_pairs) (defScope s_pairs) .none kV_pairs dc_pairs pm_pairs an_pairs cd_pairs ct_pairs, f_right := f_right, d_right := PySem.W.fnOf "_law_right" "_law_right" (defArgs s_right) (defBody s_right) (defScope s_right) .none kV_right dc_right pm_right an_right cd_right ct_right, f_gangs := f_gangs, d_gangs := PySem.W.fnOf "_law_gangs" "_law_gangs" (defArgs s_gangs) (defBody s_gangs) (defScope s_gangs) .none kV_gangs dc_gangs pm_gangs an_gangs cd_gangs ct_gangs, f_law := fa, d_law := PySem.W.fnOf "law" "law" (defArgs s_law) (defBody s_law) (defScope s_law) .none kV_law dc_law pm_law an_law cd_law ct_law }
  have T : Txt K mg A := {
    n_abs := PySem.W.mg_none_of X G nb_abs
    n_all := PySem.W.mg_none_of X G nb_all
    n_any := PySem.W.mg_none_of X G nb_any
    n_bool := PySem.W.mg_none_of X G nb_bool
    n_enumerate := PySem.W.mg_none_of X G nb_enumerate
    n_int := PySem.W.mg_none_of X G nb_int
    n_isinstance := PySem.W.mg_none_of X G nb_isinstance
    n_iter := PySem.W.mg_none_of X G nb_iter
    n_len := PySem.W.mg_none_of X G nb_len
    n_list := PySem.W.mg_none_of X G nb_list
    n_max := PySem.W.mg_none_of X G nb_max
    n_min := PySem.W.mg_none_of X G nb_min
    n_range := PySem.W.mg_none_of X G nb_range
    n_set := PySem.W.mg_none_of X G nb_set
    n_sorted := PySem.W.mg_none_of X G nb_sorted
    n_str := PySem.W.mg_none_of X G nb_str
    n_sum := PySem.W.mg_none_of X G nb_sum
    n_tuple := PySem.W.mg_none_of X G nb_tuple
    n_zip := PySem.W.mg_none_of X G nb_zip
    g_Amounts := PySem.W.mg_of X G ag_Amounts
    g_Takes := PySem.W.mg_of X G ag_Takes
    g_Machine := PySem.W.mg_of X G ag_Machine
    g_Group := PySem.W.mg_of X G ag_Group
    g_Stage := PySem.W.mg_of X G ag_Stage
    g_Template := PySem.W.mg_of X G ag_Template
    g_Cluster := PySem.W.mg_of X G ag_Cluster
    g_Span := PySem.W.mg_of X G ag_Span
    g_GangError := PySem.W.mg_of X G ag_GangError
    g_BadAmounts := PySem.W.mg_of X G ag_BadAmounts
    g_BadRow := PySem.W.mg_of X G ag_BadRow
    g_Unknown := PySem.W.mg_of X G ag_Unknown
    g_BadSpan := PySem.W.mg_of X G ag_BadSpan
    F_GangError_init := fun_mk (st := s_GangError_init) lk_GangError_init co_GangError_init ke_GangError_init
    b_GangError_init := (fun_mk (st := s_GangError_init) lk_GangError_init co_GangError_init ke_GangError_init).binds (ps := ["self", "subject"]) fun _ _ _ _ _ _ us hl => match us, hl with | [_, _], _ => rfl
    me_GangError_init := ⟨at_GangError_init, fn_GangError_init, ke_GangError_init⟩
    F_refuse_lengths := fun_mk (st := s_refuse_lengths) lk_refuse_lengths co_refuse_lengths ke_refuse_lengths
    b_refuse_lengths := (fun_mk (st := s_refuse_lengths) lk_refuse_lengths co_refuse_lengths ke_refuse_lengths).binds (ps := ["left", "right"]) fun _ _ _ _ _ _ us hl => match us, hl with | [_, _], _ => rfl
    g_refuse_lengths := PySem.W.mg_of X G at_refuse_lengths
    F_Amounts_init := fun_mk (st := s_Amounts_init) lk_Amounts_init co_Amounts_init ke_Amounts_init
    me_Amounts_init := ⟨at_Amounts_init, fn_Amounts_init, ke_Amounts_init⟩
    F_Amounts_add := fun_mk (st := s_Amounts_add) lk_Amounts_add co_Amounts_add ke_Amounts_add
    b_Amounts_add := (fun_mk (st := s_Amounts_add) lk_Amounts_add co_Amounts_add ke_Amounts_add).binds (ps := ["self", "other"]) fun _ _ _ _ _ _ us hl => match us, hl with | [_, _], _ => rfl
    me_Amounts_add := ⟨at_Amounts_add, fn_Amounts_add, ke_Amounts_add⟩
    F_Amounts_sub := fun_mk (st := s_Amounts_sub) lk_Amounts_sub co_Amounts_sub ke_Amounts_sub
    b_Amounts_sub := (fun_mk (st := s_Amounts_sub) lk_Amounts_sub co_Amounts_sub ke_Amounts_sub).binds (ps := ["self", "other"]) fun _ _ _ _ _ _ us hl => match us, hl with | [_, _], _ => rfl
    me_Amounts_sub := ⟨at_Amounts_sub, fn_Amounts_sub, ke_Amounts_sub⟩
    F_Amounts_mul := fun_mk (st := s_Amounts_mul) lk_Amounts_mul co_Amounts_mul ke_Amounts_mul
    b_Amounts_mul := (fun_mk (st := s_Amounts_mul) lk_Amounts_mul co_Amounts_mul ke_Amounts_mul).binds (ps := ["self", "other"]) fun _ _ _ _ _ _ us hl => match us, hl with | [_, _], _ => rfl
    me_Amounts_mul := ⟨at_Amounts_mul, fn_Amounts_mul, ke_Amounts_mul⟩
    F_Amounts_rmul := fun_mk (st := s_Amounts_rmul) lk_Amounts_rmul co_Amounts_rmul ke_Amounts_rmul
    b_Amounts_rmul := (fun_mk (st := s_Amounts_rmul) lk_Amounts_rmul co_Amounts_rmul ke_Amounts_rmul).binds (ps := ["self", "other"]) fun _ _ _ _ _ _ us hl => match us, hl with | [_, _], _ => rfl
    me_Amounts_rmul := ⟨at_Amounts_rmul, fn_Amounts_rmul, ke_Amounts_rmul⟩
    F_Amounts_and := fun_mk (st := s_Amounts_and) lk_Amounts_and co_Amounts_and ke_Amounts_and
    b_Amounts_and := (fun_mk (st := s_Amounts_and) lk_Amounts_and co_Amounts_and ke_Amounts_and).binds (ps := ["self", "other"]) fun _ _ _ _ _ _ us hl => match us, hl with | [_, _], _ => rfl
    me_Amounts_and := ⟨at_Amounts_and, fn_Amounts_and, ke_Amounts_and⟩
    F_Amounts_contains := fun_mk (st := s_Amounts_contains) lk_Amounts_contains co_Amounts_contains ke_Amounts_contains
    b_Amounts_contains := (fun_mk (st := s_Amounts_contains) lk_Amounts_contains co_Amounts_contains ke_Amounts_contains).binds (ps := ["self", "x"]) fun _ _ _ _ _ _ us hl => match us, hl with | [_, _], _ => rfl
    me_Amounts_contains := ⟨at_Amounts_contains, fn_Amounts_contains, ke_Amounts_contains⟩
    F_Amounts_len := fun_mk (st := s_Amounts_len) lk_Amounts_len co_Amounts_len ke_Amounts_len
    b_Amounts_len := (fun_mk (st := s_Amounts_len) lk_Amounts_len co_Amounts_len ke_Amounts_len).binds (ps := ["self"]) fun _ _ _ _ _ _ us hl => match us, hl with | [_], _ => rfl
    me_Amounts_len := ⟨at_Amounts_len, fn_Amounts_len, ke_Amounts_len⟩
    F_Amounts_iter := fun_mk (st := s_Amounts_iter) lk_Amounts_iter co_Amounts_iter ke_Amounts_iter
    b_Amounts_iter := (fun_mk (st := s_Amounts_iter) lk_Amounts_iter co_Amounts_iter ke_Amounts_iter).binds (ps := ["self"]) fun _ _ _ _ _ _ us hl => match us, hl with | [_], _ => rfl
    me_Amounts_iter := ⟨at_Amounts_iter, fn_Amounts_iter, ke_Amounts_iter⟩
    F_is_name := fun_mk (st := s_is_name) lk_is_name co_is_name ke_is_name
    b_is_name := (fun_mk (st := s_is_name) lk_is_name co_is_name ke_is_name).binds (ps := ["text"]) fun _ _ _ _ _ _ us hl => match us, hl with | [_], _ => rfl
    g_is_name := PySem.W.mg_of X G at_is_name
    F_names_after := fun_mk (st := s_names_after) lk_names_after co_names_after ke_names_after
    b_names_after := (fun_mk (st := s_names_after) lk_names_after co_names_after ke_names_after).binds (ps := ["word", "wishes"]) fun _ _ _ _ _ _ us hl => match us, hl with | [_, _], _ => rfl
    g_names_after := PySem.W.mg_of X G at_names_after
    F_path_of := fun_mk (st := s_path_of) lk_path_of co_path_of ke_path_of
    b_path_of := (fun_mk (st := s_path_of) lk_path_of co_path_of ke_path_of).binds (ps := ["groups", "at"]) fun _ _ _ _ _ _ us hl => match us, hl with | [_, _], _ => rfl
    g_path_of := PySem.W.mg_of X G at_path_of
    F_leaf_names := fun_mk (st := s_leaf_names) lk_leaf_names co_leaf_names ke_leaf_names
    b_leaf_names := (fun_mk (st := s_leaf_names) lk_leaf_names co_leaf_names ke_leaf_names).binds (ps := ["groups"]) fun _ _ _ _ _ _ us hl => match us, hl with | [_], _ => rfl
    g_leaf_names := PySem.W.mg_of X G at_leaf_names
    F_is_name_new := fun_mk (st := s_is_name_new) lk_is_name_new co_is_name_new ke_is_name_new
    b_is_name_new := (fun_mk (st := s_is_name_new) lk_is_name_new co_is_name_new ke_is_name_new).binds (ps := ["names", "at"]) fun _ _ _ _ _ _ us hl => match us, hl with | [_, _], _ => rfl
    g_is_name_new := PySem.W.mg_of X G at_is_name_new
    F_are_names := fun_mk (st := s_are_names) lk_are_names co_are_names ke_are_names
    b_are_names := (fun_mk (st := s_are_names) lk_are_names co_are_names ke_are_names).binds (ps := ["texts"]) fun _ _ _ _ _ _ us hl => match us, hl with | [_], _ => rfl
    g_are_names := PySem.W.mg_of X G at_are_names
    F_amounts_fit := fun_mk (st := s_amounts_fit) lk_amounts_fit co_amounts_fit ke_amounts_fit
    b_amounts_fit := (fun_mk (st := s_amounts_fit) lk_amounts_fit co_amounts_fit ke_amounts_fit).binds (ps := ["numbers", "many"]) fun _ _ _ _ _ _ us hl => match us, hl with | [_, _], _ => rfl
    g_amounts_fit := PySem.W.mg_of X G at_amounts_fit
    F_some_amounts_fit := fun_mk (st := s_some_amounts_fit) lk_some_amounts_fit co_some_amounts_fit ke_some_amounts_fit
    b_some_amounts_fit := (fun_mk (st := s_some_amounts_fit) lk_some_amounts_fit co_some_amounts_fit ke_some_amounts_fit).binds (ps := ["numbers", "many"]) fun _ _ _ _ _ _ us hl => match us, hl with | [_, _], _ => rfl
    g_some_amounts_fit := PySem.W.mg_of X G at_some_amounts_fit
    F_machine_fits := fun_mk (st := s_machine_fits) lk_machine_fits co_machine_fits ke_machine_fits
    b_machine_fits := (fun_mk (st := s_machine_fits) lk_machine_fits co_machine_fits ke_machine_fits).binds (ps := ["machines", "at", "many"]) fun _ _ _ _ _ _ us hl => match us, hl with | [_, _, _], _ => rfl
    g_machine_fits := PySem.W.mg_of X G at_machine_fits
    F_limit_fits := fun_mk (st := s_limit_fits) lk_limit_fits co_limit_fits ke_limit_fits
    b_limit_fits := (fun_mk (st := s_limit_fits) lk_limit_fits co_limit_fits ke_limit_fits).binds (ps := ["floor", "limit"]) fun _ _ _ _ _ _ us hl => match us, hl with | [_, _], _ => rfl
    g_limit_fits := PySem.W.mg_of X G at_limit_fits
    F_floors_fit := fun_mk (st := s_floors_fit) lk_floors_fit co_floors_fit ke_floors_fit
    b_floors_fit := (fun_mk (st := s_floors_fit) lk_floors_fit co_floors_fit ke_floors_fit).binds (ps := ["groups", "at", "total"]) fun _ _ _ _ _ _ us hl => match us, hl with | [_, _, _], _ => rfl
    g_floors_fit := PySem.W.mg_of X G at_floors_fit
    F_group_fits := fun_mk (st := s_group_fits) lk_group_fits co_group_fits ke_group_fits
    b_group_fits := (fun_mk (st := s_group_fits) lk_group_fits co_group_fits ke_group_fits).binds (ps := ["groups", "at", "total"]) fun _ _ _ _ _ _ us hl => match us, hl with | [_, _, _], _ => rfl
    g_group_fits := PySem.W.mg_of X G at_group_fits
    F_stage_fits := fun_mk (st := s_stage_fits) lk_stage_fits co_stage_fits ke_stage_fits
    b_stage_fits := (fun_mk (st := s_stage_fits) lk_stage_fits co_stage_fits ke_stage_fits).binds (ps := ["stage", "many"]) fun _ _ _ _ _ _ us hl => match us, hl with | [_, _], _ => rfl
    g_stage_fits := PySem.W.mg_of X G at_stage_fits
    F_wish_fits := fun_mk (st := s_wish_fits) lk_wish_fits co_wish_fits ke_wish_fits
    b_wish_fits := (fun_mk (st := s_wish_fits) lk_wish_fits co_wish_fits ke_wish_fits).binds (ps := ["wish"]) fun _ _ _ _ _ _ us hl => match us, hl with | [_], _ => rfl
    g_wish_fits := PySem.W.mg_of X G at_wish_fits
    F_template_fits := fun_mk (st := s_template_fits) lk_template_fits co_template_fits ke_template_fits
    b_template_fits := (fun_mk (st := s_template_fits) lk_template_fits co_template_fits ke_template_fits).binds (ps := ["templates", "at", "leaves", "many"]) fun _ _ _ _ _ _ us hl => match us, hl with | [_, _, _, _], _ => rfl
    g_template_fits := PySem.W.mg_of X G at_template_fits
    F_check_foes := fun_mk (st := s_check_foes) lk_check_foes co_check_foes ke_check_foes
    b_check_foes := (fun_mk (st := s_check_foes) lk_check_foes co_check_foes ke_check_foes).binds (ps := ["templates"]) fun _ _ _ _ _ _ us hl => match us, hl with | [_], _ => rfl
    g_check_foes := PySem.W.mg_of X G at_check_foes
    F_check_part := fun_mk (st := s_check_part) lk_check_part co_check_part ke_check_part
    b_check_part := (fun_mk (st := s_check_part) lk_check_part co_check_part ke_check_part).binds (ps := ["part", "entries", "most", "fits"]) fun _ _ _ _ _ _ us hl => match us, hl with | [_, _, _, _], _ => rfl
    g_check_part := PySem.W.mg_of X G at_check_part
    FC_check_rows := ⟨_, _, _, _, _, _, _, _, rfl, lk_check_rows, cc_check_rows⟩
    F_check_rows := fun_mk (st := s_check_rows) lk_check_rows cc_check_rows ke_check_rows
    b_check_rows := (fun_mk (st := s_check_rows) lk_check_rows cc_check_rows ke_check_rows).binds (ps := ["resources", "machines", "groups", "templates"]) fun _ _ _ _ _ _ us hl => match us, hl with | [_, _, _, _], _ => rfl
    g_check_rows := PySem.W.mg_of X G at_check_rows
    F_index_of := fun_mk (st := s_index_of) lk_index_of co_index_of ke_index_of
    b_index_of := (fun_mk (st := s_index_of) lk_index_of co_index_of ke_index_of).binds (ps := ["rows", "name"]) fun _ _ _ _ _ _ us hl => match us, hl with | [_, _], _ => rfl
    g_index_of := PySem.W.mg_of X G at_index_of
    F_foes_of := fun_mk (st := s_foes_of) lk_foes_of co_foes_of ke_foes_of
    b_foes_of := (fun_mk (st := s_foes_of) lk_foes_of co_foes_of ke_foes_of).binds (ps := ["templates", "at"]) fun _ _ _ _ _ _ us hl => match us, hl with | [_, _], _ => rfl
    g_foes_of := PySem.W.mg_of X G at_foes_of
    F_Machine_init := fun_mk (st := s_Machine_init) lk_Machine_init co_Machine_init ke_Machine_init
    b_Machine_init := (fun_mk (st := s_Machine_init) lk_Machine_init co_Machine_init ke_Machine_init).binds (ps := ["self", "name", "zone", "labels", "numbers"]) fun _ _ _ _ _ _ us hl => match us, hl with | [_, _, _, _, _], _ => rfl
    me_Machine_init := ⟨at_Machine_init, fn_Machine_init, ke_Machine_init⟩
    F_Group_init := fun_mk (st := s_Group_init) lk_Group_init co_Group_init ke_Group_init
    b_Group_init := (fun_mk (st := s_Group_init) lk_Group_init co_Group_init ke_Group_init).binds (ps := ["self", "row", "path", "leaf"]) fun _ _ _ _ _ _ us hl => match us, hl with | [_, _, _, _], _ => rfl
    me_Group_init := ⟨at_Group_init, fn_Group_init, ke_Group_init⟩
    F_Stage_init := fun_mk (st := s_Stage_init) lk_Stage_init co_Stage_init ke_Stage_init
    b_Stage_init := (fun_mk (st := s_Stage_init) lk_Stage_init co_Stage_init ke_Stage_init).binds (ps := ["self", "tasks", "numbers", "hours"]) fun _ _ _ _ _ _ us hl => match us, hl with | [_, _, _, _], _ => rfl
    me_Stage_init := ⟨at_Stage_init, fn_Stage_init, ke_Stage_init⟩
    F_Template_init := fun_mk (st := s_Template_init) lk_Template_init co_Template_init ke_Template_init
    b_Template_init := (fun_mk (st := s_Template_init) lk_Template_init co_Template_init ke_Template_init).binds (ps := ["self", "row", "group", "foes"]) fun _ _ _ _ _ _ us hl => match us, hl with | [_, _, _, _], _ => rfl
    me_Template_init := ⟨at_Template_init, fn_Template_init, ke_Template_init⟩
    F_Cluster_init := fun_mk (st := s_Cluster_init) lk_Cluster_init co_Cluster_init ke_Cluster_init
    b_Cluster_init := (fun_mk (st := s_Cluster_init) lk_Cluster_init co_Cluster_init ke_Cluster_init).binds (ps := ["self", "resources", "machines", "groups", "templates"]) fun _ _ _ _ _ _ us hl => match us, hl with | [_, _, _, _, _], _ => rfl
    me_Cluster_init := ⟨at_Cluster_init, fn_Cluster_init, ke_Cluster_init⟩
    F_used_at := fun_mk (st := s_used_at) lk_used_at co_used_at ke_used_at
    b_used_at := (fun_mk (st := s_used_at) lk_used_at co_used_at ke_used_at).binds (ps := ["rows", "hour", "many"]) fun _ _ _ _ _ _ us hl => match us, hl with | [_, _, _], _ => rfl
    g_used_at := PySem.W.mg_of X G at_used_at
    F_Takes_init := fun_mk (st := s_Takes_init) lk_Takes_init co_Takes_init ke_Takes_init
    b_Takes_init := (fun_mk (st := s_Takes_init) lk_Takes_init co_Takes_init ke_Takes_init).binds (ps := ["self", "cluster", "rows"]) fun _ _ _ _ _ _ us hl => match us, hl with | [_, _, _], _ => rfl
    me_Takes_init := ⟨at_Takes_init, fn_Takes_init, ke_Takes_init⟩
    F_Span_init := fun_mk (st := s_Span_init) lk_Span_init co_Span_init ke_Span_init
    b_Span_init := (fun_mk (st := s_Span_init) lk_Span_init co_Span_init ke_Span_init).binds (ps := ["self", "start", "end"]) fun _ _ _ _ _ _ us hl => match us, hl with | [_, _, _], _ => rfl
    me_Span_init := ⟨at_Span_init, fn_Span_init, ke_Span_init⟩
    F_Takes_common := fun_mk (st := s_Takes_common) lk_Takes_common co_Takes_common ke_Takes_common
    b_Takes_common := (fun_mk (st := s_Takes_common) lk_Takes_common co_Takes_common ke_Takes_common).binds (ps := ["self", "machine", "span"]) fun _ _ _ _ _ _ us hl => match us, hl with | [_, _, _], _ => rfl
    me_Takes_common := ⟨at_Takes_common, fn_Takes_common, ke_Takes_common⟩
    F_Takes_free := fun_mk (st := s_Takes_free) lk_Takes_free co_Takes_free ke_Takes_free
    b_Takes_free := (fun_mk (st := s_Takes_free) lk_Takes_free co_Takes_free ke_Takes_free).binds (ps := ["self", "machine", "span"]) fun _ _ _ _ _ _ us hl => match us, hl with | [_, _, _], _ => rfl
    me_Takes_free := ⟨at_Takes_free, fn_Takes_free, ke_Takes_free⟩
    F_Takes_users := fun_mk (st := s_Takes_users) lk_Takes_users co_Takes_users ke_Takes_users
    b_Takes_users := (fun_mk (st := s_Takes_users) lk_Takes_users co_Takes_users ke_Takes_users).binds (ps := ["self", "machine", "span"]) fun _ _ _ _ _ _ us hl => match us, hl with | [_, _, _], _ => rfl
    me_Takes_users := ⟨at_Takes_users, fn_Takes_users, ke_Takes_users⟩
    F_Takes_iter := fun_mk (st := s_Takes_iter) lk_Takes_iter co_Takes_iter ke_Takes_iter
    b_Takes_iter := (fun_mk (st := s_Takes_iter) lk_Takes_iter co_Takes_iter ke_Takes_iter).binds (ps := ["self"]) fun _ _ _ _ _ _ us hl => match us, hl with | [_], _ => rfl
    me_Takes_iter := ⟨at_Takes_iter, fn_Takes_iter, ke_Takes_iter⟩
    F_Takes_add := fun_mk (st := s_Takes_add) lk_Takes_add co_Takes_add ke_Takes_add
    b_Takes_add := (fun_mk (st := s_Takes_add) lk_Takes_add co_Takes_add ke_Takes_add).binds (ps := ["self", "other"]) fun _ _ _ _ _ _ us hl => match us, hl with | [_, _], _ => rfl
    me_Takes_add := ⟨at_Takes_add, fn_Takes_add, ke_Takes_add⟩
    F_Cluster_stage_of := fun_mk (st := s_Cluster_stage_of) lk_Cluster_stage_of co_Cluster_stage_of ke_Cluster_stage_of
    b_Cluster_stage_of := (fun_mk (st := s_Cluster_stage_of) lk_Cluster_stage_of co_Cluster_stage_of ke_Cluster_stage_of).binds (ps := ["self", "gang"]) fun _ _ _ _ _ _ us hl => match us, hl with | [_, _], _ => rfl
    me_Cluster_stage_of := ⟨at_Cluster_stage_of, fn_Cluster_stage_of, ke_Cluster_stage_of⟩
    F_room_of := fun_mk (st := s_room_of) lk_room_of co_room_of ke_room_of
    b_room_of := (fun_mk (st := s_room_of) lk_room_of co_room_of ke_room_of).binds (ps := ["free", "amounts"]) fun _ _ _ _ _ _ us hl => match us, hl with | [_, _], _ => rfl
    g_room_of := PySem.W.mg_of X G at_room_of
    F_bar_of := fun_mk (st := s_bar_of) lk_bar_of co_bar_of ke_bar_of
    b_bar_of := (fun_mk (st := s_bar_of) lk_bar_of co_bar_of ke_bar_of).binds (ps := ["takes", "gang", "span", "barred", "at"]) fun _ _ _ _ _ _ us hl => match us, hl with | [_, _, _, _, _], _ => rfl
    g_bar_of := PySem.W.mg_of X G at_bar_of
    F_bound_of := fun_mk (st := s_bound_of) lk_bound_of co_bound_of ke_bound_of
    b_bound_of := (fun_mk (st := s_bound_of) lk_bound_of co_bound_of ke_bound_of).binds (ps := ["takes", "gang", "span", "barred", "at"]) fun _ _ _ _ _ _ us hl => match us, hl with | [_, _, _, _, _], _ => rfl
    g_bound_of := PySem.W.mg_of X G at_bound_of
    sq_dt0_bounds := fun H => .inr ⟨_, _, _, td_dt0_bounds, rfl, rfl, (by show 0 ≤ sizeLine; decide), .nil⟩
    F_bounds := ⟨⟨_, _, _, _, _, _, _, _, _, _, rfl, lk_bounds, co_bounds, .inr ⟨by simp, _, _, [Value.ref dt0_bounds], _, rfl, dl_bounds, rfl, .cons rfl (.nil)⟩, .inl rfl⟩, ke_bounds⟩
    b_bounds := binds_none (FunD.binds1 (ps := ["takes", "gang", "span", "barred"]) (show FunD K "bounds" "bounds" (defArgs s_bounds) (defBody s_bounds) (defScope s_bounds) [.ref A.dt0_bounds] [] f_bounds (PySem.W.fnOf "bounds" "bounds" (defArgs s_bounds) (defBody s_bounds) (defScope s_bounds) (.ref T_bounds) kV_bounds dc_bounds pm_bounds an_bounds cd_bounds ct_bounds) from ⟨⟨_, _, _, _, _, _, _, _, _, _, rfl, lk_bounds, co_bounds, .inr ⟨by simp, _, _, [Value.ref dt0_bounds], _, rfl, dl_bounds, rfl, .cons rfl (.nil)⟩, .inl rfl⟩, ke_bounds⟩) 4 1 (by simp) rfl (fun T kV doc pm an cdv ct us its hu hi => match us, its, hu, hi with | [_, _, _, _], [_], _, _ => ⟨_, rfl, rfl⟩))
    e_bounds := FunD.binds1 (ps := ["takes", "gang", "span", "barred"]) (show FunD K "bounds" "bounds" (defArgs s_bounds) (defBody s_bounds) (defScope s_bounds) [.ref A.dt0_bounds] [] f_bounds (PySem.W.fnOf "bounds" "bounds" (defArgs s_bounds) (defBody s_bounds) (defScope s_bounds) (.ref T_bounds) kV_bounds dc_bounds pm_bounds an_bounds cd_bounds ct_bounds) from ⟨⟨_, _, _, _, _, _, _, _, _, _, rfl, lk_bounds, co_bounds, .inr ⟨by simp, _, _, [Value.ref dt0_bounds], _, rfl, dl_bounds, rfl, .cons rfl (.nil)⟩, .inl rfl⟩, ke_bounds⟩) 3 0 (by simp) rfl (fun T kV doc pm an cdv ct us its hu hi => match us, its, hu, hi with | [_, _, _], [_], _, _ => ⟨_, rfl, rfl⟩)
    g_bounds := PySem.W.mg_of X G at_bounds
    F_seeded := fun_mk (st := s_seeded) lk_seeded co_seeded ke_seeded
    b_seeded := (fun_mk (st := s_seeded) lk_seeded co_seeded ke_seeded).binds (ps := ["_law_script"]) fun _ _ _ _ _ _ us hl => match us, hl with | [_], _ => rfl
    g_seeded := PySem.W.mg_of X G at_seeded
    F_draw := fun_mk (st := s_draw) lk_draw co_draw ke_draw
    b_draw := (fun_mk (st := s_draw) lk_draw co_draw ke_draw).binds (ps := ["_law_pool", "_law_many"]) fun _ _ _ _ _ _ us hl => match us, hl with | [_, _], _ => rfl
    g_draw := PySem.W.mg_of X G at_draw
    F_named := fun_mk (st := s_named) lk_named co_named ke_named
    b_named := (fun_mk (st := s_named) lk_named co_named ke_named).binds (ps := ["_law_pool"]) fun _ _ _ _ _ _ us hl => match us, hl with | [_], _ => rfl
    g_named := PySem.W.mg_of X G at_named
    F_few := fun_mk (st := s_few) lk_few co_few ke_few
    b_few := (fun_mk (st := s_few) lk_few co_few ke_few).binds (ps := ["_law_pool", "_law_kinds", "_law_top", "_law_scale"]) fun _ _ _ _ _ _ us hl => match us, hl with | [_, _, _, _], _ => rfl
    g_few := PySem.W.mg_of X G at_few
    F_asks := fun_mk (st := s_asks) lk_asks co_asks ke_asks
    b_asks := (fun_mk (st := s_asks) lk_asks co_asks ke_asks).binds (ps := ["_law_pool", "_law_names", "_law_count", "_law_most"]) fun _ _ _ _ _ _ us hl => match us, hl with | [_, _, _, _], _ => rfl
    g_asks := PySem.W.mg_of X G at_asks
    F_phase := fun_mk (st := s_phase) lk_phase co_phase ke_phase
    b_phase := (fun_mk (st := s_phase) lk_phase co_phase ke_phase).binds (ps := ["_law_pool", "_law_kinds", "_law_scale", "_law_most"]) fun _ _ _ _ _ _ us hl => match us, hl with | [_, _, _, _], _ => rfl
    g_phase := PySem.W.mg_of X G at_phase
    F_machine := fun_mk (st := s_machine) lk_machine co_machine ke_machine
    b_machine := (fun_mk (st := s_machine) lk_machine co_machine ke_machine).binds (ps := ["_law_pool", "_law_names", "_law_kinds", "_law_scale", "_law_most"]) fun _ _ _ _ _ _ us hl => match us, hl with | [_, _, _, _, _], _ => rfl
    g_machine := PySem.W.mg_of X G at_machine
    F_form := fun_mk (st := s_form) lk_form co_form ke_form
    b_form := (fun_mk (st := s_form) lk_form co_form ke_form).binds (ps := ["_law_pool", "_law_names", "_law_count", "_law_kinds", "_law_scale", "_law_most"]) fun _ _ _ _ _ _ us hl => match us, hl with | [_, _, _, _, _, _], _ => rfl
    g_form := PySem.W.mg_of X G at_form
    F_made := fun_mk (st := s_made) lk_made co_made ke_made
    b_made := (fun_mk (st := s_made) lk_made co_made ke_made).binds (ps := ["_law_pool", "_law_most"]) fun _ _ _ _ _ _ us hl => match us, hl with | [_, _], _ => rfl
    g_made := PySem.W.mg_of X G at_made
    F_built := fun_mk (st := s_built) lk_built co_built ke_built
    b_built := (fun_mk (st := s_built) lk_built co_built ke_built).binds (ps := ["_law_world"]) fun _ _ _ _ _ _ us hl => match us, hl with | [_], _ => rfl
    g_built := PySem.W.mg_of X G at_built
    F_clock := fun_mk (st := s_clock) lk_clock co_clock ke_clock
    b_clock := (fun_mk (st := s_clock) lk_clock co_clock ke_clock).binds (ps := ["_law_pool"]) fun _ _ _ _ _ _ us hl => match us, hl with | [_], _ => rfl
    g_clock := PySem.W.mg_of X G at_clock
    F_span := fun_mk (st := s_span) lk_span co_span ke_span
    b_span := (fun_mk (st := s_span) lk_span co_span ke_span).binds (ps := ["_law_pool", "_law_world"]) fun _ _ _ _ _ _ us hl => match us, hl with | [_, _], _ => rfl
    g_span := PySem.W.mg_of X G at_span
    F_taken := fun_mk (st := s_taken) lk_taken co_taken ke_taken
    b_taken := (fun_mk (st := s_taken) lk_taken co_taken ke_taken).binds (ps := ["_law_pool", "_law_world"]) fun _ _ _ _ _ _ us hl => match us, hl with | [_, _], _ => rfl
    g_taken := PySem.W.mg_of X G at_taken
    F_spare := fun_mk (st := s_spare) lk_spare co_spare ke_spare
    b_spare := (fun_mk (st := s_spare) lk_spare co_spare ke_spare).binds (ps := ["_law_world", "_law_rows", "_law_machine_here", "_law_hour"]) fun _ _ _ _ _ _ us hl => match us, hl with | [_, _, _, _], _ => rfl
    g_spare := PySem.W.mg_of X G at_spare
    F_wished := fun_mk (st := s_wished) lk_wished co_wished ke_wished
    b_wished := (fun_mk (st := s_wished) lk_wished co_wished ke_wished).binds (ps := ["_law_world", "_law_gang", "_law_word"]) fun _ _ _ _ _ _ us hl => match us, hl with | [_, _, _], _ => rfl
    g_wished := PySem.W.mg_of X G at_wished
    F_foes := fun_mk (st := s_foes) lk_foes co_foes ke_foes
    b_foes := (fun_mk (st := s_foes) lk_foes co_foes ke_foes).binds (ps := ["_law_world", "_law_gang"]) fun _ _ _ _ _ _ us hl => match us, hl with | [_, _], _ => rfl
    g_foes := PySem.W.mg_of X G at_foes
    F_meets := fun_mk (st := s_meets) lk_meets co_meets ke_meets
    b_meets := (fun_mk (st := s_meets) lk_meets co_meets ke_meets).binds (ps := ["_law_world", "_law_rows", "_law_gang", "_law_machine_here", "_law_marks"]) fun _ _ _ _ _ _ us hl => match us, hl with | [_, _, _, _, _], _ => rfl
    g_meets := PySem.W.mg_of X G at_meets
    F_room := fun_mk (st := s_room) lk_room co_room ke_room
    b_room := (fun_mk (st := s_room) lk_room co_room ke_room).binds (ps := ["_law_world", "_law_rows", "_law_gang", "_law_machine_here", "_law_marks"]) fun _ _ _ _ _ _ us hl => match us, hl with | [_, _, _, _, _], _ => rfl
    g_room := PySem.W.mg_of X G at_room
    F_cap := fun_mk (st := s_cap) lk_cap co_cap ke_cap
    b_cap := (fun_mk (st := s_cap) lk_cap co_cap ke_cap).binds (ps := ["_law_world", "_law_rows", "_law_gang", "_law_machine_here", "_law_marks", "_law_out"]) fun _ _ _ _ _ _ us hl => match us, hl with | [_, _, _, _, _, _], _ => rfl
    g_cap := PySem.W.mg_of X G at_cap
    F_limits := fun_mk (st := s_limits) lk_limits co_limits ke_limits
    b_limits := (fun_mk (st := s_limits) lk_limits co_limits ke_limits).binds (ps := ["_law_world", "_law_rows", "_law_gang", "_law_pair", "_law_out"]) fun _ _ _ _ _ _ us hl => match us, hl with | [_, _, _, _, _], _ => rfl
    g_limits := PySem.W.mg_of X G at_limits
    F_pairs := fun_mk (st := s_pairs) lk_pairs co_pairs ke_pairs
    b_pairs := (fun_mk (st := s_pairs) lk_pairs co_pairs ke_pairs).binds (ps := ["_law_told", "_law_due"]) fun _ _ _ _ _ _ us hl => match us, hl with | [_, _], _ => rfl
    g_pairs := PySem.W.mg_of X G at_pairs
    F_right := fun_mk (st := s_right) lk_right co_right ke_right
    b_right := (fun_mk (st := s_right) lk_right co_right ke_right).binds (ps := ["_law_world", "_law_rows", "_law_takes", "_law_gang", "_law_pair", "_law_out"]) fun _ _ _ _ _ _ us hl => match us, hl with | [_, _, _, _, _, _], _ => rfl
    g_right := PySem.W.mg_of X G at_right
    F_gangs := fun_mk (st := s_gangs) lk_gangs co_gangs ke_gangs
    b_gangs := (fun_mk (st := s_gangs) lk_gangs co_gangs ke_gangs).binds (ps := ["_law_world"]) fun _ _ _ _ _ _ us hl => match us, hl with | [_], _ => rfl
    g_gangs := PySem.W.mg_of X G at_gangs
    F_law := fun_mk (st := s_law) lk_law co_law ke_law
    b_law := (fun_mk (st := s_law) lk_law co_law ke_law).binds (ps := ["_law_script"]) fun _ _ _ _ _ _ us hl => match us, hl with | [_], _ => rfl
    g_law := PySem.W.mg_of X G at_law
    cl_Amounts := ⟨pg_Amounts, hd_Amounts, po_Amounts, sa_Amounts⟩
    mk_Amounts := ⟨mk_Amounts, at_Amounts_init, fn_Amounts_init, kp_Amounts⟩
    sf_Amounts := sf_Amounts
    k1_Amounts := k1_Amounts
    k4_Amounts := k4_Amounts
    no_Amounts_numbers := no_Amounts_numbers
    i_Amounts_mul := ⟨⟨_, ir_Amounts_mul, iz_Amounts_mul⟩, ⟨_, i1_Amounts_mul⟩, ⟨_, i2_Amounts_mul⟩, is_Amounts_mul⟩
    cl_Takes := ⟨pg_Takes, hd_Takes, po_Takes, sa_Takes⟩
    mk_Takes := ⟨mk_Takes, at_Takes_init, fn_Takes_init, kp_Takes⟩
    sf_Takes := sf_Takes
    k1_Takes := k1_Takes
    k4_Takes := k4_Takes
    no_Takes_cluster := no_Takes_cluster
    no_Takes_rows := no_Takes_rows
    l_Takes_add := ⟨⟨_, ir_Takes_add, iz_Takes_add⟩, ⟨_, i1_Takes_add⟩, ⟨_, i2_Takes_add⟩, is_Takes_add⟩
    cl_Machine := ⟨pg_Machine, hd_Machine, po_Machine, sa_Machine⟩
    mk_Machine := ⟨mk_Machine, at_Machine_init, fn_Machine_init, kp_Machine⟩
    sf_Machine := sf_Machine
    k1_Machine := k1_Machine
    k4_Machine := k4_Machine
    no_Machine_name := no_Machine_name
    no_Machine_zone := no_Machine_zone
    no_Machine_labels := no_Machine_labels
    no_Machine_amounts := no_Machine_amounts
    cl_Group := ⟨pg_Group, hd_Group, po_Group, sa_Group⟩
    mk_Group := ⟨mk_Group, at_Group_init, fn_Group_init, kp_Group⟩
    sf_Group := sf_Group
    k1_Group := k1_Group
    k4_Group := k4_Group
    no_Group_name := no_Group_name
    no_Group_parent := no_Group_parent
    no_Group_weight := no_Group_weight
    no_Group_floor := no_Group_floor
    no_Group_limit := no_Group_limit
    no_Group_path := no_Group_path
    no_Group_leaf := no_Group_leaf
    cl_Stage := ⟨pg_Stage, hd_Stage, po_Stage, sa_Stage⟩
    mk_Stage := ⟨mk_Stage, at_Stage_init, fn_Stage_init, kp_Stage⟩
    sf_Stage := sf_Stage
    k1_Stage := k1_Stage
    k4_Stage := k4_Stage
    no_Stage_tasks := no_Stage_tasks
    no_Stage_amounts := no_Stage_amounts
    no_Stage_hours := no_Stage_hours
    no_Stage_total := no_Stage_total
    cl_Template := ⟨pg_Template, hd_Template, po_Template, sa_Template⟩
    mk_Template := ⟨mk_Template, at_Template_init, fn_Template_init, kp_Template⟩
    sf_Template := sf_Template
    k1_Template := k1_Template
    k4_Template := k4_Template
    no_Template_name := no_Template_name
    no_Template_group := no_Template_group
    no_Template_rank := no_Template_rank
    no_Template_every := no_Template_every
    no_Template_stages := no_Template_stages
    no_Template_wishes := no_Template_wishes
    no_Template_needs := no_Template_needs
    no_Template_bars := no_Template_bars
    no_Template_likes := no_Template_likes
    no_Template_foes := no_Template_foes
    no_Template_near := no_Template_near
    no_Template_apart := no_Template_apart
    cl_Cluster := ⟨pg_Cluster, hd_Cluster, po_Cluster, sa_Cluster⟩
    mk_Cluster := ⟨mk_Cluster, at_Cluster_init, fn_Cluster_init, kp_Cluster⟩
    sf_Cluster := sf_Cluster
    k1_Cluster := k1_Cluster
    k4_Cluster := k4_Cluster
    no_Cluster_parts := no_Cluster_parts
    no_Cluster_resources := no_Cluster_resources
    no_Cluster_machines := no_Cluster_machines
    no_Cluster_groups := no_Cluster_groups
    no_Cluster_templates := no_Cluster_templates
    no_Cluster_total := no_Cluster_total
    cl_Span := ⟨pg_Span, hd_Span, po_Span, sa_Span⟩
    mk_Span := ⟨mk_Span, at_Span_init, fn_Span_init, kp_Span⟩
    sf_Span := sf_Span
    k1_Span := k1_Span
    k4_Span := k4_Span
    no_Span_start := no_Span_start
    no_Span_end := no_Span_end
    kg := kg
    kt := kt
    x_GangError := ⟨⟨⟨_, _, _, _, _, _, _, _, _, _, _, _, _, _, _, xl_GangError, xr_GangError⟩, xsa_GangError, xex_GangError, xty_GangError, xkp_GangError⟩, xin_GangError, tI_GangError, xno_GangError⟩
    xf_GangError := ⟨xga_GangError, xgg_GangError, xex_GangError, xhd_GangError⟩
    xc_GangError := ⟨xga_GangError, xgg_GangError, xex_GangError, xhd_GangError, xk1_GangError, kg, kt, xk4_GangError⟩
    xm_GangError := PySem.W.exm_ref xex_GangError xhd_GangError xty_GangError xem_GangError
    x_BadAmounts := ⟨⟨⟨_, _, _, _, _, _, _, _, _, _, _, _, _, _, _, xl_BadAmounts, xr_BadAmounts⟩, xsa_BadAmounts, xex_BadAmounts, xty_BadAmounts, xkp_BadAmounts⟩, xin_BadAmounts, tI_GangError, xno_BadAmounts⟩
    xf_BadAmounts := ⟨xga_BadAmounts, xgg_BadAmounts, xex_BadAmounts, xhd_BadAmounts⟩
    xc_BadAmounts := ⟨xga_BadAmounts, xgg_BadAmounts, xex_BadAmounts, xhd_BadAmounts, xk1_BadAmounts, kg, kt, xk4_BadAmounts⟩
    xm_BadAmounts := PySem.W.exm_ref xex_GangError xhd_GangError xty_GangError xem_BadAmounts
    x_BadRow := ⟨⟨⟨_, _, _, _, _, _, _, _, _, _, _, _, _, _, _, xl_BadRow, xr_BadRow⟩, xsa_BadRow, xex_BadRow, xty_BadRow, xkp_BadRow⟩, xin_BadRow, tI_GangError, xno_BadRow⟩
    xf_BadRow := ⟨xga_BadRow, xgg_BadRow, xex_BadRow, xhd_BadRow⟩
    xc_BadRow := ⟨xga_BadRow, xgg_BadRow, xex_BadRow, xhd_BadRow, xk1_BadRow, kg, kt, xk4_BadRow⟩
    xm_BadRow := PySem.W.exm_ref xex_GangError xhd_GangError xty_GangError xem_BadRow
    x_Unknown := ⟨⟨⟨_, _, _, _, _, _, _, _, _, _, _, _, _, _, _, xl_Unknown, xr_Unknown⟩, xsa_Unknown, xex_Unknown, xty_Unknown, xkp_Unknown⟩, xin_Unknown, tI_GangError, xno_Unknown⟩
    xf_Unknown := ⟨xga_Unknown, xgg_Unknown, xex_Unknown, xhd_Unknown⟩
    xc_Unknown := ⟨xga_Unknown, xgg_Unknown, xex_Unknown, xhd_Unknown, xk1_Unknown, kg, kt, xk4_Unknown⟩
    xm_Unknown := PySem.W.exm_ref xex_GangError xhd_GangError xty_GangError xem_Unknown
    x_BadSpan := ⟨⟨⟨_, _, _, _, _, _, _, _, _, _, _, _, _, _, _, xl_BadSpan, xr_BadSpan⟩, xsa_BadSpan, xex_BadSpan, xty_BadSpan, xkp_BadSpan⟩, xin_BadSpan, tI_GangError, xno_BadSpan⟩
    xf_BadSpan := ⟨xga_BadSpan, xgg_BadSpan, xex_BadSpan, xhd_BadSpan⟩
    xc_BadSpan := ⟨xga_BadSpan, xgg_BadSpan, xex_BadSpan, xhd_BadSpan, xk1_BadSpan, kg, kt, xk4_BadSpan⟩
    xm_BadSpan := PySem.W.exm_ref xex_GangError xhd_GangError xty_GangError xem_BadSpan
    si_Amounts := si_Amounts
    st_int_Amounts := st_int_Amounts
    kt_int_Amounts := kit_tb hd_Amounts ty_Amounts st_int_Amounts
    g_PLAIN_WISHES := PySem.W.mg_of X G ta_PLAIN_WISHES
    sq_PLAIN_WISHES := fun H => .inr ⟨_, _, _, td_PLAIN_WISHES, rfl, rfl, (by show 2 ≤ sizeLine; decide), .cons ⟨_, rfl⟩ (.cons ⟨_, rfl⟩ (.nil))⟩
    g_NAMING_WISHES := PySem.W.mg_of X G ta_NAMING_WISHES
    sq_NAMING_WISHES := fun H => .inr ⟨_, _, _, td_NAMING_WISHES, rfl, rfl, (by show 4 ≤ sizeLine; decide), .cons ⟨_, rfl⟩ (.cons ⟨_, rfl⟩ (.cons ⟨_, rfl⟩ (.cons ⟨_, rfl⟩ (.nil))))⟩
    nl_Takes := nl_Takes
    nh_Takes := nh_Takes
    k_LETTERS := ⟨_, PySem.W.mg_of X G kc_LETTERS⟩
    k_DIGITS := ⟨_, PySem.W.mg_of X G kc_DIGITS⟩
    k_MOST_RESOURCES := ⟨_, PySem.W.mg_of X G kc_MOST_RESOURCES⟩
    k_MOST_MACHINES := ⟨_, PySem.W.mg_of X G kc_MOST_MACHINES⟩
    k_MOST_GROUPS := ⟨_, PySem.W.mg_of X G kc_MOST_GROUPS⟩
    k_MOST_TEMPLATES := ⟨_, PySem.W.mg_of X G kc_MOST_TEMPLATES⟩
    k_MOST_LABELS := ⟨_, PySem.W.mg_of X G kc_MOST_LABELS⟩
    k_MOST_ABOVE := ⟨_, PySem.W.mg_of X G kc_MOST_ABOVE⟩
    k_MOST_STAGES := ⟨_, PySem.W.mg_of X G kc_MOST_STAGES⟩
    k_MOST_WISHES := ⟨_, PySem.W.mg_of X G kc_MOST_WISHES⟩
    k_GREATEST_AMOUNT := ⟨_, PySem.W.mg_of X G kc_GREATEST_AMOUNT⟩
  }
  have hq := hd_check_rows
  have hc := PySem.W.codeHd_of_K X hq
  have ht : h.get? tb_check_rows = some { cls := .none, data := .fields #[] } := GL.tab_at X lk_check_rows hq rfl (fun o fd e dd vs sl a b c d y => RT f_check_rows co_check_rows tb_check_rows o fd e dd vs sl T.g_check_rows a b c d y)
  refine ⟨A.d_law, [(co_check_rows, tb_check_rows)], spLaw A K, fun p hp => ?_, fun p hp => ?_, fun p hp => ?_, fun s v => .of_eq rfl, fun H a ns h1 h2 h3 h4 => ?_, fun base _ _ hB => ?_⟩
  · rw [List.mem_singleton.mp hp]; exact ht
  · rw [List.mem_singleton.mp hp]; exact nt_check_rows
  · rw [List.mem_singleton.mp hp]; exact hc
  · exact ⟨a, ns, rfl, h4, h1, h2, GL.tabs_nil (h3 _ (List.mem_singleton.mpr rfl)), fun _ => rfl⟩
  · exact ok_law (base := base) T (hB _ (List.mem_singleton.mpr rfl))
theorem walk {l : PySem.W.OpenLaw} {q : Program} {loose : List Str} {XP : (Str → Option Value) → Heap → Prop} {YP : World → Heap → Prop} {d : DefRec} {K : Params → PySem.W.Frag} (hn : l.most = some 63) (hdf : d.params.defaults = [])
    (hrec : ((recsOf q).any fun y => y.name == "check_rows") = true) (hY : ∀ (w : World) (h : Heap), YP w h → (K w.params).In h)
    (F : ∀ (w : World) (mg : Str → Option Value) (fa : Addr) (h : Heap), (K w.params).In h → h.Ns mainGlobals mg → mg d.name = some (.ref fa) → GL.RecTab (K w.params) mg "check_rows" h → LamX.LawAtS l w (K w.params) CX0 lawLvl 63 "_law_script" mg fa h) :
    PySem.W.WalkO q loose XP YP l.row.toRowW d [] (fun f vs => PySem.call f vs) :=
  GL.walk_ofRec (CX := fun _ => CX0) "check_rows" hrec hn (by decide) hdf ⟨rfl, by decide, by decide⟩ hY (fun w mg fa h _ a b c r => F w mg fa h a b c r) fun _ _ _ _ _ z => z
end LW
open PySem PySem.W PyProof.Rows
set_option maxRecDepth 100000 in
set_option maxHeartbeats 0 in
theorem PySem.Challenge.cw_gangbooks_k15_bounds_exact_holds : PySem.Challenge.rw_gangbooks_k15_bounds_exact.Holds := by
  w_on; o_law
  refine GBH.head (q := GHR.hdl.view_1) (loose := GHR.names) (lv := []) (K := GHR.hdl.heap_1) (as := GHR.as) (ek := GHR.ek) GHR.looks (by kernel_rfl) (fun s => by kernel_rfl) (by rfl) (by rfl) (by rfl) (by first | rfl | decide +kernel) (by first | assumption | decide +kernel) (by decide +kernel) ⟨rfl, rfl, rfl, rfl, rfl, by decide +kernel⟩ ?hw ?hc
  case hw => w_witness2
  k_fill
  refine LW.walk (l := PySem.Challenge.rw_gangbooks_k15_bounds_exact) rfl rfl (by first | rfl | decide +kernel) (fun w h Y => PySem.W.kIn_of Y) ?F
  case F =>
    intro w mg fa h KX G hmg RT
    refine' LW.all_mk KX G hmg ?nb_abs ?nb_all ?nb_any ?nb_bool ?nb_enumerate ?nb_int ?nb_isinstance ?nb_iter ?nb_len ?nb_list ?nb_max ?nb_min ?nb_range ?nb_set ?nb_sorted ?nb_str ?nb_sum ?nb_tuple ?nb_zip ?ag_Amounts ?ag_Takes ?ag_Machine ?ag_Group ?ag_Stage ?ag_Template ?ag_Cluster ?ag_Span ?ag_GangError ?ag_BadAmounts ?ag_BadRow ?ag_Unknown ?ag_BadSpan ?at_GangError_init ?lk_GangError_init ?co_GangError_init ?ke_GangError_init ?fn_GangError_init ?at_refuse_lengths ?lk_refuse_lengths ?co_refuse_lengths ?ke_refuse_lengths ?at_Amounts_init ?lk_Amounts_init ?co_Amounts_init ?ke_Amounts_init ?fn_Amounts_init ?at_Amounts_add ?lk_Amounts_add ?co_Amounts_add ?ke_Amounts_add ?fn_Amounts_add ?at_Amounts_sub ?lk_Amounts_sub ?co_Amounts_sub ?ke_Amounts_sub ?fn_Amounts_sub ?at_Amounts_mul ?lk_Amounts_mul ?co_Amounts_mul ?ke_Amounts_mul ?fn_Amounts_mul ?at_Amounts_rmul ?lk_Amounts_rmul ?co_Amounts_rmul ?ke_Amounts_rmul ?fn_Amounts_rmul ?at_Amounts_and ?lk_Amounts_and ?co_Amounts_and ?ke_Amounts_and ?fn_Amounts_and ?at_Amounts_contains ?lk_Amounts_contains ?co_Amounts_contains ?ke_Amounts_contains ?fn_Amounts_contains ?at_Amounts_len ?lk_Amounts_len ?co_Amounts_len ?ke_Amounts_len ?fn_Amounts_len ?at_Amounts_iter ?lk_Amounts_iter ?co_Amounts_iter ?ke_Amounts_iter ?fn_Amounts_iter ?at_is_name ?lk_is_name ?co_is_name ?ke_is_name ?at_names_after ?lk_names_after ?co_names_after ?ke_names_after ?at_path_of ?lk_path_of ?co_path_of ?ke_path_of ?at_leaf_names ?lk_leaf_names ?co_leaf_names ?ke_leaf_names ?at_is_name_new ?lk_is_name_new ?co_is_name_new ?ke_is_name_new ?at_are_names ?lk_are_names ?co_are_names ?ke_are_names ?at_amounts_fit ?lk_amounts_fit ?co_amounts_fit ?ke_amounts_fit ?at_some_amounts_fit ?lk_some_amounts_fit ?co_some_amounts_fit ?ke_some_amounts_fit ?at_machine_fits ?lk_machine_fits ?co_machine_fits ?ke_machine_fits ?at_limit_fits ?lk_limit_fits ?co_limit_fits ?ke_limit_fits ?at_floors_fit ?lk_floors_fit ?co_floors_fit ?ke_floors_fit ?at_group_fits ?lk_group_fits ?co_group_fits ?ke_group_fits ?at_stage_fits ?lk_stage_fits ?co_stage_fits ?ke_stage_fits ?at_wish_fits ?lk_wish_fits ?co_wish_fits ?ke_wish_fits ?at_template_fits ?lk_template_fits ?co_template_fits ?ke_template_fits ?at_check_foes ?lk_check_foes ?co_check_foes ?ke_check_foes ?at_check_part ?lk_check_part ?co_check_part ?ke_check_part ?at_check_rows ?lk_check_rows ?cc_check_rows ?hd_check_rows ?nt_check_rows ?ke_check_rows ?at_index_of ?lk_index_of ?co_index_of ?ke_index_of ?at_foes_of ?lk_foes_of ?co_foes_of ?ke_foes_of ?at_Machine_init ?lk_Machine_init ?co_Machine_init ?ke_Machine_init ?fn_Machine_init ?at_Group_init ?lk_Group_init ?co_Group_init ?ke_Group_init ?fn_Group_init ?at_Stage_init ?lk_Stage_init ?co_Stage_init ?ke_Stage_init ?fn_Stage_init ?at_Template_init ?lk_Template_init ?co_Template_init ?ke_Template_init ?fn_Template_init ?at_Cluster_init ?lk_Cluster_init ?co_Cluster_init ?ke_Cluster_init ?fn_Cluster_init ?at_used_at ?lk_used_at ?co_used_at ?ke_used_at ?at_Takes_init ?lk_Takes_init ?co_Takes_init ?ke_Takes_init ?fn_Takes_init ?at_Span_init ?lk_Span_init ?co_Span_init ?ke_Span_init ?fn_Span_init ?at_Takes_common ?lk_Takes_common ?co_Takes_common ?ke_Takes_common ?fn_Takes_common ?at_Takes_free ?lk_Takes_free ?co_Takes_free ?ke_Takes_free ?fn_Takes_free ?at_Takes_users ?lk_Takes_users ?co_Takes_users ?ke_Takes_users ?fn_Takes_users ?at_Takes_iter ?lk_Takes_iter ?co_Takes_iter ?ke_Takes_iter ?fn_Takes_iter ?at_Takes_add ?lk_Takes_add ?co_Takes_add ?ke_Takes_add ?fn_Takes_add ?at_Cluster_stage_of ?lk_Cluster_stage_of ?co_Cluster_stage_of ?ke_Cluster_stage_of ?fn_Cluster_stage_of ?at_room_of ?lk_room_of ?co_room_of ?ke_room_of ?at_bar_of ?lk_bar_of ?co_bar_of ?ke_bar_of ?at_bound_of ?lk_bound_of ?co_bound_of ?ke_bound_of ?at_bounds ?lk_bounds ?co_bounds ?ke_bounds ?dl_bounds ?td_dt0_bounds ?at_seeded ?lk_seeded ?co_seeded ?ke_seeded ?at_draw ?lk_draw ?co_draw ?ke_draw ?at_named ?lk_named ?co_named ?ke_named ?at_few ?lk_few ?co_few ?ke_few ?at_asks ?lk_asks ?co_asks ?ke_asks ?at_phase ?lk_phase ?co_phase ?ke_phase ?at_machine ?lk_machine ?co_machine ?ke_machine ?at_form ?lk_form ?co_form ?ke_form ?at_made ?lk_made ?co_made ?ke_made ?at_built ?lk_built ?co_built ?ke_built ?at_clock ?lk_clock ?co_clock ?ke_clock ?at_span ?lk_span ?co_span ?ke_span ?at_taken ?lk_taken ?co_taken ?ke_taken ?at_spare ?lk_spare ?co_spare ?ke_spare ?at_wished ?lk_wished ?co_wished ?ke_wished ?at_foes ?lk_foes ?co_foes ?ke_foes ?at_meets ?lk_meets ?co_meets ?ke_meets ?at_room ?lk_room ?co_room ?ke_room ?at_cap ?lk_cap ?co_cap ?ke_cap ?at_limits ?lk_limits ?co_limits ?ke_limits ?at_pairs ?lk_pairs ?co_pairs ?ke_pairs ?at_right ?lk_right ?co_right ?ke_right ?at_gangs ?lk_gangs ?co_gangs ?ke_gangs ?at_law ?lk_law ?co_law ?ke_law ?pg_Amounts ?hd_Amounts ?po_Amounts ?sa_Amounts ?mk_Amounts ?kp_Amounts ?sf_Amounts ?k1_Amounts ?k4_Amounts ?no_Amounts_numbers ?ir_Amounts_mul ?iz_Amounts_mul ?i1_Amounts_mul ?i2_Amounts_mul ?is_Amounts_mul ?pg_Takes ?hd_Takes ?po_Takes ?sa_Takes ?mk_Takes ?kp_Takes ?sf_Takes ?k1_Takes ?k4_Takes ?no_Takes_cluster ?no_Takes_rows ?ir_Takes_add ?iz_Takes_add ?i1_Takes_add ?i2_Takes_add ?is_Takes_add ?pg_Machine ?hd_Machine ?po_Machine ?sa_Machine ?mk_Machine ?kp_Machine ?sf_Machine ?k1_Machine ?k4_Machine ?no_Machine_name ?no_Machine_zone ?no_Machine_labels ?no_Machine_amounts ?pg_Group ?hd_Group ?po_Group ?sa_Group ?mk_Group ?kp_Group ?sf_Group ?k1_Group ?k4_Group ?no_Group_name ?no_Group_parent ?no_Group_weight ?no_Group_floor ?no_Group_limit ?no_Group_path ?no_Group_leaf ?pg_Stage ?hd_Stage ?po_Stage ?sa_Stage ?mk_Stage ?kp_Stage ?sf_Stage ?k1_Stage ?k4_Stage ?no_Stage_tasks ?no_Stage_amounts ?no_Stage_hours ?no_Stage_total ?pg_Template ?hd_Template ?po_Template ?sa_Template ?mk_Template ?kp_Template ?sf_Template ?k1_Template ?k4_Template ?no_Template_name ?no_Template_group ?no_Template_rank ?no_Template_every ?no_Template_stages ?no_Template_wishes ?no_Template_needs ?no_Template_bars ?no_Template_likes ?no_Template_foes ?no_Template_near ?no_Template_apart ?pg_Cluster ?hd_Cluster ?po_Cluster ?sa_Cluster ?mk_Cluster ?kp_Cluster ?sf_Cluster ?k1_Cluster ?k4_Cluster ?no_Cluster_parts ?no_Cluster_resources ?no_Cluster_machines ?no_Cluster_groups ?no_Cluster_templates ?no_Cluster_total ?pg_Span ?hd_Span ?po_Span ?sa_Span ?mk_Span ?kp_Span ?sf_Span ?k1_Span ?k4_Span ?no_Span_start ?no_Span_end ?kg ?kt ?xl_GangError ?xr_GangError ?xsa_GangError ?xex_GangError ?xty_GangError ?xkp_GangError ?xin_GangError ?xno_GangError ?xga_GangError ?xgg_GangError ?xhd_GangError ?xk1_GangError ?xk4_GangError ?xem_GangError ?xl_BadAmounts ?xr_BadAmounts ?xsa_BadAmounts ?xex_BadAmounts ?xty_BadAmounts ?xkp_BadAmounts ?xin_BadAmounts ?xno_BadAmounts ?xga_BadAmounts ?xgg_BadAmounts ?xhd_BadAmounts ?xk1_BadAmounts ?xk4_BadAmounts ?xem_BadAmounts ?xl_BadRow ?xr_BadRow ?xsa_BadRow ?xex_BadRow ?xty_BadRow ?xkp_BadRow ?xin_BadRow ?xno_BadRow ?xga_BadRow ?xgg_BadRow ?xhd_BadRow ?xk1_BadRow ?xk4_BadRow ?xem_BadRow ?xl_Unknown ?xr_Unknown ?xsa_Unknown ?xex_Unknown ?xty_Unknown ?xkp_Unknown ?xin_Unknown ?xno_Unknown ?xga_Unknown ?xgg_Unknown ?xhd_Unknown ?xk1_Unknown ?xk4_Unknown ?xem_Unknown ?xl_BadSpan ?xr_BadSpan ?xsa_BadSpan ?xex_BadSpan ?xty_BadSpan ?xkp_BadSpan ?xin_BadSpan ?xno_BadSpan ?xga_BadSpan ?xgg_BadSpan ?xhd_BadSpan ?xk1_BadSpan ?xk4_BadSpan ?xem_BadSpan ?tI_GangError ?si_Amounts ?ty_Amounts ?st_int_Amounts ?ta_PLAIN_WISHES ?td_PLAIN_WISHES ?ta_NAMING_WISHES ?td_NAMING_WISHES ?nl_Takes ?nh_Takes ?kc_LETTERS ?kc_DIGITS ?kc_MOST_RESOURCES ?kc_MOST_MACHINES ?kc_MOST_GROUPS ?kc_MOST_TEMPLATES ?kc_MOST_LABELS ?kc_MOST_ABOVE ?kc_MOST_STAGES ?kc_MOST_WISHES ?kc_GREATEST_AMOUNT RT
    (case nb_abs => k_is)
    (case nb_all => k_is)
    (case nb_any => k_is)
    (case nb_bool => k_is)
    (case nb_enumerate => k_is)
    (case nb_int => k_is)
    (case nb_isinstance => k_is)
    (case nb_iter => k_is)
    (case nb_len => k_is)
    (case nb_list => k_is)
    (case nb_max => k_is)
    (case nb_min => k_is)
    (case nb_range => k_is)
    (case nb_set => k_is)
    (case nb_sorted => k_is)
    (case nb_str => k_is)
    (case nb_sum => k_is)
    (case nb_tuple => k_is)
    (case nb_zip => k_is)
    (case ag_Amounts => k_is)
    (case ag_Takes => k_is)
    (case ag_Machine => k_is)
    (case ag_Group => k_is)
    (case ag_Stage => k_is)
    (case ag_Template => k_is)
    (case ag_Cluster => k_is)
    (case ag_Span => k_is)
    (case ag_GangError => k_is)
    (case ag_BadAmounts => k_is)
    (case ag_BadRow => k_is)
    (case ag_Unknown => k_is)
    (case ag_BadSpan => k_is)
    (case at_GangError_init => k_is)
    (case lk_GangError_init => k_is)
    (case co_GangError_init => k_is)
    (case ke_GangError_init => k_is)
    (case fn_GangError_init => k_is)
    (case at_refuse_lengths => k_is)
    (case lk_refuse_lengths => k_is)
    (case co_refuse_lengths => k_is)
    (case ke_refuse_lengths => k_is)
    (case at_Amounts_init => k_is)
    (case lk_Amounts_init => k_is)
    (case co_Amounts_init => k_is)
    (case ke_Amounts_init => k_is)
    (case fn_Amounts_init => k_is)
    (case at_Amounts_add => k_is)
    (case lk_Amounts_add => k_is)
    (case co_Amounts_add => k_is)
    (case ke_Amounts_add => k_is)
    (case fn_Amounts_add => k_is)
    (case at_Amounts_sub => k_is)
    (case lk_Amounts_sub => k_is)
    (case co_Amounts_sub => k_is)
    (case ke_Amounts_sub => k_is)
    (case fn_Amounts_sub => k_is)
    (case at_Amounts_mul => k_is)
    (case lk_Amounts_mul => k_is)
    (case co_Amounts_mul => k_is)
    (case ke_Amounts_mul => k_is)
    (case fn_Amounts_mul => k_is)
    (case at_Amounts_rmul => k_is)
    (case lk_Amounts_rmul => k_is)
    (case co_Amounts_rmul => k_is)
    (case ke_Amounts_rmul => k_is)
    (case fn_Amounts_rmul => k_is)
    (case at_Amounts_and => k_is)
    (case lk_Amounts_and => k_is)
    (case co_Amounts_and => k_is)
    (case ke_Amounts_and => k_is)
    (case fn_Amounts_and => k_is)
    (case at_Amounts_contains => k_is)
    (case lk_Amounts_contains => k_is)
    (case co_Amounts_contains => k_is)
    (case ke_Amounts_contains => k_is)
    (case fn_Amounts_contains => k_is)
    (case at_Amounts_len => k_is)
    (case lk_Amounts_len => k_is)
    (case co_Amounts_len => k_is)
    (case ke_Amounts_len => k_is)
    (case fn_Amounts_len => k_is)
    (case at_Amounts_iter => k_is)
    (case lk_Amounts_iter => k_is)
    (case co_Amounts_iter => k_is)
    (case ke_Amounts_iter => k_is)
    (case fn_Amounts_iter => k_is)
    (case at_is_name => k_is)
    (case lk_is_name => k_is)
    (case co_is_name => k_is)
    (case ke_is_name => k_is)
    (case at_names_after => k_is)
    (case lk_names_after => k_is)
    (case co_names_after => k_is)
    (case ke_names_after => k_is)
    (case at_path_of => k_is)
    (case lk_path_of => k_is)
    (case co_path_of => k_is)
    (case ke_path_of => k_is)
    (case at_leaf_names => k_is)
    (case lk_leaf_names => k_is)
    (case co_leaf_names => k_is)
    (case ke_leaf_names => k_is)
    (case at_is_name_new => k_is)
    (case lk_is_name_new => k_is)
    (case co_is_name_new => k_is)
    (case ke_is_name_new => k_is)
    (case at_are_names => k_is)
    (case lk_are_names => k_is)
    (case co_are_names => k_is)
    (case ke_are_names => k_is)
    (case at_amounts_fit => k_is)
    (case lk_amounts_fit => k_is)
    (case co_amounts_fit => k_is)
    (case ke_amounts_fit => k_is)
    (case at_some_amounts_fit => k_is)
    (case lk_some_amounts_fit => k_is)
    (case co_some_amounts_fit => k_is)
    (case ke_some_amounts_fit => k_is)
    (case at_machine_fits => k_is)
    (case lk_machine_fits => k_is)
    (case co_machine_fits => k_is)
    (case ke_machine_fits => k_is)
    (case at_limit_fits => k_is)
    (case lk_limit_fits => k_is)
    (case co_limit_fits => k_is)
    (case ke_limit_fits => k_is)
    (case at_floors_fit => k_is)
    (case lk_floors_fit => k_is)
    (case co_floors_fit => k_is)
    (case ke_floors_fit => k_is)
    (case at_group_fits => k_is)
    (case lk_group_fits => k_is)
    (case co_group_fits => k_is)
    (case ke_group_fits => k_is)
    (case at_stage_fits => k_is)
    (case lk_stage_fits => k_is)
    (case co_stage_fits => k_is)
    (case ke_stage_fits => k_is)
    (case at_wish_fits => k_is)
    (case lk_wish_fits => k_is)
    (case co_wish_fits => k_is)
    (case ke_wish_fits => k_is)
    (case at_template_fits => k_is)
    (case lk_template_fits => k_is)
    (case co_template_fits => k_is)
    (case ke_template_fits => k_is)
    (case at_check_foes => k_is)
    (case lk_check_foes => k_is)
    (case co_check_foes => k_is)
    (case ke_check_foes => k_is)
    (case at_check_part => k_is)
    (case lk_check_part => k_is)
    (case co_check_part => k_is)
    (case ke_check_part => k_is)
    (case at_check_rows => k_is)
    (case lk_check_rows => k_is)
    (case cc_check_rows => k_is)
    (case hd_check_rows => exact LW.hd_of (by k_is) rfl rfl)
    (case nt_check_rows => first | rfl | decide +kernel)
    (case ke_check_rows => k_is)
    (case at_index_of => k_is)
    (case lk_index_of => k_is)
    (case co_index_of => k_is)
    (case ke_index_of => k_is)
    (case at_foes_of => k_is)
    (case lk_foes_of => k_is)
    (case co_foes_of => k_is)
    (case ke_foes_of => k_is)
    (case at_Machine_init => k_is)
    (case lk_Machine_init => k_is)
    (case co_Machine_init => k_is)
    (case ke_Machine_init => k_is)
    (case fn_Machine_init => k_is)
    (case at_Group_init => k_is)
    (case lk_Group_init => k_is)
    (case co_Group_init => k_is)
    (case ke_Group_init => k_is)
    (case fn_Group_init => k_is)
    (case at_Stage_init => k_is)
    (case lk_Stage_init => k_is)
    (case co_Stage_init => k_is)
    (case ke_Stage_init => k_is)
    (case fn_Stage_init => k_is)
    (case at_Template_init => k_is)
    (case lk_Template_init => k_is)
    (case co_Template_init => k_is)
    (case ke_Template_init => k_is)
    (case fn_Template_init => k_is)
    (case at_Cluster_init => k_is)
    (case lk_Cluster_init => k_is)
    (case co_Cluster_init => k_is)
    (case ke_Cluster_init => k_is)
    (case fn_Cluster_init => k_is)
    (case at_used_at => k_is)
    (case lk_used_at => k_is)
    (case co_used_at => k_is)
    (case ke_used_at => k_is)
    (case at_Takes_init => k_is)
    (case lk_Takes_init => k_is)
    (case co_Takes_init => k_is)
    (case ke_Takes_init => k_is)
    (case fn_Takes_init => k_is)
    (case at_Span_init => k_is)
    (case lk_Span_init => k_is)
    (case co_Span_init => k_is)
    (case ke_Span_init => k_is)
    (case fn_Span_init => k_is)
    (case at_Takes_common => k_is)
    (case lk_Takes_common => k_is)
    (case co_Takes_common => k_is)
    (case ke_Takes_common => k_is)
    (case fn_Takes_common => k_is)
    (case at_Takes_free => k_is)
    (case lk_Takes_free => k_is)
    (case co_Takes_free => k_is)
    (case ke_Takes_free => k_is)
    (case fn_Takes_free => k_is)
    (case at_Takes_users => k_is)
    (case lk_Takes_users => k_is)
    (case co_Takes_users => k_is)
    (case ke_Takes_users => k_is)
    (case fn_Takes_users => k_is)
    (case at_Takes_iter => k_is)
    (case lk_Takes_iter => k_is)
    (case co_Takes_iter => k_is)
    (case ke_Takes_iter => k_is)
    (case fn_Takes_iter => k_is)
    (case at_Takes_add => k_is)
    (case lk_Takes_add => k_is)
    (case co_Takes_add => k_is)
    (case ke_Takes_add => k_is)
    (case fn_Takes_add => k_is)
    (case at_Cluster_stage_of => k_is)
    (case lk_Cluster_stage_of => k_is)
    (case co_Cluster_stage_of => k_is)
    (case ke_Cluster_stage_of => k_is)
    (case fn_Cluster_stage_of => k_is)
    (case at_room_of => k_is)
    (case lk_room_of => k_is)
    (case co_room_of => k_is)
    (case ke_room_of => k_is)
    (case at_bar_of => k_is)
    (case lk_bar_of => k_is)
    (case co_bar_of => k_is)
    (case ke_bar_of => k_is)
    (case at_bound_of => k_is)
    (case lk_bound_of => k_is)
    (case co_bound_of => k_is)
    (case ke_bound_of => k_is)
    (case at_bounds => k_is)
    (case lk_bounds => k_is)
    (case co_bounds => k_is)
    (case ke_bounds => k_is)
    (case dl_bounds => k_is)
    (case td_dt0_bounds => k_is)
    (case at_seeded => k_is)
    (case lk_seeded => k_is)
    (case co_seeded => k_is)
    (case ke_seeded => k_is)
    (case at_draw => k_is)
    (case lk_draw => k_is)
    (case co_draw => k_is)
    (case ke_draw => k_is)
    (case at_named => k_is)
    (case lk_named => k_is)
    (case co_named => k_is)
    (case ke_named => k_is)
    (case at_few => k_is)
    (case lk_few => k_is)
    (case co_few => k_is)
    (case ke_few => k_is)
    (case at_asks => k_is)
    (case lk_asks => k_is)
    (case co_asks => k_is)
    (case ke_asks => k_is)
    (case at_phase => k_is)
    (case lk_phase => k_is)
    (case co_phase => k_is)
    (case ke_phase => k_is)
    (case at_machine => k_is)
    (case lk_machine => k_is)
    (case co_machine => k_is)
    (case ke_machine => k_is)
    (case at_form => k_is)
    (case lk_form => k_is)
    (case co_form => k_is)
    (case ke_form => k_is)
    (case at_made => k_is)
    (case lk_made => k_is)
    (case co_made => k_is)
    (case ke_made => k_is)
    (case at_built => k_is)
    (case lk_built => k_is)
    (case co_built => k_is)
    (case ke_built => k_is)
    (case at_clock => k_is)
    (case lk_clock => k_is)
    (case co_clock => k_is)
    (case ke_clock => k_is)
    (case at_span => k_is)
    (case lk_span => k_is)
    (case co_span => k_is)
    (case ke_span => k_is)
    (case at_taken => k_is)
    (case lk_taken => k_is)
    (case co_taken => k_is)
    (case ke_taken => k_is)
    (case at_spare => k_is)
    (case lk_spare => k_is)
    (case co_spare => k_is)
    (case ke_spare => k_is)
    (case at_wished => k_is)
    (case lk_wished => k_is)
    (case co_wished => k_is)
    (case ke_wished => k_is)
    (case at_foes => k_is)
    (case lk_foes => k_is)
    (case co_foes => k_is)
    (case ke_foes => k_is)
    (case at_meets => k_is)
    (case lk_meets => k_is)
    (case co_meets => k_is)
    (case ke_meets => k_is)
    (case at_room => k_is)
    (case lk_room => k_is)
    (case co_room => k_is)
    (case ke_room => k_is)
    (case at_cap => k_is)
    (case lk_cap => k_is)
    (case co_cap => k_is)
    (case ke_cap => k_is)
    (case at_limits => k_is)
    (case lk_limits => k_is)
    (case co_limits => k_is)
    (case ke_limits => k_is)
    (case at_pairs => k_is)
    (case lk_pairs => k_is)
    (case co_pairs => k_is)
    (case ke_pairs => k_is)
    (case at_right => k_is)
    (case lk_right => k_is)
    (case co_right => k_is)
    (case ke_right => k_is)
    (case at_gangs => k_is)
    (case lk_gangs => k_is)
    (case co_gangs => k_is)
    (case ke_gangs => k_is)
    (case at_law => k_is)
    (case lk_law => k_is)
    (case co_law => k_is)
    (case ke_law => k_is)
    (case pg_Amounts => k_is)
    (case hd_Amounts => k_is)
    (case po_Amounts => k_is)
    (case sa_Amounts => k_is)
    (case mk_Amounts => k_is)
    (case kp_Amounts => k_is)
    (case sf_Amounts => k_is)
    (case k1_Amounts => k_is)
    (case k4_Amounts => k_is)
    (case no_Amounts_numbers => k_is)
    (case ir_Amounts_mul => k_is)
    (case iz_Amounts_mul => first | exact .inl rfl | exact .inr ⟨_, rfl⟩)
    (case i1_Amounts_mul => k_is)
    (case i2_Amounts_mul => k_is)
    (case is_Amounts_mul => k_is)
    (case pg_Takes => k_is)
    (case hd_Takes => k_is)
    (case po_Takes => k_is)
    (case sa_Takes => k_is)
    (case mk_Takes => k_is)
    (case kp_Takes => k_is)
    (case sf_Takes => k_is)
    (case k1_Takes => k_is)
    (case k4_Takes => k_is)
    (case no_Takes_cluster => k_is)
    (case no_Takes_rows => k_is)
    (case ir_Takes_add => k_is)
    (case iz_Takes_add => first | exact .inl rfl | exact .inr ⟨_, rfl⟩)
    (case i1_Takes_add => k_is)
    (case i2_Takes_add => k_is)
    (case is_Takes_add => k_is)
    (case pg_Machine => k_is)
    (case hd_Machine => k_is)
    (case po_Machine => k_is)
    (case sa_Machine => k_is)
    (case mk_Machine => k_is)
    (case kp_Machine => k_is)
    (case sf_Machine => k_is)
    (case k1_Machine => k_is)
    (case k4_Machine => k_is)
    (case no_Machine_name => k_is)
    (case no_Machine_zone => k_is)
    (case no_Machine_labels => k_is)
    (case no_Machine_amounts => k_is)
    (case pg_Group => k_is)
    (case hd_Group => k_is)
    (case po_Group => k_is)
    (case sa_Group => k_is)
    (case mk_Group => k_is)
    (case kp_Group => k_is)
    (case sf_Group => k_is)
    (case k1_Group => k_is)
    (case k4_Group => k_is)
    (case no_Group_name => k_is)
    (case no_Group_parent => k_is)
    (case no_Group_weight => k_is)
    (case no_Group_floor => k_is)
    (case no_Group_limit => k_is)
    (case no_Group_path => k_is)
    (case no_Group_leaf => k_is)
    (case pg_Stage => k_is)
    (case hd_Stage => k_is)
    (case po_Stage => k_is)
    (case sa_Stage => k_is)
    (case mk_Stage => k_is)
    (case kp_Stage => k_is)
    (case sf_Stage => k_is)
    (case k1_Stage => k_is)
    (case k4_Stage => k_is)
    (case no_Stage_tasks => k_is)
    (case no_Stage_amounts => k_is)
    (case no_Stage_hours => k_is)
    (case no_Stage_total => k_is)
    (case pg_Template => k_is)
    (case hd_Template => k_is)
    (case po_Template => k_is)
    (case sa_Template => k_is)
    (case mk_Template => k_is)
    (case kp_Template => k_is)
    (case sf_Template => k_is)
    (case k1_Template => k_is)
    (case k4_Template => k_is)
    (case no_Template_name => k_is)
    (case no_Template_group => k_is)
    (case no_Template_rank => k_is)
    (case no_Template_every => k_is)
    (case no_Template_stages => k_is)
    (case no_Template_wishes => k_is)
    (case no_Template_needs => k_is)
    (case no_Template_bars => k_is)
    (case no_Template_likes => k_is)
    (case no_Template_foes => k_is)
    (case no_Template_near => k_is)
    (case no_Template_apart => k_is)
    (case pg_Cluster => k_is)
    (case hd_Cluster => k_is)
    (case po_Cluster => k_is)
    (case sa_Cluster => k_is)
    (case mk_Cluster => k_is)
    (case kp_Cluster => k_is)
    (case sf_Cluster => k_is)
    (case k1_Cluster => k_is)
    (case k4_Cluster => k_is)
    (case no_Cluster_parts => k_is)
    (case no_Cluster_resources => k_is)
    (case no_Cluster_machines => k_is)
    (case no_Cluster_groups => k_is)
    (case no_Cluster_templates => k_is)
    (case no_Cluster_total => k_is)
    (case pg_Span => k_is)
    (case hd_Span => k_is)
    (case po_Span => k_is)
    (case sa_Span => k_is)
    (case mk_Span => k_is)
    (case kp_Span => k_is)
    (case sf_Span => k_is)
    (case k1_Span => k_is)
    (case k4_Span => k_is)
    (case no_Span_start => k_is)
    (case no_Span_end => k_is)
    (case kg => k_is)
    (case kt => k_is)
    (case xl_GangError => k_is)
    (case xr_GangError => first | rfl | decide +kernel)
    (case xsa_GangError => k_is)
    (case xex_GangError => k_is)
    (case xty_GangError => k_is)
    (case xkp_GangError => k_is)
    (case xin_GangError => k_is)
    (case xno_GangError => k_is)
    (case xga_GangError => k_is)
    (case xgg_GangError => k_is)
    (case xhd_GangError => k_is)
    (case xk1_GangError => k_is)
    (case xk4_GangError => k_is)
    (case xem_GangError => first | rfl | k_is)
    (case xl_BadAmounts => k_is)
    (case xr_BadAmounts => first | rfl | decide +kernel)
    (case xsa_BadAmounts => k_is)
    (case xex_BadAmounts => k_is)
    (case xty_BadAmounts => k_is)
    (case xkp_BadAmounts => k_is)
    (case xin_BadAmounts => k_is)
    (case xno_BadAmounts => k_is)
    (case xga_BadAmounts => k_is)
    (case xgg_BadAmounts => k_is)
    (case xhd_BadAmounts => k_is)
    (case xk1_BadAmounts => k_is)
    (case xk4_BadAmounts => k_is)
    (case xem_BadAmounts => first | rfl | k_is)
    (case xl_BadRow => k_is)
    (case xr_BadRow => first | rfl | decide +kernel)
    (case xsa_BadRow => k_is)
    (case xex_BadRow => k_is)
    (case xty_BadRow => k_is)
    (case xkp_BadRow => k_is)
    (case xin_BadRow => k_is)
    (case xno_BadRow => k_is)
    (case xga_BadRow => k_is)
    (case xgg_BadRow => k_is)
    (case xhd_BadRow => k_is)
    (case xk1_BadRow => k_is)
    (case xk4_BadRow => k_is)
    (case xem_BadRow => first | rfl | k_is)
    (case xl_Unknown => k_is)
    (case xr_Unknown => first | rfl | decide +kernel)
    (case xsa_Unknown => k_is)
    (case xex_Unknown => k_is)
    (case xty_Unknown => k_is)
    (case xkp_Unknown => k_is)
    (case xin_Unknown => k_is)
    (case xno_Unknown => k_is)
    (case xga_Unknown => k_is)
    (case xgg_Unknown => k_is)
    (case xhd_Unknown => k_is)
    (case xk1_Unknown => k_is)
    (case xk4_Unknown => k_is)
    (case xem_Unknown => first | rfl | k_is)
    (case xl_BadSpan => k_is)
    (case xr_BadSpan => first | rfl | decide +kernel)
    (case xsa_BadSpan => k_is)
    (case xex_BadSpan => k_is)
    (case xty_BadSpan => k_is)
    (case xkp_BadSpan => k_is)
    (case xin_BadSpan => k_is)
    (case xno_BadSpan => k_is)
    (case xga_BadSpan => k_is)
    (case xgg_BadSpan => k_is)
    (case xhd_BadSpan => k_is)
    (case xk1_BadSpan => k_is)
    (case xk4_BadSpan => k_is)
    (case xem_BadSpan => first | rfl | k_is)
    (case tI_GangError => k_is)
    (case si_Amounts => k_is)
    (case ty_Amounts => k_is)
    (case st_int_Amounts => k_is)
    (case ta_PLAIN_WISHES => k_is)
    (case td_PLAIN_WISHES => k_is)
    (case ta_NAMING_WISHES => k_is)
    (case td_NAMING_WISHES => k_is)
    (case nl_Takes => k_is)
    (case nh_Takes => k_is)
    (case kc_LETTERS => k_is)
    (case kc_DIGITS => k_is)
    (case kc_MOST_RESOURCES => k_is)
    (case kc_MOST_MACHINES => k_is)
    (case kc_MOST_GROUPS => k_is)
    (case kc_MOST_TEMPLATES => k_is)
    (case kc_MOST_LABELS => k_is)
    (case kc_MOST_ABOVE => k_is)
    (case kc_MOST_STAGES => k_is)
    (case kc_MOST_WISHES => k_is)
    (case kc_GREATEST_AMOUNT => k_is)

