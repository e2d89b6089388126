import PyProof.Rows.All
import Wide.All
import OpenK.AllK
import Wide.FinOn
import KE.KExcInit
import KE.KExcMake
import KE.KIsAll
import HandS.ForMost
import HandS.Exc
import HandS.ExcOwn
import HandS.ExcInit
import HandS.ExcIs
import HandS.ExcField
import HandS.IsInst
import HandS.Defaults
import KE.KExcIs
import HandS.Walk
import HandS.Zip
import HandS.Wide
import HandS.WideBits
import HandS.DeepEq
import HandS.EndBits
import PyProof.ReprRoads
import HandS.Head2
import HandS.HeadHook2
import KE.KCallOwn
import HandS.MakeKwOnly
import HandS.Codes
import HandS.TryMany
import HandS.ClsMeth
import HandS.More
import PyProof.InstEq
import HandS.EndTab
import HandS.HeadHook4
import HandS.Property
import HandS.HeadNt
import HandS.HeadHook3
import HandS.TupSets
import HandS.Keys
import HandS.SetBool
import HandS.Deep
import HandS.Iter
import OpenK.KMeth
import KE.KOpsOwn
import OpenK.KOps
import PyProof.Conv_bool
import PyProof.StrOps2
import HandS.Text
import HandS.Small
import HandS.Conv
import HandS.StrMore
import HandS.TupLe
import HandS.FStr
import HandS.RaiseMore
import HandS.GenList
import HandS.GenYield
import HandS.GenCall
import HandS.Gcd
import KE.KMathGC
import KE.GoesEnum
import KE.GoesMore
import PyProof.Draws
import HandS.DictSub
import KE.SortData
import HandS.OwnEq
import KE.KFmtOwn
import HandS.TupAny
import HandS.Lambda
import HandS.DictComp
import HandS.SortInts
import HandS.Dict
import HandS.SetKeys
import HandS.Style
import KE.DataMinMax
import HandS.WordsDict
import PySem.Challenge.RW_thirdback_k15_contents_refused
set_option Elab.async false
set_option linter.all false
set_option maxRecDepth 100000
set_option maxHeartbeats 4000000
/-! an own error class over ValueError, LookupError, ArithmeticError alike: it is called (by place or by name), its object gets its first attribute -/
namespace L2.Tb
open PySem PySem.W PySem.Calls PyProof.Rows PySem.HandSPX
/-- a built-in base: its name, its makers, its mro -/
structure Bs where
  B : String
  newId : String
  initId : String
  bm : List Value
structure Bs.Ok (b : Bs) : Prop where
  F : ExcBaseFacts b.B b.newId b.initId b.bm
  S : StoreFacts b.B b.bm "object.__setattr__" "object"
section
variable {prog : Program} {w : World} {A : Around} {R : Result → Shared → Prop} {h : Heap} {g : Array GenState} {dr : Drawn} {tk : Nat} {os : OsState} {b : Bs} {C fI : Addr} {us : List Value} {kw : List (Str × Value)}
/-- C's class object is that of an own class over b -/
def OwnC (h : Heap) (b : Bs) (C : Addr) (bm : List Value) : Prop := ∃ nm q N bs hdct sn sub ab col dd k0 k1 k2 k3 k5, h.get? C = some (excClassObj nm q C N bs bm hdct sn sub ab col dd k0 k1 k2 k3 k5 b.newId)
/-- what the two makers leave behind: the args, the object -/
abbrev laidH (h : Heap) (C : Addr) (us : List Value) : Heap := (h.push (kdv_tup us)).push (excO C h.objs.size)
theorem own_new {bm : List Value} (o : OwnC h b C bm) (F : ExcBaseFacts b.B b.newId b.initId b.bm) (is : ∀ T : String, (Value.ref C :: bm).contains (.type T) = b.bm.contains (.type T)) (hz : us.length ≤ sizeLine) :
    (∀ {M : Model} {A' : Around} {E : Value → Shared → Prop} {Q : Unit → Shared → Prop}, Q () ⟨h, g, dr, tk, os⟩ → wpAny M A' (checkBuiltinCall b.newId ⟨.ref C :: us, kw⟩) Q E ⟨h, g, dr, tk, os⟩) ∧
    ∀ {R' : Result → Shared → Prop}, R' (.ok (.ret (.ref (h.objs.size + 1)))) ⟨laidH h C us, g, dr, tk, os⟩ → codeAny (model prog w) A (.builtin b.newId ⟨.ref C :: us, kw⟩) R' ⟨h, g, dr, tk, os⟩ := by
  obtain ⟨nm, q, N, bs, hdct, sn, sub, ab, col, dd, k0, k1, k2, k3, k5, hC⟩ := o
  have yes := (is b.B).trans F.hasB
  have no1 := (is "AttributeError").trans F.noAttr
  have no2 := (is "NameError").trans F.noName
  constructor
  · intro M A' E Q hq
    have star := F.noStar
    simp only [checkBuiltinCall, F.newKind, F.newSplit, F.newRow]
    repeat (first | (refine wpAny_isSubtype_exc hC ?_; rw [yes]) | refine wpAny_staticBase_exc hC ?_ | refine wpAny_madeBy_exc hC ?_ | refine wpAny_loadPart_at hC ?_ | simp only [bne_self_eq_false, Bool.false_eq_true, if_false] | wp_step)
    exact hq
  · intro R' hq
    have ends := F.ends
    refine codeAny_builtinAt F.entry ?_
    unfold Builtin.«BaseException.__new__»
    refine PySem.wpAt_bind ?_
    show PySem.wpAt _ _ _ (stack >>= _) _ _ _
    refine PySem.wpAt_bind (PySem.wpAt_stack fun _ _ => PySem.wpAt_of_wpAny ?_)
    wp_walk
    refine PySem.wpAt_of_wpAny ?_
    rw [F.owner]
    repeat (first | with_reducible refine wpAny_madeHere_exc F.canon hC ?_ | (with_reducible refine wpAny_isSubtype_exc hC ?_; first | rw [no1] | rw [no2] | rw [yes]) | with_reducible refine wpAny_loadPart_at hC ?_ | wp_step)
    show R' _ _
    rw [Heap.size_push]
    exact hq
/-- C(us, kw), C's own __init__ at fI -/
theorem own_call {bm : List Value} (o : OwnC h b C bm) (ok : b.Ok) (hT : ∀ T : String, bm.contains (.type T) = b.bm.contains (.type T)) (hi : Looks (model prog w) h (typeLookup (.ref C) "__init__") (some (.ref fI)))
    (hb : ∀ self, Looks (model prog w) h (bindSpecial (.ref fI) self) (.ref fI, [self])) (hz : us.length ≤ sizeLine)
    (hq : codeAny (model prog w) (A.under (.builtin "type.__call__" ⟨.ref C :: us, kw⟩)) (.call (.ref fI) ⟨.ref (h.objs.size + 1) :: us, kw⟩) (InitBack (h.objs.size + 1) R) ⟨laidH h C us, g, dr, tk, os⟩) :
    codeAny (model prog w) A (.call (.ref C) ⟨us, kw⟩) R ⟨h, g, dr, tk, os⟩ := by
  have keep : ∀ a x, h.get? a = some x → (laidH h C us).get? a = some x := fun a x e => Heap.get?_push_of_some _ (Heap.get?_push_of_some _ e)
  have there : (laidH h C us).get? (h.objs.size + 1) = some (excO C h.objs.size) := by heap_get
  have self : (Value.ref C :: bm).contains (.ref C) = true := by simp
  have new := @own_new prog w ((A.under (.builtin "type.__call__" ⟨.ref C :: us, kw⟩))) h g dr tk os b C us kw bm o ok.F (fun T => by rw [List.contains_cons, hT]; rfl) hz
  obtain ⟨nm, q, N, bs, hdct, sn, sub, ab, col, dd, k0, k1, k2, k3, k5, hC⟩ := o
  have hC2 := keep _ _ hC
  have ty : (⟨h, g, dr, tk, os⟩ : Shared).TypeIs (.ref C) "type" := ⟨_, hC, rfl⟩
  have l1 := tc_lookup
  have l2 := tc_bind (.ref C)
  have l3 := tc_sub
  refine codeAny_of_tree ?_
  show wpAny _ _ (callAny (.ref C) _) _ _ _
  repeat (any_goals (first | assumption | with_reducible refine wpAny_loadPart_at hC ?_ | wp_step))
  refine ⟨rfl, codeAny_call_builtin_at (Code.quiet_builtin _ (by decide +kernel)) entry_typeCall ?_⟩
  simp only [checkBuiltinCall, tc_kind, tc_split]
  repeat (any_goals (first | assumption | with_reducible refine wpAny_loadPart_at hC ?_ | with_reducible refine wpAny_onRaise ?_ | with_reducible refine wpAny_map ?_ | wp_step))
  repeat (first | with_reducible refine wpAny_madeBy_exc hC ?_ | with_reducible refine wpAny_loadPart_at hC ?_ | wp_step)
  refine codeAny_call_builtin_code (Code.quiet_builtin _ ok.F.quiet) (new.1 (new.2 ?_))
  show wpAny _ _ _ _ _ _
  unfold isInstance
  repeat (first | with_reducible refine wpAny_loadPart_at there ?_ | (with_reducible refine wpAny_isSubtype_exc hC2 ?_; rw [self]) | wp_step)
  show wpAny _ _ (typeLookup (.ref C) _) _ _ _
  refine (hi.keeps keep).at (wpAny_holding (wpAny_bind (((hb _).keeps keep).at (wpAny_bind (wpAny_call (codeAny_mono hq fun r s' z => ?_))))))
  match r, z with
  | .error e, z => exact z
  | .ok (.ret v), ⟨e, z⟩ =>
    subst e
    first
      | exact wpAny_pure (wpAny_pure z)
      | (wp_walk; exact z)
end
/-! ### self.name = v on an own error that has no dict yet -/
section
variable {prog : Program} {w : World} {A : Around} {R : Result → Shared → Prop} {hp : Heap} {g : Array GenState} {dr : Drawn} {tk : Nat} {os : OsState}
theorem own_store {K : Frag} {name : Str} {t1 : Tok} {v : Value} {x C t0 : Addr} {b : Bs} (ok : b.Ok) (X : K.In hp) (hx : hp.get? x = some (excObj C t0 none .none)) (ov : excOver K C b.bm = true) (hd : hasDictIn K C = true) (no : findIn K (.ref C) name = some none)
    (hq : ∀ h' tk' dx, (∀ b o, b ≠ x → hp.get? b = some o → h'.get? b = some o) → hp.objs.size ≤ dx → dx ≠ x → h'.get? x = some (excObj C t0 (some dx) .none) → h'.Ns1 dx (fun y => if y = name then some v else none) → R (.ok (.ret .none)) ⟨h', g, dr, tk', os⟩) :
    codeAny (model prog w) A (.call (.builtin "object.__setattr__") ⟨[.ref x, .str name t1, v], []⟩) R ⟨hp, g, dr, tk, os⟩ := by
  have far : x ≠ hp.objs.size := Nat.ne_of_lt (Heap.lt_size hx)
  obtain ⟨cd, hc, hd'⟩ := any_some hd
  refine osa_openX (s := ⟨hp, g, dr, tk, os⟩) (od := none) (r := none) ok.S X ⟨hx, rfl, rfl, trivial⟩ ov (by unfold takerIn; rw [no]; rfl) fun bb => ?_
  refine wpAny_bind (wpAny_pure (wpAny_bind (instanceDict_exc (s := ⟨hp, g, dr, tk, os⟩) hx (looks_clsIn X hc) hd' ?_)))
  have hx1 := (hp.get?_push_of_some (dictOf [] 0) hx)
  refine store_in_new ⟨_, #[], _, (Heap.get?_update_ne _ _ _ _ far.symm).trans (Heap.get?_push_at rfl rfl), rfl, fun e he => absurd he (by simp), fun _ => rfl⟩ fun h' tk' hn hs => ?_
  refine hq h' tk' hp.objs.size (fun a o ne ho => (hs.2 a (Nat.ne_of_lt (Heap.lt_size ho))).trans ((Heap.get?_update_ne _ _ _ _ ne).trans (Heap.get?_push_of_some _ ho))) (Nat.le_refl _) far.symm ?_ hn
  exact (hs.2 x far).trans (Heap.get?_update_self _ hx1 rfl)
end
end L2.Tb
set_option Elab.async false
set_option linter.all false
set_option maxRecDepth 100000
set_option maxHeartbeats 4000000
namespace L2.Tb
open PySem PySem.Spec PyProof.Rows L2
def bVE : Bs := ⟨"ValueError", "ValueError.__new__", "ValueError.__init__", [.type "ValueError", .type "Exception", .type "BaseException", .type "object"]⟩
def bLE : Bs := ⟨"LookupError", "LookupError.__new__", "LookupError.__init__", [.type "LookupError", .type "Exception", .type "BaseException", .type "object"]⟩
def bAE : Bs := ⟨"ArithmeticError", "ArithmeticError.__new__", "ArithmeticError.__init__", [.type "ArithmeticError", .type "Exception", .type "BaseException", .type "object"]⟩
theorem bVE_ok : bVE.Ok := ⟨PySem.F.excBase_ValueError, PySem.F.store_ValueError⟩
theorem bLE_ok : bLE.Ok := ⟨PySem.F.excBase_LookupError, PySem.F.store_LookupError⟩
theorem bAE_ok : bAE.Ok := ⟨PySem.F.excBase_ArithmeticError, PySem.F.store_ArithmeticError⟩
/-- an own exception class over the base b -/
structure EC (K : PySem.W.Frag) (b : Bs) (C : Addr) : Prop where
  ok : b.Ok
  own : PySem.W.excInitIn K C b.bm b.newId = true
  sa : PySem.W.findIn K (.ref C) "__setattr__" = some (some (.builtin "object.__setattr__"))
  kC : PySem.W.keepIn K (.ref C) = true
  ex : ExcC K C
  ov : PySem.W.excOver K C b.bm = true
def ecB (K : PySem.W.Frag) (b : Bs) (C : Addr) : Bool := PySem.W.excOver K C b.bm && (
  PySem.W.excInitIn K C b.bm b.newId && (decide (PySem.W.findIn K (.ref C) "__setattr__" = some (some (.builtin "object.__setattr__"))) && (PySem.W.keepIn K (.ref C) &&
  (decide (PySem.W.findIn K (.ref C) "__getattribute__" = some (some (.builtin "BaseException.__getattribute__"))) && (decide (PySem.W.findIn K (.ref C) "__getattr__" = some none) &&
  (decide (PySem.W.subIn K (.ref C) (.type "BaseException") = some true) && (PySem.W.hasDictIn K C && (decide (PySem.W.findIn K (.ref C) "__class__" = some (some (.builtin "object.__class__"))) &&
  (decide (PySem.W.specialIn K (.builtin "object.__class__") "__get__" = some (some (.builtin "getset_descriptor.__get__"))) && (decide (PySem.W.takesIn K (.builtin "object.__class__") = some true) &&
  decide (PySem.W.mroIn K C (.type "object") = some true)))))))))))
theorem ecB_ok {K : PySem.W.Frag} {b : Bs} {C : Addr} (ok : b.Ok) (h : ecB K b C = true) : EC K b C := by
  unfold ecB at h
  simp only [Bool.and_eq_true, decide_eq_true_eq] at h
  obtain ⟨h0, h1, h2, h3, h4, h5, h6, h7, h8, h9, h10, h11⟩ := h
  exact ⟨ok, h1, h2, h3, ⟨h4, h5, h6, h7, h8, h9, h10, h11⟩, h0⟩
section
variable {K : PySem.W.Frag} {b : Bs} {C : Addr}
theorem EC.cd (T : EC K b C) : ∃ cd, PySem.W.clsIn K C = some cd ∧ PySem.W.excTail b.bm cd.mro = true ∧ cd.mro.isEmpty = false ∧ cd.hasDict = true := by
  have q := T.own
  unfold PySem.W.excInitIn at q
  obtain ⟨cd2, hc2, hd2⟩ := PySem.W.any_some (show (PySem.W.clsIn K C).any (·.hasDict) = true from T.ex.hd)
  split at q
  · rename_i dd cd sl ho
    split at q
    · rename_i C' bm k0 k1 k2 k3 n k5 hm hs
      simp only [Bool.and_eq_true, beq_iff_eq, Bool.not_eq_true'] at q
      obtain ⟨⟨⟨rfl, rfl⟩, hdel⟩, ht⟩ := q
      have e : PySem.W.clsIn K C' = some cd := by unfold PySem.W.clsIn; rw [ho] <;> rfl
      have e3 := Option.some.inj (e.symm.trans hc2)
      subst e3
      refine ⟨_, e, ?_, ?_, hd2⟩
      · rw [hm]
        exact ht
      · rw [hm]
        rfl
    · cases q
  · cases q
end
section
variable {X : Cx} {pins : List (Addr × Obj)} {σ : St} {H : Hp} {s : Shared} {b : Bs} {a C dx : Addr} {f : Str} {y : V} {u : Value} {Q : Unit → Shared → Prop} {E : Value → Shared → Prop} {A : Around}
/-- self.f = y, the first one -/
theorem osv_new (T : EC X.K b C) (I : Inv X pins σ H s) (e : H a = some (exo a C none)) (hno : PySem.W.findIn X.K (.ref C) f = some none) (ry : RelV y u)
    (h : ∀ dx s', H dx = none → dx ≠ a → Inv X pins σ (upd (upd H dx (exd dx [(f, y)])) a (exo a C (some dx))) s' → Q () s') : wpAny (model X.prog X.w) A (setAttr (.ref a) f u) Q E s := by
  obtain ⟨t1, ho⟩ := exo_at I.hok e
  refine PySem.W.set_plain I.kIn (od := none) ⟨ho, rfl, rfl, trivial⟩ T.sa (own_store T.ok I.kIn ho T.ov T.ex.hd hno fun h' tk' dx k dn dne hx hn => ?_)
  have fresh : H dx = none := I.hok.fresh dn
  -- the heap behind the store, seen from what was there
  have other : ∀ {c : Addr} {o : HO}, H c = some o → c ≠ a → upd (upd H dx (exd dx [(f, y)])) a (exo a C (some dx)) c = some o := fun q n => by rw [upd_ne n, upd_ne (ne_of_none q fresh)]; exact q
  have ne : ∀ {c : Addr}, H c = none → c ≠ a := fun n z => by rw [z, e] at n; cases n
  have lt : ∀ {c : Addr} {o : Obj}, s.heap.get? c = some o → c ≠ dx := fun q => Nat.ne_of_lt (Nat.lt_of_lt_of_le (Heap.lt_size q) dn)
  refine h dx _ fresh dne (I.un (t' := tk') { keep := fun c o q n _ _ => k c o (ne n) q, slot := fun c o q n _ _ => ⟨o.slots, k c o (ne n) q⟩, free := fun c o q n _ => ?_, there := fun c o q _ => ?_, tups := fun c xs q => other q (at_ne e q exo_tup), frzs := fun c o v q => other q (at_ne e q exo_frz), tbls := fun c ps q => ⟨#[], ?_⟩ } fun c o q => ?_)
  · rw [upd_ne (ne n), upd_ne (lt q)]
    exact n
  · by_cases z : c = a
    · exact ⟨_, by rw [z]; exact hx⟩
    · exact ⟨o, k c o z q⟩
  · rw [other q (at_ne e q exo_tbl)]
    simp
  · by_cases z : c = a
    · subst z
      rw [upd_same] at q
      cases q
      exact exo_ok hx
    · rw [upd_ne z] at q
      by_cases z2 : c = dx
      · subst z2
        rw [upd_same] at q
        cases q
        exact exd_ok hn (relO_put (fs := []) ry fun _ => True.intro)
      · rw [upd_ne z2] at q
        refine (I.hok c o q).stay (fun d v hc z' => k d v ?_ z') (fun d hc => other hc (at_ne e hc exo_own)) fun d xs hc => other hc (at_ne e hc exo_tup)
        rcases hc with rfl | hc
        · exact z
        · exact at_ne e hc exo_own
end
/-- self.f = e -/
def tOsv (K : PySem.W.Frag) (f : Str) (to te : TE) : TS := fun D σ H => te σ H fun y H1 => to σ H1 fun x H2 => ∃ (a C : Addr) (b : Bs), x = .ref a ∧ EC K b C ∧ PySem.W.findIn K (.ref C) f = some none ∧
  H2 a = some (exo a C none) ∧ ∀ dx, H2 dx = none → dx ≠ a → D.nx σ (upd (upd H2 dx (exd dx [(f, y)])) a (exo a C (some dx)))
/-- C(e, ..), C's own __init__ keeping sp: the exception as a value -/
def tMkV (C : Addr) (sp : Sp) (ta : TA) : TE := fun σ H Q => ta σ H fun vs H1 => vs.length ≤ 1000 ∧ ∀ a, H1 a = none → sp (.ref a :: vs) (upd H1 a (exo a C none)) (fun v H2 => v = .non ∧ Q (.ref a) H2) E0
/-- e.f of an exception -/
def tXv (K : PySem.W.Frag) (f : Str) (te : TE) : TE := fun σ H Q => te σ H fun x H1 => ∃ (a C dx : Addr) (b : Bs) (fs : List (Str × V)) (v : V), x = .ref a ∧ EC K b C ∧ PySem.W.findIn K (.ref C) f = some none ∧
  H1 a = some (exo a C (some dx)) ∧ H1 dx = some (exd dx fs) ∧ fs.lookup f = some v ∧ Q v H1
/-- isinstance(e, c) -/
def rIsX (K : PySem.W.Frag) : List V → Hp → VK → Prop := fun xs H Q => ∃ (a C : Addr) (od : Option Addr) (c : V) (u : Value) (b : Bs) (r : Bool), xs = [.ref a, c] ∧ ClsV c u ∧ H a = some (exo a C od) ∧ (∀ d, od = some d → ∃ fs, H d = some (exd d fs)) ∧ EC K b C ∧
  PySem.W.kitOne K (.ref C) u = some r ∧ Q (.bl r) H
section
variable {X : Cx} {o e : Expr} {es : List Expr} {to te : TE} {ta : TA} {f : Str} {p p' p1 p2 pos : Pos}
theorem ps_osv (ho : PE X o to) (he : PE X e te) (hs : swapsWith e (some (.Attribute o f p')) pos.line X.env = pure false := by rfl) : PS X (.Assign [.Attribute o f p'] e pos) (tOsv X.K f to te) := by
  refine ⟨fun pins s σ H D I h => ?_⟩
  refine plainObj_wpAny_Assign_Attribute (thn (he.run pins s σ H _ I h) fun v s1 ⟨y, H1, I1, r1, q1⟩ => thn (ho.run pins s1 σ H1 _ I1 q1) fun u s2 ⟨x, H2, I2, r2, a, C, b, ex, T, hno, ea, q⟩ => ?_) hs
  subst ex
  obtain rfl : u = Value.ref a := r2
  exact osv_new T I2 ea hno r1 fun dx s' n ne J => ⟨σ, _, J, q dx n ne⟩
/-- the exception that is made: its object lies, not yet its dict -/
theorem made_inv {pins : List (Addr × Obj)} {σ : St} {H1 : Hp} {hp : Heap} {g : Array GenState} {dr : Drawn} {tk : Nat} {os : OsState} {C : Addr} (us : List Value) (I1 : Inv X pins σ H1 ⟨hp, g, dr, tk, os⟩) :
    Inv X pins σ (upd H1 (hp.objs.size + 1) (exo (hp.objs.size + 1) C none)) ⟨(hp.push (PySem.W.kdv_tup us)).push (PySem.HandSPX.excO C hp.objs.size), g, dr, tk, os⟩ := by
  have kk : ∀ b o, hp.get? b = some o → ((hp.push (PySem.W.kdv_tup us)).push (PySem.HandSPX.excO C hp.objs.size)).get? b = some o := fun b o e => Heap.get?_push_of_some _ (Heap.get?_push_of_some _ e)
  have hget : ((hp.push (PySem.W.kdv_tup us)).push (PySem.HandSPX.excO C hp.objs.size)).get? (hp.objs.size + 1) = some (PySem.HandSPX.excO C hp.objs.size) := by heap_get
  exact I1.laid (t' := tk) (a := hp.objs.size + 1) (o := exo (hp.objs.size + 1) C none) (h' := (hp.push (PySem.W.kdv_tup us)).push (PySem.HandSPX.excO C hp.objs.size)) kk (Nat.le_succ _) (exo_ok hget)
theorem run_mkV {CX : CXT} {C fI : Addr} {b : Bs} {k : Nat} {fd : FuncData} {ps : List Str} {sp : Sp} {pins : List (Addr × Obj)} {σ : St} {H1 : Hp} {s1 : Shared} {Q : VK} {us zs : List Value} {ws : List V} {kw : List (Str × Value)} (T : EC X.K b C)
    (iC : PySem.W.findIn X.K (.ref C) "__init__" = some (some (.ref fI))) (tI : PySem.W.typeIn X.K (.ref fI) = some (.type "function"))
    (F1 : FnOk X.prog X.w X.K X.mg X.base CX k fI fd ps sp) (hr : Room (k + 1) X.A) (hx : Passes CX X E0) (I1 : Inv X pins σ H1 s1) (hus : us.length ≤ sizeLine)
    (hz : ∀ (sh : Shared) (a : Addr), X.K.In sh.heap → BindsTo sh fd ⟨Value.ref a :: us, kw⟩ (ps.zip (Value.ref a :: zs))) (r2 : Vals ws zs)
    (h : ∀ a, H1 a = none → sp (.ref a :: ws) (upd H1 a (exo a C none)) (fun v H2 => v = .non ∧ Q (.ref a) H2) E0) :
    wpAny (model X.prog X.w) X.A (call (.ref C) us kw) (EP X pins σ Q) X.xe s1 := by
  obtain ⟨nm, N, qn, bs, bm, hdct, sn, sub, ab, col, dd, k0, k1, k2, k3, k5, hC, hT⟩ := PySem.W.excInit_of I1.kIn T.own
  obtain ⟨hp, g, dr, tk, os⟩ := s1
  have hn : H1 (hp.objs.size + 1) = none := I1.hok.fresh (Nat.le_succ _)
  have hq := h (hp.objs.size + 1) hn
  have I2 := made_inv (C := C) us I1
  have r3 : Vals (V.ref (hp.objs.size + 1) :: ws) (Value.ref (hp.objs.size + 1) :: zs) := .cons rfl r2
  refine wpAny_call (own_call ⟨nm, qn, N, bs, hdct, sn, sub, ab, col, dd, k0, k1, k2, k3, k5, hC⟩ T.ok hT (PySem.W.looks_findIn I1.kIn iC) (fun self => PySem.W.bind_fn I1.kIn self tI) hus
    (codeAny_mono (F1.run _ X.stack _ _ ⟨Value.ref (hp.objs.size + 1) :: us, kw⟩ (Value.ref (hp.objs.size + 1) :: zs) _ _ E0 (hr.make C us kw) (I2.env0.make C us kw) (hz _ _ I2.kIn) r3 hq) fun r s' hq' => ?_))
  cases r with
  | error er => exact hx pins σ _ _ er s' I2 hq'
  | ok fl =>
    cases fl with
    | ret u =>
      obtain ⟨v, H', I3, rv, ev, q3⟩ := I2.after hq'
      subst ev
      exact ⟨rv, ⟨V.ref (hp.objs.size + 1), H', I3, rfl, q3⟩⟩
    | next => exact False.elim hq'
    | brk => exact False.elim hq'
    | cont => exact False.elim hq'
/-- C(e, ..) -/
theorem pe_mkV {CX : CXT} {x : Str} {C fI : Addr} {b : Bs} {k : Nat} {fd : FuncData} {ps : List Str} {sp : Sp} (T : EC X.K b C) (iC : PySem.W.findIn X.K (.ref C) "__init__" = some (some (.ref fI))) (tI : PySem.W.typeIn X.K (.ref fI) = some (.type "function"))
    (F1 : FnOk X.prog X.w X.K X.mg X.base CX k fI fd ps sp) (hr : Room (k + 1) X.A) (hb : Binds X.K fd ps []) (hx : Passes CX X E0) (hg : Gl X x) (hm : X.mg x = some (.ref C)) (ha : PA X (e :: es) ta)
    (hdb : (x == ("__debug__" : Str)) = false := by decide) (he : starEach (e :: es) X.env = (false, eval e X.env) :: starEach es X.env := by rfl) (hpl : (backTo pos (starEach es X.env)).any (·.1) = false := by rfl) :
    PE X (.Call (.Name x p) (e :: es) [] pos) (tMkV C sp ta) := by
  refine ⟨fun pins s σ H Q I h => ?_⟩
  refine wpAny_Call_Name_kw (ld_glob I hg hm ?_ hdb)
  refine PySem.W.callWith_K (h₀ := X.base) I.ok.mod.kin T.kC (thn (ha.run pos pins s σ H _ I h) fun us s1 ⟨vs, H1, I1, r1, hz, q1⟩ => ⟨I1.kIn, ?_⟩) he hpl
  have hus : us.length ≤ sizeLine := by
    rw [← Paired.length r1, sizeLine_eq]
    omega
  have hl : (Value.ref 0 :: us).length = ps.length := by
    have z := F1.len _ _ _ _ (q1 s1.heap.objs.size (I1.hok.fresh (Nat.le_refl _)))
    rw [← z, List.length_cons, List.length_cons, Paired.length r1]
  refine run_mkV (us := us) (kw := []) (zs := us) T iC tI F1 hr hx I1 hus (fun sh a X' => ?_) r1 q1
  have z := hb sh (Value.ref a :: us) X' (by rw [List.append_nil]; exact hl)
  rw [List.append_nil] at z
  exact z
/-- C(f = e) -/
theorem pe_mkVK {CX : CXT} {x : Str} {C fI : Addr} {b : Bs} {k : Nat} {fd : FuncData} {ps ks : List Str} {sp : Sp} {kws : List Keyword} {tk : TA} (T : EC X.K b C) (iC : PySem.W.findIn X.K (.ref C) "__init__" = some (some (.ref fI))) (tI : PySem.W.typeIn X.K (.ref fI) = some (.type "function"))
    (F1 : FnOk X.prog X.w X.K X.mg X.base CX k fI fd ps sp) (hr : Room (k + 1) X.A) (hb : ∀ (sh : Shared) (a : Addr) (zs : List Value), zs.length = ks.length → BindsTo sh fd ⟨[Value.ref a], ks.zip zs⟩ (ps.zip (Value.ref a :: zs))) (hx : Passes CX X E0) (hg : Gl X x) (hm : X.mg x = some (.ref C)) (hkw : PK X kws tk)
    (hps : ps.length = ks.length + 1) (hall : (backToKw pos (keywordEach kws X.env)).all (·.1.isSome) = true := by rfl) (hks : (backToKw pos (keywordEach kws X.env)).filterMap (·.1) = ks := by rfl) (hdb : (x == ("__debug__" : Str)) = false := by decide)
    (hpl : ((backTo pos (starEach [] X.env)).any (·.1) || (backToKw pos (keywordEach kws X.env)).any (·.1.isNone)) = false := by rfl) :
    PE X (.Call (.Name x p) [] kws pos) (tMkV C sp tk) := by
  refine ⟨fun pins s σ H Q I h => ?_⟩
  refine wpAny_Call_Name_kw (ld_glob I hg hm ?_ hdb)
  refine PySem.W.callWith_KW0 (h₀ := X.base) I.ok.mod.kin T.kC hall ?_ hpl
  refine thn (hkw.run pos pins s σ H _ I h) fun ws s2 ⟨zs, H2, I2, rz, hz, q2⟩ => ⟨I2.kIn, ?_⟩
  rw [hks]
  have hl : ws.length = ks.length := by
    have z := F1.len _ _ _ _ (q2 s2.heap.objs.size (I2.hok.fresh (Nat.le_refl _)))
    rw [List.length_cons, hps] at z
    rw [← Paired.length rz]
    omega
  exact run_mkV (us := []) (kw := ks.zip ws) (zs := ws) T iC tI F1 hr hx I2 (Nat.zero_le _) (fun sh a _ => hb sh a ws hl) rz q2
/-- C(), no __init__ of its own -/
theorem pe_mkV0 {x : Str} {C : Addr} {b : Bs} (T : EC X.K b C) (iC : PySem.W.findIn X.K (.ref C) "__init__" = some (some (.builtin b.initId))) (hg : Gl X x) (hm : X.mg x = some (.ref C))
    (hdb : (x == ("__debug__" : Str)) = false := by decide) :
    PE X (.Call (.Name x p) [] [] pos) (fun _ H Q => ∀ a, H a = none → Q (.ref a) (upd H a (exo a C none))) := by
  refine ⟨fun pins s σ H Q I h => ?_⟩
  refine wpAny_Call_Name_kw (ld_glob I hg hm ?_ hdb)
  refine PySem.W.callWith_K0 I.kIn T.kC ?_
  show wpAny _ _ (call (.ref C) []) _ _ _
  obtain ⟨nm, N, qn, bs, bm, hdct, sn, sub, ab, col, dd, k0, k1, k2, k3, k5, hC, hT⟩ := PySem.W.excInit_of I.kIn T.own
  obtain ⟨hp, g, dr, tk, os⟩ := s
  refine PySem.W.call_B T.ok.F hT hC (PySem.W.looks_findIn I.kIn iC) (Nat.zero_le _) fun h' k e1 e2 => ?_
  have hn : H (hp.objs.size + 1) = none := I.hok.fresh (Nat.le_succ _)
  exact ⟨.ref (hp.objs.size + 1), _, I.laid (t' := tk) (a := hp.objs.size + 1) k (Nat.le_succ _) (exo_ok e1), rfl, h _ hn⟩
theorem pe_xv {n : Str} (he : PE X e te) (hb : attributeBase e n X.env (eval e X.env) = eval e X.env := by rfl) : PE X (.Attribute e n pos) (tXv X.K n te) := by
  refine ⟨fun pins s σ H Q I h => ?_⟩
  refine attr_of hb (thn (he.run pins s σ H _ I h) fun u s1 hh => ?_)
  obtain ⟨x, H1, I1, rx, a, C, dx, b, fs, v, ex, T, hno, ea, ed, l, q⟩ := hh
  subst ex
  obtain rfl : u = Value.ref a := rx
  obtain ⟨t1, ho⟩ := exo_at I1.hok ea
  obtain ⟨mA, hns, hr⟩ := exd_at I1.hok ed
  obtain ⟨od, hod, hl⟩ := lookIn_ns hns
  obtain ⟨u, hu, ru⟩ := RelO.some_of (v := v) (o := mA n) (by rw [← l]; exact hr n)
  have J : PySem.W.InstAt s1.heap a { cls := .ref C, dict := some dx, data := .fields #[.ref t1, .none, .none, .none, .bool false, .none] } C (some od) := ⟨ho, rfl, rfl, hod⟩
  exact HandSPX.exc_get I1.kIn J T.ex.hg T.ex.hk T.ex.hs (PySem.W.findObj_own T.ex.hd hno rfl (by rw [hl, hu])) (handed_of ru) ⟨v, H1, I1.tok _, ru, q⟩
theorem call_isX : CallR X (.builtin "isinstance") (rIsX X.K) := by
  intro pins s σ H xs us Q I r h
  obtain ⟨a, C, od, c, u, b, rr, rfl, k, ea, hd, T, e, q⟩ := h
  obtain ⟨u1, u2, rfl, r1, r2⟩ := vals2 r
  have e2 := k.eq r2
  subst e2
  obtain rfl : u1 = Value.ref a := r1
  obtain ⟨t1, ho⟩ := exo_at I.hok ea
  have hcl : (PySem.W.clsIn X.K C).isSome = true := by
    obtain ⟨cd, hc, _⟩ := T.cd
    rw [hc]
    rfl
  have fin : ∀ tk, EP X pins σ Q (.bool rr) { s with toks := tk } := fun tk => ⟨.bl rr, H, I.tok tk, rfl, q⟩
  cases od with
  | none =>
    have J : PySem.W.InstAt s.heap a { cls := .ref C, dict := none, data := .fields #[.ref t1, .none, .none, .none, .bool false, .none] } C none := ⟨ho, rfl, rfl, trivial⟩
    exact PySem.W.kia_one (PySem.W.kitx_exc hcl T.ex.hg T.ex.hk T.ex.hs T.ex.ha T.ex.hn T.ex.ht T.ex.hm) I.kIn J e (fun z => nomatch z) fin
  | some dd =>
    obtain ⟨fs, ed⟩ := hd dd rfl
    obtain ⟨mA, hns, hr⟩ := exd_at I.hok ed
    obtain ⟨od, es, ep, hod, _⟩ := hns
    have J : PySem.W.InstAt s.heap a { cls := .ref C, dict := some dd, data := .fields #[.ref t1, .none, .none, .none, .bool false, .none] } C (some od) := ⟨ho, rfl, rfl, hod⟩
    exact PySem.W.kia_one (PySem.W.kitx_exc hcl T.ex.hg T.ex.hk T.ex.hs T.ex.ha T.ex.hn T.ex.ht T.ex.hm) I.kIn J e (fun z => nomatch z) fin
end
end L2.Tb
set_option Elab.async false
set_option linter.all false
set_option maxRecDepth 100000
set_option maxHeartbeats 4000000
namespace L2.Tb
open PySem PySem.Spec PyProof.Rows
/-! ### a def of the module that is called by its name -/
structure Cal (P : Program) (w : World) (K : PySem.W.Frag) (mg : Str → Option Value) (base : Heap) (k : Nat) (x : Str) (sp : Sp) : Prop where
  ex : ∃ (f : Addr) (fd : FuncData) (ps : List Str), FnOk P w K mg base L2.CX0 k f fd ps sp ∧ mg x = some (.ref f) ∧ PySem.W.keepIn K (.ref f) = true ∧ Binds K fd ps []
abbrev FnP (K : PySem.W.Frag) (x : Str) (st : Stmt) (f : Addr) (fd : FuncData) : Prop := FunD K x x (defArgs st) (defBody st) (defScope st) [] [] f fd
section
variable {P : Program} {w : World} {K : PySem.W.Frag} {mg : Str → Option Value} {base : Heap} {x : Str} {st : Stmt} {f : Addr} {fd : FuncData} {N ps : List Str} {k : Nat} {sp : Sp}
theorem cal_mk (F : FnP K x st f fd) (hm : mg x = some (.ref f)) (S : FnScope N ps (defScope st))
    (hb : ∀ (kV doc pm : Value) (an : Option Addr) (cdv ct : Value) (us : List Value), us.length = ps.length → bindArgs (PySem.W.fnOf x x (defArgs st) (defBody st) (defScope st) .none kV doc pm an cdv ct) ⟨us, []⟩ = pure (ps.zip us))
    (len : ∀ vs H Q E, sp vs H Q E → vs.length = ps.length)
    (hbody : ∀ (cdv : Value) (A : Around) (outer : List Env) (s : Shared) (H : Hp) (vs : List V) (Q : VK) (E : XK), Room k (A.deeper (envOfC x (defScope st) s.heap.objs.size f cdv)) → sp vs H Q E →
      ∃ t, PSs (cxOf L2.CX0 P w K mg base N x (defScope st) f cdv A outer s H E).nox (defBody st) t ∧ t { nx := fun _ H' => Q .non H', rt := Q } (start N vs) H) : Cal P w K mg base (k + 1) x sp :=
  ⟨f, fd, ps, F.ok S len fun cdv A outer s H vs Q E hr h => let ⟨t, a, b⟩ := hbody cdv A outer s H vs Q E hr h; ⟨t, a.nox, b⟩, hm, F.kp, F.bindsN hb⟩
theorem Cal.imp {sp' : Sp} (c : Cal P w K mg base k x sp) (h : ∀ vs H Q E, sp' vs H Q E → sp vs H Q E) : Cal P w K mg base k x sp' := by
  obtain ⟨f, fd, ps, F, a, b, d⟩ := c.ex
  exact ⟨f, fd, ps, F.imp h, a, b, d⟩
end
section
variable {X : Cx} {k j : Nat} {x : Str} {sp : Sp} {p pos : Pos} {e : Expr} {es : List Expr} {t : TA}
theorem pe_cal (c : Cal X.prog X.w X.K X.mg X.base k x sp) (hr : Room j X.A) (hk : k ≤ j) (hg : Gl X x) (ha : PA X (e :: es) t)
    (hdb : (x == ("__debug__" : Str)) = false := by decide) (he : starEach (e :: es) X.env = (false, eval e X.env) :: starEach es X.env := by rfl) (hpl : (backTo pos (starEach es X.env)).any (·.1) = false := by rfl) :
    PE X (.Call (.Name x p) (e :: es) [] pos) (tCall sp [] E0 t) := by
  obtain ⟨f, fd, ps, F, hm, kp, b⟩ := c.ex
  exact pe_call F (hr.mono hk) hg hm kp b .nil pass0 ha hdb he hpl
theorem pe_cal0 (c : Cal X.prog X.w X.K X.mg X.base k x sp) (hr : Room j X.A) (hk : k ≤ j) (hg : Gl X x)
    (hdb : (x == ("__debug__" : Str)) = false := by decide) : PE X (.Call (.Name x p) [] [] pos) (tCall sp [] E0 tNil) := by
  obtain ⟨f, fd, ps, F, hm, kp, b⟩ := c.ex
  exact pe_call0 F (hr.mono hk) hg hm kp b .nil pass0 hdb
end
/-! ### heaps: all but p stands -/
def SameB (p : Addr) (H H' : Hp) : Prop := ∀ b o, b ≠ p → H b = some o → H' b = some o
theorem SameB.refl (p : Addr) (H : Hp) : SameB p H H := fun _ _ _ h => h
theorem SameB.trans {p : Addr} {H H1 H2 : Hp} (a : SameB p H H1) (b : SameB p H1 H2) : SameB p H H2 := fun c o n h => b c o n (a c o n h)
theorem SameB.of {p : Addr} {H H' : Hp} (a : Same H H') : SameB p H H' := fun c o _ h => a c o h
theorem SameB.set {p : Addr} {H : Hp} {o : HO} : SameB p H (upd H p o) := fun c u n h => by rw [upd_ne n]; exact h
theorem same_new {H : Hp} {p : Addr} {o : HO} (h : H p = none) : Same H (upd H p o) := fun b u e => by rw [upd_ne (ne_of_none e h)]; exact e
theorem SameB.put {p : Addr} {H H' : Hp} {o : HO} (a : SameB p H H') : SameB p H (upd H' p o) := fun c u n h => by rw [upd_ne n]; exact a c u n h
/-! ### the purse -/
structure Purse (H : Hp) (p : Addr) : Prop where
  ex : ∃ st dg c : Int, H p = some (.lst [.int st, .int dg, .int c]) ∧ 0 ≤ st ∧ st < 2147483563 ∧ 0 ≤ dg
theorem Purse.same {H H' : Hp} {p : Addr} (h : Purse H p) (s : Same H H') : Purse H' p := by
  obtain ⟨st, dg, c, e, r⟩ := h.ex
  exact ⟨st, dg, c, s _ _ e, r⟩
theorem Purse.sameB {H H' : Hp} {p q : Addr} (h : Purse H p) (n : p ≠ q) (s : SameB q H H') : Purse H' p := by
  obtain ⟨st, dg, c, e, r⟩ := h.ex
  exact ⟨st, dg, c, s _ _ n e, r⟩
theorem divp_small {i j : Int} (h0 : 0 < j) (h1 : j < 2 ^ 200) : CDivP i j := by
  refine ⟨h0, ?_⟩
  unfold Builtin.divisionGoesByPylong
  have hb : j.natAbs.log2 < 200 := PySem.Flt.log2_lt_of (by decide) (by omega)
  have hj : ¬ (j == 0) = true := by simpa using (show j ≠ 0 by omega)
  show (decide ((if j == 0 then 0 else j.natAbs.log2 / 30 + 1) > 300) && _) = false
  rw [if_neg hj, decide_eq_false (by omega), Bool.false_and]
/-! ### odd values, alike values -/
def flatS : V → Bool
  | .non => true | .bl _ => true | .int _ => true | .str _ => true
  | _ => false
theorem flatS_B {x : V} (h : flatS x = true) : flatB x = true := by
  cases x <;> first | rfl | cases h
def Al (H : Hp) : Nat → V → V → Prop
  | 0, x, y => x = y ∧ flatS x = true
  | n + 1, x, y => (x = y ∧ flatS x = true) ∨
    (∃ a b xs ys, x = .ref a ∧ y = .ref b ∧ H a = some (.lst xs) ∧ H b = some (.lst ys) ∧ xs.length ≤ 1000 ∧ Paired (Al H n) xs ys) ∨
    (∃ a b xs ys, x = .ref a ∧ y = .ref b ∧ H a = some (.tup xs) ∧ H b = some (.tup ys) ∧ xs.length ≤ 1000 ∧ Paired (Al H n) xs ys) ∨
    (∃ (a : Addr) (kvs : List (Key × V)), x = .ref a ∧ y = .ref a ∧ H a = some (.dK kvs) ∧ ∀ kv ∈ kvs, valV kvs kv.1 = some kv.2 ∧ (flatS kv.2 = true ∨ ∃ b, kv.2 = .ref b))
theorem Al.mono {H H' : Hp} : ∀ {n : Nat} {x y : V}, (∀ b o, H b = some o → (∀ l, o = .lst l → l.length ≠ 3) → H' b = some o) → (∀ b l, H b = some (.lst l) → l.length = 3 → ∃ l', H' b = some (.lst l')) → Same H H' → Al H n x y → Al H' n x y
  | 0, _, _, _, _, _, h => h
  | n + 1, x, y, k1, k2, s, h => by
    have ih : ∀ {xs ys : List V}, Paired (Al H n) xs ys → Paired (Al H' n) xs ys := fun p => Paired.mapP p fun a b q => Al.mono k1 k2 s q
    rcases h with h | ⟨a, b, xs, ys, h1, h2, h3, h4, h5, h6⟩ | ⟨a, b, xs, ys, h1, h2, h3, h4, h5, h6⟩ | ⟨a, kvs, h1, h2, h3, h4⟩
    · exact .inl h
    · exact .inr (.inl ⟨a, b, xs, ys, h1, h2, s _ _ h3, s _ _ h4, h5, ih h6⟩)
    · exact .inr (.inr (.inl ⟨a, b, xs, ys, h1, h2, s _ _ h3, s _ _ h4, h5, ih h6⟩))
    · exact .inr (.inr (.inr ⟨a, kvs, h1, h2, s _ _ h3, h4⟩))
theorem Al.same {H H' : Hp} {n : Nat} {x y : V} (h : Al H n x y) (s : Same H H') : Al H' n x y := Al.mono (fun b o e _ => s b o e) (fun b l e _ => ⟨l, s _ _ e⟩) s h
def Od (H : Hp) : Nat → V → Prop
  | 0, v => flatS v = true
  | n + 1, v => flatS v = true ∨ (∃ a xs, v = .ref a ∧ H a = some (.lst xs) ∧ xs.length ≤ 1 ∧ ∀ x ∈ xs, Od H n x) ∨ (∃ a xs, v = .ref a ∧ H a = some (.tup xs) ∧ xs.length ≤ 3 ∧ ∀ x ∈ xs, Od H n x) ∨
    (∃ (a : Addr) (kvs : List (Key × V)), v = .ref a ∧ H a = some (.dK kvs) ∧ kvs.length ≤ 1 ∧ ∀ kv ∈ kvs, flatS kv.2 = true ∨ ∃ b, kv.2 = .ref b)
theorem Od.keep {H H' : Hp} {p : Addr} {st dg c : V} (hp : H p = some (.lst [st, dg, c])) (s : SameB p H H') : ∀ {n : Nat} {v : V}, Od H n v → Od H' n v
  | 0, _, h => h
  | n + 1, v, h => by
    rcases h with h | ⟨a, xs, h1, h2, h3, h4⟩ | ⟨a, xs, h1, h2, h3, h4⟩ | ⟨a, kvs, h1, h2, h3, h4⟩
    · exact .inl h
    · refine .inr (.inl ⟨a, xs, h1, s _ _ (fun e => ?_) h2, h3, fun x hx => (h4 x hx).keep hp s⟩)
      rw [e, hp] at h2
      cases h2
      simp at h3
    · refine .inr (.inr (.inl ⟨a, xs, h1, s _ _ (fun e => ?_) h2, h3, fun x hx => (h4 x hx).keep hp s⟩))
      rw [e, hp] at h2
      cases h2
    · refine .inr (.inr (.inr ⟨a, kvs, h1, s _ _ (fun e => ?_) h2, h3, h4⟩))
      rw [e, hp] at h2
      cases h2
theorem Od.same {H H' : Hp} (s : Same H H') : ∀ {n : Nat} {v : V}, Od H n v → Od H' n v
  | 0, _, h => h
  | n + 1, v, h => by
    rcases h with h | ⟨a, xs, h1, h2, h3, h4⟩ | ⟨a, xs, h1, h2, h3, h4⟩ | ⟨a, kvs, h1, h2, h3, h4⟩
    · exact .inl h
    · exact .inr (.inl ⟨a, xs, h1, s _ _ h2, h3, fun x hx => (h4 x hx).same s⟩)
    · exact .inr (.inr (.inl ⟨a, xs, h1, s _ _ h2, h3, fun x hx => (h4 x hx).same s⟩))
    · exact .inr (.inr (.inr ⟨a, kvs, h1, s _ _ h2, h3, h4⟩))
theorem paired_self {α : Type} {R : α → α → Prop} : ∀ {xs : List α}, (∀ x ∈ xs, R x x) → Paired R xs xs
  | [], _ => .nil
  | x :: xs, h => .cons (h x (List.mem_cons_self ..)) (paired_self fun y hy => h y (List.mem_cons_of_mem _ hy))
theorem Od.al {H : Hp} : ∀ {n : Nat} {v : V}, Od H n v → Al H n v v
  | 0, _, h => ⟨rfl, h⟩
  | n + 1, v, h => by
    rcases h with h | ⟨a, xs, h1, h2, h3, h4⟩ | ⟨a, xs, h1, h2, h3, h4⟩ | ⟨a, kvs, h1, h2, h3, h4⟩
    · exact .inl ⟨rfl, h⟩
    · exact .inr (.inl ⟨a, a, xs, xs, h1, h1, h2, h2, by omega, paired_self fun x hx => (h4 x hx).al⟩)
    · exact .inr (.inr (.inl ⟨a, a, xs, xs, h1, h1, h2, h2, by omega, paired_self fun x hx => (h4 x hx).al⟩))
    · refine .inr (.inr (.inr ⟨a, kvs, h1, h1, h2, fun kv hk => ⟨?_, h4 kv hk⟩⟩))
      match kvs, h3, hk with
      | [q], _, hk =>
        obtain rfl : kv = q := by simpa using hk
        simp [valV]
/-- x == y where both are one scalar or one dict -/
def rSelf : R2 := fun x y H Q => x = y ∧ (flatS x = true ∨ ∃ (a : Addr) (kvs : List (Key × V)), x = .ref a ∧ H a = some (.dK kvs) ∧ ∀ kv ∈ kvs, valV kvs kv.1 = some kv.2 ∧ (flatS kv.2 = true ∨ ∃ b, kv.2 = .ref b)) ∧ Q (.bl true) H
theorem op_self {X : Cx} (hu : X.A.units + 64 < cLine) : OpR X (compareOp .Eq) rSelf := by
  intro pins s σ H x y v u Q I rx ry h
  obtain ⟨rfl, h, q⟩ := h
  rcases h with h | ⟨a, kvs, rfl, ha, hk⟩
  · refine op_eq pins s σ H x x v u Q I rx ry ⟨?_, by rw [decide_eq_true rfl]; exact q⟩
    cases x <;> first | rfl | cases h
  · refine op_eqV hu pins s σ H _ _ v u Q I rx ry ⟨1, by decide, .inr ⟨a, a, kvs, kvs, rfl, rfl, ha, ha, rfl, fun p hp => ⟨p.2, (hk p hp).1, ?_⟩⟩, q⟩
    rcases (hk p hp).2 with z | ⟨b, z⟩
    · exact .inl ⟨rfl, flatS_B z⟩
    · exact .inr (.inl ⟨b, z, z⟩)
end L2.Tb
set_option Elab.async false
set_option linter.all false
set_option maxRecDepth 100000
set_option maxHeartbeats 4000000
namespace L2.Tb
open PySem PySem.Spec PyProof.Rows
/-! ### a def's promise at one place of the stack (for what hangs on the stack: repr) -/
section
variable {P : Program} {w : World} {K : PySem.W.Frag} {mg : Str → Option Value} {base : Heap} {f : Addr} {fd : FuncData} {ps : List Str} {sp : Sp} {A : Around}
def RunsAt (P : Program) (w : World) (K : PySem.W.Frag) (mg : Str → Option Value) (base : Heap) (f : Addr) (fd : FuncData) (ps : List Str) (sp : Sp) (A : Around) : Prop :=
  ∀ (outer : List Env) (s : Shared) (H : Hp) (args : Args) (us : List Value) (vs : List V) (Q : VK) (E : XK), Env0 P w K mg base A outer s H → BindsTo s fd args (ps.zip us) → Vals vs us → vs.length = ps.length → sp vs H Q E →
    codeAny (model P w) A (.call (.ref f) args) (CR L2.CX0 outer P w H s Q E) s
/-- how a body's end becomes the call's end -/
theorem end_call {s s' : Shared} {H : Hp} {Q : VK} {E : XK} {fl : Flow} {N : List Str} {x : Str} {sc : Scope} {cdv : Value} {outer : List Env}
    (h : SP (cxOf L2.CX0 P w K mg base N x sc f cdv A outer s H E) [] { nx := fun _ H' => Q .non H', rt := Q } fl s') : CR L2.CX0 outer P w H s Q E (.ok (.ret (match (generalizing := false) fl with | .ret v => v | _ => .none))) s' := by
  match fl, h with
  | .ret u, ⟨v, σ', H', J, rv, q⟩ => exact ⟨v, H', J.os, J.bare, J.base, J.hok, rv, q⟩
  | .next, ⟨σ', H', J, q⟩ => exact ⟨.non, H', J.os, J.bare, J.base, J.hok, rfl, q⟩
  | .brk, ⟨_, _, _, q⟩ => exact q.elim
  | .cont, ⟨_, _, _, q⟩ => exact q.elim
theorem runs_body {x : Str} {st : Stmt} {N : List Str} {k : Nat} (F : FnP K x st f fd) (S : FnScope N ps (defScope st)) (hr : Room (k + 1) A)
    (hbody : ∀ (cdv : Value) (outer : List Env) (s : Shared) (H : Hp) (vs : List V) (Q : VK) (E : XK), Room k (A.deeper (envOfC x (defScope st) s.heap.objs.size f cdv)) → sp vs H Q E →
      ∃ t, PSs (cxOf L2.CX0 P w K mg base N x (defScope st) f cdv A outer s H E) (defBody st) t ∧ t { nx := fun _ H' => Q .non H', rt := Q } (start N vs) H) : RunsAt P w K mg base f fd ps sp A := by
  obtain ⟨oc, od, dV, kV, doc, pm, an, cdv, ct, osl, rfl, lk, hcd, _, _⟩ := F.ex
  intro outer s H args us vs Q E e0 hb r hl hsp
  have here : ∀ {b o}, base.get? b = some o → s.heap.get? b = some o := fun e => (e0.bs _ _ e).1
  have KX : K.In s.heap := e0.mod.kin.keeps fun _ _ e => here e
  obtain ⟨t, ht, hq⟩ := hbody cdv outer s H vs Q E (hr.deeper _) hsp
  refine codeAny_call_function hr.depth (KX _ _ lk) rfl S.co S.gen rfl (PySem.W.codeRec_of KX hcd) (hb _ _ _ _ (wpAny_newFunctionEnv_cells S.kind (fun y hy => ?_) fun env he s1 i => ?_))
  · exact (S.par y.1 (List.of_mem_zip hy).1).imp_right fun q => ⟨q, PySem.W.cellsFrom_some _ _ _ (.inl q)⟩
  · rw [he]
    rw [he] at i
    exact ⟨(e0.mod.nolimit.keeps fun _ _ e => here e).keeps i.toInCall.keep, codeAny_func (wpAny_mono (ht.run [] s1 _ H _ (inv_start S hr.hd e0 hl r i) hq) (fun fl s' h => end_call h) fun _ _ h => h)⟩
end
section
variable {X : Cx} {f : Addr} {fd : FuncData} {ps : List Str} {sp : Sp} {x : Str} {p pos : Pos}
/-- x(), x a def without parameters that runs here -/
theorem pe_at0 (R : RunsAt X.prog X.w X.K X.mg X.base f fd [] sp X.A) (hg : Gl X x) (hm : X.mg x = some (.ref f)) (hk : PySem.W.keepIn X.K (.ref f) = true) (hb : ∀ s : Shared, X.K.In s.heap → BindsTo s fd ⟨[], []⟩ []) (hdb : (x == ("__debug__" : Str)) = false := by decide) :
    PE X (.Call (.Name x p) [] [] pos) (fun _ H Q => sp [] H Q E0) := by
  refine ⟨fun pins s σ H Q I h => wpAny_Call_Name_kw (ld_glob I hg hm (PySem.W.callWith_K0 I.kIn hk (wpAny_call (codeAny_mono (R X.stack s H ⟨[], []⟩ [] [] Q E0 I.env0 (hb s I.kIn) .nil rfl h) fun r s' hq => ?_))) hdb)⟩
  match r, hq with
  | .error e, hq => exact pass0 pins σ H s e s' I hq
  | .ok (.ret u), hq => exact I.after hq
end
section
variable {X : Cx}
def rReprD (K : PySem.W.Frag) : List V → Hp → VK → Prop := fun vs H Q => ∃ (a : Addr) (d : PyData), vs = [.ref a] ∧ Dp K H (.ref a) d ∧ d.showable = true ∧ d.hasDict = false ∧ d.depth ≤ 60 ∧ d.shown.length ≤ sizeLine ∧ Q (.str d.shown) H
theorem call_reprD (hg : X.A.guards = some []) (hu : X.A.units + 64 < cLine) : CallR X (.builtin "repr") (rReprD X.K) := by
  intro pins s σ H vs us Q I r h
  obtain ⟨a, d, rfl, hd, h1, h2, h3, h4, q⟩ := h
  rw [Vals.ref1 r]
  obtain ⟨as, rr⟩ := Dp.reads I d (.ref a) (.ref a) hd rfl
  exact repr_of_reads' rr h1 (fun z => by rw [h2] at z; cases z) hg (by omega) (fun _ _ e => e) (fun h' u tk hk => ⟨.str d.shown, H, I.kept hk, ⟨u, rfl⟩, q⟩) h4
end
/-! ### the end, at the place of the law's call -/
theorem law_at {P : Program} {w : World} {K : PySem.W.Frag} {mg mb : Str → Option Value} {fa a : Addr} {fd : FuncData} {x : Str} {sp : Sp} {s1 : Shared} {vs : List Value} {ns : List Int} (KX : K.In s1.heap) (hns : s1.heap.Ns mainGlobals mg) (hb : s1.heap.Ns builtinsNs mb)
    (hbb : ∀ x : Str, x ≠ "__name__" → mb x = bootBuiltins x) (hlim : s1.heap.NoLimit) (hg : s1.gens = #[]) (ha : s1.heap.get? a = some { cls := .type "list", data := .seq vs.toArray }) (hi : IntsAre vs ns) (hl : ns.length ≤ sizeLine)
    (R : ∀ base : Heap, K.In base → base.Ns mainGlobals mg → RunsAt P w K mg base fa fd [x] sp callerA) (hbind : ∀ (s : Shared) (u : Value), BindsTo s fd ⟨[u], []⟩ [(x, u)])
    (hsp : ∀ H : Hp, SqL K H a (ns.map V.int) → (∀ b o, H b = some o → ∃ u xs, o = .frz u (.lst xs)) → sp [.ref a] H (fun v _ => v = .bl true) fun _ _ _ => False) :
    codeAny (model P w) callerA (.call (.ref fa) ⟨[.ref a], []⟩) (fun r s' => r = .ok (.ret (.bool true)) ∧ OldK s1.heap s'.heap ∧ s'.os = s1.os ∧ AllBare s'.gens) s1 := by
  let ob : Obj := { cls := .type "list", data := .seq vs.toArray }
  let H : Hp := fun b => if b = a ∧ K.lookup a = none then some (.frz ob (.lst (ns.map V.int))) else none
  have hH : ∀ b o, H b = some o → b = a ∧ K.lookup a = none ∧ o = .frz ob (.lst (ns.map V.int)) := fun b o e => by
    by_cases c : b = a ∧ K.lookup a = none
    · have e' := (if_pos c).symm.trans e
      cases e'
      exact ⟨c.1, c.2, rfl⟩
    · have e' := (if_neg c).symm.trans e
      cases e'
  have free : ∀ b o, s1.heap.get? b = some o → (b = a → (K.lookup a).isSome = true ∨ ∃ es ep, o.data = .dict es ep) → H b = none := fun b o e c => by
    cases q : H b with
    | none => rfl
    | some u =>
      obtain ⟨rfl, hk, _⟩ := hH b u q
      rcases c rfl with z | ⟨es, ep, z⟩
      · rw [hk] at z
        cases z
      · rw [ha] at e
        cases e
        cases z
  have ns1 : ∀ {b : Addr} {m : Str → Option Value}, s1.heap.Ns b m → (hidT s1.heap H).Ns b m := fun {b m} ⟨o, es, ep, e, d, r⟩ => ⟨o, es, ep, hidT_get e (free b o e fun _ => .inr ⟨es, ep, d⟩), d, r⟩
  have kin : K.In (hidT s1.heap H) := fun b o e => hidT_get (KX b o e) (free b o (KX b o e) fun z => .inl (by rw [← z, e]; rfl))
  have rv := vals_ints hi
  have sq : SqL K H a (ns.map V.int) := by
    cases hk : K.lookup a with
    | none => exact .inl (.inr ⟨ob, if_pos ⟨rfl, hk⟩⟩)
    | some o =>
      have e := KX a o hk
      rw [ha] at e
      cases e
      exact .inr ⟨_, vs.toArray, _, hk, rfl, rfl, rfl, by rw [List.size_toArray, hi.length]; exact hl, by simpa using rv⟩
  have hok : HOk P w H s1.heap := fun b u z => by
    obtain ⟨rfl, _, rfl⟩ := hH b u z
    exact ⟨ha, by rw [List.length_map]; exact hl, vs, _, rv, ha⟩
  obtain ⟨mc, l1, l2⟩ := hlim
  have e0 : Env0 P w K mg (hidT s1.heap H) callerA [] s1 H := ⟨rfl, ⟨kin, ns1 hns, ⟨mb, ns1 hb, hbb⟩, ⟨mc, ns1 l1, l2⟩⟩, fun _ _ e => of_hidT e, Nat.le_of_eq (hidT_size _ _), trivial, fun b hb => (nomatch hb), hok, .of_eq hg⟩
  refine codeAny_mono (R _ kin (ns1 hns) [] s1 H _ [.ref a] [.ref a] (fun v _ => v = .bl true) (fun _ _ _ => False) e0 (hbind s1 (.ref a)) (.cons rfl .nil) rfl (hsp H sq fun b o e => ⟨_, _, (hH b o e).2.2⟩)) fun r s' h => ?_
  match r, h with
  | .error e, h => exact h.elim
  | .ok (.ret u), ⟨v, H', os, bare, un, hok', r', q⟩ =>
    subst q
    obtain rfl : u = Value.bool true := r'
    refine ⟨rfl, OldK.of_keep fun b o e => ?_, os, bare⟩
    cases z : H b with
    | none => exact un.keep b o e z (fun z => nomatch z) (fun z => nomatch z)
    | some o2 =>
      obtain ⟨rfl, _, rfl⟩ := hH b o2 z
      rw [ha] at e
      cases e
      exact (hok' b _ (un.frzs b ob _ z)).1
theorem walk_at {l : PySem.W.OpenLaw} {n : Nat} {q : Program} {loose : List Str} {XP : (Str → Option Value) → Heap → Prop} {YP : World → Heap → Prop} {d : DefRec} {x : Str} (hn : l.most = some n) (hn2 : n ≤ sizeLine) (hdf : d.params.defaults = [])
    (F : ∀ (w : World) (mg : Str → Option Value) (fa : Addr) (h : Heap), YP w h → h.Ns mainGlobals mg → mg d.name = some (.ref fa) → ∃ (K : PySem.W.Frag) (fd : FuncData) (sp : Sp), K.In h ∧ (∀ (s : Shared) (u : Value), BindsTo s fd ⟨[u], []⟩ [(x, u)]) ∧
      (∀ (H : Hp) (a : Addr) (ns : List Int), ns.length ≤ n → (∀ z ∈ ns, Builtin.Int.intBits z ≤ 1048576) → SqL K H a (ns.map V.int) → sp [.ref a] H (fun v _ => v = .bl true) fun _ _ _ => False) ∧
      ∀ base : Heap, K.In base → base.Ns mainGlobals mg → RunsAt l.prog w K mg base fa fd [x] sp callerA) :
    PySem.W.WalkO q loose XP YP l.row.toRowW d [] (fun f vs => PySem.call f vs) := by
  refine Att.attach_callB hn hdf fun w s0 s1 mg mb fa o pm cd doc a vs ns G Y ho hd hcd hmg hobj hints hlen hbits hg => ?_
  obtain ⟨K, fd, sp, KX, hb, hsp, R⟩ := F w mg fa _ Y G.T.g hmg
  exact law_at KX G.T.g G.T.b G.T.builtins G.T.nolimit hg hobj hints (Nat.le_trans hlen hn2) R hb fun H sq _ => hsp H a ns hlen hbits sq
end L2.Tb
set_option Elab.async false
set_option linter.all false
set_option maxRecDepth 100000
set_option maxHeartbeats 4000000
namespace L2.Tb
open PySem PySem.Spec PyProof.Rows
/-! ### an error class with one attribute, as the law meets it -/
def spInit (K : PySem.W.Frag) (f : Str) : Sp := fun vs H Q _ => ∃ (a C : Addr) (b : Bs) (v : V), vs = [.ref a, v] ∧ EC K b C ∧ PySem.W.findIn K (.ref C) f = some none ∧ H a = some (exo a C none) ∧
  ∀ dx, H dx = none → dx ≠ a → Q .non (upd (upd H dx (exd dx [(f, v)])) a (exo a C (some dx)))
/-- at a: an error of the class at C whose attribute f is v -/
def ErAt (H : Hp) (a C : Addr) (f : Str) (v : V) : Prop := ∃ dx, H a = some (exo a C (some dx)) ∧ H dx = some (exd dx [(f, v)])
theorem ErAt.same {H H' : Hp} {a C : Addr} {f : Str} {v : V} (h : ErAt H a C f v) (s : Same H H') : ErAt H' a C f v := by
  obtain ⟨dx, h1, h2⟩ := h
  exact ⟨dx, s _ _ h1, s _ _ h2⟩
structure ErC (P : Program) (w : World) (K : PySem.W.Frag) (mg : Str → Option Value) (base : Heap) (x f : Str) (b : Bs) (C : Addr) : Prop where
  mgC : mg x = some (.ref C)
  ec : EC K b C
  no : PySem.W.findIn K (.ref C) f = some none
  init : ∃ (fI : Addr) (fd : FuncData), PySem.W.findIn K (.ref C) "__init__" = some (some (.ref fI)) ∧ PySem.W.typeIn K (.ref fI) = some (.type "function") ∧ FnOk P w K mg base L2.CX0 1 fI fd ["self", f] (spInit K f) ∧ Binds K fd ["self", f] [] ∧
    ∀ (sh : Shared) (a : Addr) (zs : List Value), zs.length = [f].length → BindsTo sh fd ⟨[Value.ref a], [f].zip zs⟩ (("self" :: [f] : List Str).zip (Value.ref a :: zs))
section
variable {P : Program} {w : World} {K : PySem.W.Frag} {mg : Str → Option Value} {base : Heap} {f : Str} {fI : Addr} {fd : FuncData} {qual : Str} {params : Arguments} {scope : Scope} {p1 p2 p3 p4 : Pos}
theorem init_ok (F : FunD K "__init__" qual params [.Assign [.Attribute (.Name "self" p1) f p2] (.Name f p3) p4] scope [] [] fI fd) (S : FnScope ["self", f] ["self", f] scope)
    (h0 : scope.names.lookup ("self" : Str) = some .local) (h1 : scope.names.lookup f = some .local) (hd : (f == ("__debug__" : Str)) = false) (hcd : (f == ("__classdict__" : Str)) = false) : FnOk P w K mg base L2.CX0 1 fI fd ["self", f] (spInit K f) := by
  refine F.ok S (fun vs H Q E h => ?_) (fun cdv A outer s H vs Q E hr h => ?_)
  · obtain ⟨a, C, b, v, rfl, _⟩ := h
    rfl
  · obtain ⟨a, C, b, v, rfl, T, hno, ha, k⟩ := h
    refine ⟨_, pss_one (ps_osv (pe_var (i := 0) rfl (.inl h0)) (pe_var (i := 1) rfl (.inl h1) hd hcd)), ?_⟩
    exact ⟨_, rfl, _, rfl, a, C, b, rfl, T, hno, ha, fun dx n ne => k dx n ne⟩
end
/-- a reading, weakened behind -/
def tUp (te : TE) : TE := fun σ H Q => ∃ Q' : VK, te σ H Q' ∧ ∀ v H1, Q' v H1 → Q v H1
theorem pe_up {X : Cx} {e : Expr} {te : TE} (he : PE X e te) : PE X e (tUp te) :=
  ⟨fun pins s σ H Q I h => let ⟨Q', h1, h2⟩ := h; thn (he.run pins s σ H Q' I h1) fun u s1 ⟨v, H1, I1, r, q⟩ => ⟨v, H1, I1, r, h2 v H1 q⟩⟩
/-- the reading of an error made by place or by name -/
def tEr (C : Addr) (f : Str) (te : TE) : TE := fun σ H Q => te σ H fun v H1 => ∀ a H2, Same H1 H2 → H1 a = none → ErAt H2 a C f v → Q (.ref a) H2
section
variable {X : Cx} {x f : Str} {b : Bs} {C : Addr} {p pos : Pos} {e : Expr} {te : TE}
theorem er_run {v : V} {H1 : Hp} {Q : VK} (T : EC X.K b C) (hno : PySem.W.findIn X.K (.ref C) f = some none) (q : ∀ a H2, Same H1 H2 → H1 a = none → ErAt H2 a C f v → Q (.ref a) H2) (a : Addr) (n : H1 a = none) :
    spInit X.K f [.ref a, v] (upd H1 a (exo a C none)) (fun u H2 => u = .non ∧ Q (.ref a) H2) E0 := by
  refine ⟨a, C, b, v, rfl, T, hno, upd_same, fun dx nd ne => ⟨rfl, q a _ (fun c o h => ?_) n ⟨dx, upd_same, by rw [upd_ne ne, upd_same]⟩⟩⟩
  have hca : c ≠ a := ne_of_none h n
  have hcd : c ≠ dx := fun z => by
    rw [z] at h
    rw [upd_ne ne] at nd
    rw [nd] at h
    cases h
  rw [upd_ne hca, upd_ne hcd, upd_ne hca]
  exact h
theorem pe_er (E : ErC X.prog X.w X.K X.mg X.base x f b C) {j : Nat} (hr : Room j X.A) (hj : 2 ≤ j) (hg : Gl X x) (he : PE X e te) (hdb : (x == ("__debug__" : Str)) = false := by decide) (hs : starEach [e] X.env = (false, eval e X.env) :: starEach [] X.env := by rfl) :
    PE X (.Call (.Name x p) [e] [] pos) (tEr C f te) := by
  obtain ⟨fI, fd, h1, h2, h3, h4, _⟩ := E.init
  exact ⟨fun pins s σ H Q I h => (pe_mkV E.ec h1 h2 h3 (hr.mono hj) h4 pass0 hg E.mgC (pa_cons (pe_up he) pa_nil hs) hdb hs (by rfl)).run pins s σ H Q I ⟨_, h, fun v H1 q => ⟨Nat.le_of_ble_eq_true rfl, fun a n => er_run E.ec E.no q a n⟩⟩⟩
theorem pe_erK (E : ErC X.prog X.w X.K X.mg X.base x f b C) {j : Nat} {kpos : Pos} (hr : Room j X.A) (hj : 2 ≤ j) (hg : Gl X x) (he : PE X e te) (hdb : (x == ("__debug__" : Str)) = false := by decide)
    (hall : (backToKw pos (keywordEach [⟨some f, e, kpos⟩] X.env)).all (·.1.isSome) = true := by rfl) (hks : (backToKw pos (keywordEach [⟨some f, e, kpos⟩] X.env)).filterMap (·.1) = [f] := by rfl)
    (hpl : ((backTo pos (starEach [] X.env)).any (·.1) || (backToKw pos (keywordEach [⟨some f, e, kpos⟩] X.env)).any (·.1.isNone)) = false := by rfl) :
    PE X (.Call (.Name x p) [] [⟨some f, e, kpos⟩] pos) (tEr C f te) := by
  obtain ⟨fI, fd, h1, h2, h3, h4, h5⟩ := E.init
  exact ⟨fun pins s σ H Q I h => (pe_mkVK (ks := [f]) E.ec h1 h2 h3 (hr.mono hj) h5 pass0 hg E.mgC (pk_cons (pe_up he) pk_nil) rfl hall hks hdb hpl).run pins s σ H Q I ⟨_, h, fun v H1 q => ⟨Nat.le_of_ble_eq_true rfl, fun a n => er_run E.ec E.no q a n⟩⟩⟩
end
end L2.Tb
set_option Elab.async false
set_option linter.all false
set_option maxRecDepth 100000
set_option maxHeartbeats 4000000
namespace L2.Tb
open PySem PySem.Spec PyProof.Rows
section
variable {X : Cx} {x f : Str} {b : Bs} {C : Addr} {p pos : Pos} {e : Expr} {te : TE}
/-- the reading of an error that is made to be raised -/
def tErR (C : Addr) (f : Str) (te : TE) : St → Hp → XK → Prop := fun σ H Q => te σ H fun v H1 => ∀ d H', Same H1 H' → H1 d = none → H' d = some (.xd [(f, v)]) → Q (.ref C) (some d) H'
theorem pmk_er (E : ErC X.prog X.w X.K X.mg X.base x f b C) (ty : PySem.W.typeIn X.K (.ref C) = some (.type "type")) {j : Nat} (hr : Room j X.A) (hj : 2 ≤ j) (hg : Gl X x) (he : PE X e te) (hdb : (x == ("__debug__" : Str)) = false := by decide)
    (hs : starEach [e] X.env = (false, eval e X.env) :: starEach [] X.env := by rfl) (hpl : (backTo pos (starEach [] X.env)).any (·.1) = false := by rfl) : PMk X (.Call (.Name x p) [e] [] pos) (tErR C f te) := by
  intro pins s σ H Q I h
  obtain ⟨fI, fd, h1, h2, F1, hb, _⟩ := E.init
  have ha : PA X [e] (tCons (tUp te) tNil) := pa_cons (pe_up he) pa_nil hs
  refine wpAny_Call_Name_kw (ld_glob I hg E.mgC ?_ hdb)
  refine PySem.W.callWith_K (h₀ := X.base) I.ok.mod.kin E.ec.kC (thn (ha.run pos pins s σ H (fun vs H1 => ∃ v, vs = [v] ∧ ∀ d H', Same H1 H' → H1 d = none → H' d = some (.xd [(f, v)]) → Q (.ref C) (some d) H') I ⟨_, h, fun v H1 q => ⟨v, rfl, q⟩⟩) fun us s1 hh => ?_) hs hpl
  obtain ⟨vs, H1, I1, r1, v, rfl, q1⟩ := hh
  refine ⟨I1.kIn, ?_⟩
  show wpAny _ _ (call (.ref C) us) _ _ _
  obtain ⟨nm, N, qn, bs, bm, hdct, sn, sub, ab, col, dd, k0, k1, k2, k3, k5, hC, hT⟩ := PySem.W.excInit_of I1.kIn E.ec.own
  obtain ⟨hp, g, dr, tk, os⟩ := s1
  have hn : H1 (hp.objs.size + 1) = none := I1.hok.fresh (Nat.le_succ _)
  have keep : ∀ c o, hp.get? c = some o → (laidH hp C us).get? c = some o := fun c o q => Heap.get?_push_of_some _ (Heap.get?_push_of_some _ q)
  have hus : us.length ≤ sizeLine := by
    rw [← Paired.length r1]
    exact Nat.le_of_ble_eq_true rfl
  have hl : (Value.ref (hp.objs.size + 1) :: us).length = (["self", f] : List Str).length := by
    rw [List.length_cons, ← Paired.length r1]
    rfl
  have I2 := made_inv (C := C) us I1
  have bind : BindsTo ⟨(hp.push (PySem.W.kdv_tup us)).push (PySem.HandSPX.excO C hp.objs.size), g, dr, tk, os⟩ fd ⟨Value.ref (hp.objs.size + 1) :: us, []⟩ ((["self", f] : List Str).zip (Value.ref (hp.objs.size + 1) :: us)) := by
    have z := hb _ (Value.ref (hp.objs.size + 1) :: us) I2.kIn (by rw [List.append_nil]; exact hl)
    rw [List.append_nil] at z
    exact z
  refine wpAny_call (own_call ⟨nm, qn, N, bs, hdct, sn, sub, ab, col, dd, k0, k1, k2, k3, k5, hC⟩ E.ec.ok hT (PySem.W.looks_findIn I1.kIn h1) (fun self => PySem.W.bind_fn I1.kIn self h2) hus
    (codeAny_mono (F1.run _ X.stack _ _ ⟨Value.ref (hp.objs.size + 1) :: us, []⟩ (Value.ref (hp.objs.size + 1) :: us) [V.ref (hp.objs.size + 1), v]
      (fun u H2 => u = .non ∧ ∃ d, H2 (hp.objs.size + 1) = some (exo (hp.objs.size + 1) C (some d)) ∧ H2 d = some (exd d [(f, v)]) ∧ H1 d = none ∧ Q (.ref C) (some d) (upd (del H2 (hp.objs.size + 1)) d (.xd [(f, v)]))) E0 ((hr.mono hj).make C us []) (I2.env0.make C us []) bind (.cons rfl r1) ?_) fun r s' hq => ?_))
  · refine ⟨_, C, b, v, rfl, E.ec, E.no, upd_same, fun dx nd ne => ⟨rfl, dx, upd_same, by rw [upd_ne ne, upd_same], ?_, q1 dx _ (fun c o q => ?_) ?_ upd_same⟩⟩
    · rw [upd_ne ne] at nd
      exact nd
    · have hca : c ≠ hp.objs.size + 1 := ne_of_none q hn
      have hcd : c ≠ dx := fun z => by
        rw [z] at q
        rw [upd_ne ne] at nd
        rw [nd] at q
        cases q
      rw [upd_ne hcd, del_ne hca, upd_ne hca, upd_ne hcd, upd_ne hca]
      exact q
    · rw [upd_ne ne] at nd
      exact nd
  · match r, hq with
    | .error er, hq => exact hq.elim
    | .ok (.ret u), ⟨w, H2, os2, bare2, un2, hok2, rv, ev, d, ea, ed, hd1, q2⟩ =>
      subst ev
      obtain ⟨h2, g2, d2, t2, os'⟩ := s'
      exact ⟨rv, mk_end (raises_own E.ec.ex.hs ty) I1 (Nat.le_succ _) keep un2 hok2 os2 bare2 ea ed hd1 q2⟩
end
end L2.Tb
set_option Elab.async false
set_option linter.all false
set_option maxRecDepth 100000
set_option maxHeartbeats 4000000
/-! an object of an own class: str(x) by its __str__, x == y by its __eq__ (any outcome) -/
namespace L2.Tb
open PySem PySem.Spec PyProof.Rows
section
variable {X : Cx} {C f : Addr} {fd : FuncData} {ps : List Str} {sp : Sp} {k : Nat}
theorem relV_str {z : Str} {u : Value} (r : RelV (.str z) u) : ∃ t, u = .str z t := r
def rStrOwn (C : Addr) (sp : Sp) : List V → Hp → VK → Prop := fun xs H Q => ∃ (a dx : Addr) (fs : List (Str × V)), xs = [.ref a] ∧ H a = some (.ins C dx fs) ∧ sp [.ref a] H (fun v H' => ∃ z, v = .str z ∧ Q (.str z) H') E0
theorem call_strOwn (F : FnOk X.prog X.w X.K X.mg X.base L2.CX0 k f fd ps sp) (hr : Room (k + 2) X.A) (hs : PySem.W.findIn X.K (.ref C) "__str__" = some (some (.ref f))) (hf : PySem.W.isFn X.K (.ref f) = true) (hb : Binds X.K fd ps []) : CallR X (.type "str") (rStrOwn C sp) := by
  intro pins s σ H xs us Q I r h
  obtain ⟨a, dx, fs, rfl, ea, h⟩ := h
  rw [Vals.ref1 r]
  obtain ⟨mA, O, _⟩ := ins_get I.hok ea
  obtain ⟨od, J, _⟩ := O.look
  have r2 : Room k X.A.in1.in1 := hr.in1.in1
  have hl := F.len _ _ _ _ h
  refine PySem.W.kso_call (hr.in1.in1.units0) I.kIn J hs hf (wpAny_call (codeAny_mono (F.run X.A.in1.in1 X.stack s H ⟨[.ref a], []⟩ [.ref a] [.ref a] _ E0 r2 I.env0.in1.in1 (by
    have z := hb s [.ref a] I.kIn (by simpa using hl)
    simpa using z) (.cons rfl .nil) h) fun r s' hq => ?_))
  match r, hq with
  | .error e, hq => exact hq.elim
  | .ok (.ret u), hq =>
    obtain ⟨v, H', I', rv, z, ev, q⟩ := I.after hq
    rw [ev] at rv
    obtain ⟨t, rfl⟩ := relV_str rv
    exact ⟨.str z, H', I', ⟨t, rfl⟩, q⟩
def rOwnEq (K : PySem.W.Frag) (C : Addr) (sp : Sp) : R2 := fun x y H Q => ∃ (a dx : Addr) (fs : List (Str × V)) (t : Value), x = .ref a ∧ H a = some (.ins C dx fs) ∧ TyX K H y t ∧ PySem.W.notFirst K C t = true ∧ sp [.ref a, y] H Q E0
theorem cmp_back {Q : Value → Shared → Prop} {u : Value} {s' : Shared} {v : V} (r : RelV v u) (q : Q u s') : PySem.W.CmpBack Q u s' := by
  cases u <;> first | exact q | (cases v <;> first | (obtain ⟨t, e⟩ := r; cases e; done) | (cases r; done))
theorem op_ownEq (F : FnOk X.prog X.w X.K X.mg X.base L2.CX0 k f fd ps sp) (hr : Room k X.A) (hs : PySem.W.findIn X.K (.ref C) "__eq__" = some (some (.ref f))) (hf : PySem.W.isFn X.K (.ref f) = true) (hb : Binds X.K fd ps []) : OpR X (compareOp .Eq) (rOwnEq X.K C sp) := by
  intro pins s σ H x y v u Q I rx ry h
  obtain ⟨a, dx, fs, t, rfl, ea, ty, nf, h⟩ := h
  obtain rfl : v = Value.ref a := rx
  obtain ⟨mA, O, _⟩ := ins_get I.hok ea
  obtain ⟨od, J, _⟩ := O.look
  obtain ⟨m, hF⟩ := I.fr
  obtain ⟨Pt, kt, pt, _⟩ := kit_of I ry ty
  have hl := F.len _ _ _ _ h
  refine PySem.W.cmp_K (op := .Eq) (tb := t) hr.units0 hF I.ok.mod.kin J (kt.ty _ _ I.kIn pt) nf hs hf (wpAny_call (codeAny_mono (F.run X.A X.stack s H ⟨[.ref a, u], []⟩ [.ref a, u] [.ref a, y] _ E0 hr I.env0 (by
    have z := hb s [.ref a, u] I.kIn (by simpa using hl)
    simpa using z) (.cons rfl (.cons ry .nil)) h) fun r s' hq => ?_))
  match r, hq with
  | .error e, hq => exact hq.elim
  | .ok (.ret u2), hq =>
    obtain ⟨v2, H', I', rv, q⟩ := I.after hq
    exact cmp_back rv ⟨v2, H', I', rv, q⟩
end
end L2.Tb
set_option Elab.async false
set_option linter.all false
set_option maxRecDepth 100000
set_option maxHeartbeats 4000000
/-! C(e, .., k = v) where C stands in a local variable -/
namespace L2.Tb
open PySem PySem.Spec PyProof.Rows
theorem pass_none {X : Cx} : Passes (L2.CX X.prog X.w) X (fun _ _ _ => False) := fun _ _ _ _ _ _ _ h => by
  obtain ⟨_, _, _, _, _, _, _, _, _, _, _, _, z⟩ := h
  exact z.elim
section
variable {X : Cx} {CX : CXT} {k n i : Nat} {f C : Addr} {fd : FuncData} {ps ks : List Str} {sp : Sp} {E : XK} {x : Str} {p pos : Pos} {e : Expr} {es : List Expr} {kws : List Keyword} {t tk : TA} {g : List Value → List Value → List Value} {gV : List V → List V → List V}
def tMakeVK (i : Nat) (C : Addr) (n m : Nat) (sp : Sp) (gV : List V → List V → List V) (E : XK) (t tk : TA) : TE := fun σ H Q => σ[i]? = some (some (.ref C)) ∧ tMakeK C n m sp gV E t tk σ H Q
theorem pe_makeVK (M : Mk X.K C f) (F : FnOk X.prog X.w X.K X.mg X.base CX k f fd ps sp) {j : Nat} (hr : Room j X.A) (hj : k + 1 ≤ j) (hN : X.N[i]? = some x) (hv : Vis X.env.scope x) (hb : KBn X.K fd ps (n + 1) ks g gV) (hx : Passes CX X E) (ha : PA X (e :: es) t) (hkw : PK X kws tk)
    (hall : (backToKw pos (keywordEach kws X.env)).all (·.1.isSome) = true := by rfl) (hks : (backToKw pos (keywordEach kws X.env)).filterMap (·.1) = ks := by rfl) (hd : (x == ("__debug__" : Str)) = false := by decide) (hcd : (x == ("__classdict__" : Str)) = false := by decide)
    (he : starEach (e :: es) X.env = (false, eval e X.env) :: starEach es X.env := by rfl) (hpl : ((backTo pos (starEach (e :: es) X.env)).any (·.1) || (backToKw pos (keywordEach kws X.env)).any (·.1.isNone)) = false := by rfl) :
    PE X (.Call (.Name x p) (e :: es) kws pos) (tMakeVK i C n ks.length sp gV E t tk) := by
  refine ⟨fun pins s σ H Q I ⟨hs, h⟩ => wpAny_Call_Name_kw (thn ((pe_var (pos := p) (i := i) hN hv hd hcd).run pins s σ H (fun v H1 => v = .ref C ∧ H1 = H) I ⟨.ref C, hs, rfl, rfl⟩) fun u s1 hh => ?_)⟩
  obtain ⟨v, H1, I1, r1, ev, eH⟩ := hh
  subst ev eH
  cases r1
  refine PySem.W.callWith_KW (h₀ := X.base) I1.ok.mod.kin M.kp hall (thn (ha.run pos pins s1 σ H1 _ I1 h) fun us s2 ⟨vs, H2, I2, r, q⟩ => thn (hkw.run pos pins s2 σ H2 _ I2 q) fun ws s3 ⟨zs, H3, I3, rz, l1, l2, q2⟩ => ⟨I3.kIn, ?_⟩) hpl he
  rw [hks]
  exact run_makeK M F (hr.mono hj) hb hx I3 r rz l1 l2 q2
end
end L2.Tb
set_option Elab.async false
set_option linter.all false
set_option maxRecDepth 100000
set_option maxHeartbeats 4000000
/-! try: .. / except X as e: .. / except Y as e: .. / whatever clause behind, which is never reached -/
namespace L2.Tb
open PySem PySem.Spec PyProof.Rows
abbrev Suite : Type := Addr → Value → Option Addr → TS
/-- the ends of a suite whose name stands in slot i: the name goes -/
def offName (i : Nat) (D : Ends) : Ends := { nx := fun σ H => D.nx (σ.set i none) H, rt := D.rt, bk := fun σ H => D.bk (σ.set i none) H, ct := fun σ H => D.ct (σ.set i none) H }
def wAsMany (K : PySem.W.Frag) (D : Ends) : List (Value × Nat × Suite) → WX
  | [] => fun _ _ _ _ => False
  | (c, i, ts) :: r => fun cls d σ H => ∃ b, PySem.W.exmOne K cls c = some b ∧ (b = true → ∀ a, H a = none → ts a cls d (offName i D) (σ.set i (some (.ref a))) H) ∧ (b = false → wAsMany K D r cls d σ H)
/-- only for slots of the right number -/
def wLen (N : List Str) (W : WX) : WX := fun cls d σ H => σ.length = N.length → W cls d σ H
inductive HdsAs (X : Cx) : List ExceptHandler → List (Value × Nat × Suite) → Prop
  | stop (rest : List ExceptHandler) : HdsAs X rest []
  | cons {x n : Str} {c : Value} {i : Nat} {ts : Suite} {b0 : Stmt} {suite : List Stmt} {np p : Pos} {hds : List ExceptHandler} {l : List (Value × Nat × Suite)} (hi : X.N[i]? = some n) (hln : X.env.kindOf n = some .local) (hc : Names X x c)
      (hsu : ∀ (a : Addr) (oe : Obj) (cls : Value) (d : Option Addr) (pn : List (Addr × Obj)), Zc cls d oe → (∃ vs, oe.data = .fields vs) → PSs (X.suite a ((a, oe) :: pn)) (b0 :: suite) (ts a cls d)) (r : HdsAs X hds l) :
      HdsAs X (.ExceptHandler (some (.Name x np)) (some n) (b0 :: suite) p :: hds) ((c, i, ts) :: l)
section
variable {X : Cx} {body : List Stmt} {h0 : ExceptHandler} {hds : List ExceptHandler} {l : List (Value × Nat × Suite)} {pos : Pos} {tb : WX → TS}
theorem ps_try_asMany (hs : X.stack = X.env :: X.outer) (hf : X.env.frame = some X.env.locals) (hN : X.N.Nodup)
    (hb : ∀ (W : WX) (pn : List (Addr × Obj)) (xe : Value → Shared → Prop), Takes (X.tr pn xe) W → PassesOwn (model X.prog X.w) X.A X.env xe → PSs (X.tr pn xe) body (tb W)) (hh : HdsAs X (h0 :: hds) l) :
    PS X (.Try body (h0 :: hds) [] [] pos) (fun D σ H => tb (wLen X.N (wAsMany X.K D l)) D σ H) := by
  refine ⟨fun pins s σ H D I h => ?_⟩
  have ok := I.ok
  refine wpAny_Try_except (wpAny_mono ((hb (wLen X.N (wAsMany X.K D l)) (X.pn ++ pins) (fun e s1 => wpAny (model X.prog X.w) X.A (noteFrame e X.env) (fun _ s2 => wpAny (model X.prog X.w) X.A (setFlight e none) (fun _ s3 =>
    wpAny (model X.prog X.w) X.A (handleBy e X.env (h0 :: hds)) (SP X pins D) X.xe s3) X.xe s2) X.xe s1) (fun u s' caught => ?_) PassesOwn.looking).run [] s σ H D (I.toTry _) h) (fun f s1 hsp => ?_) fun _ _ he => he)
  · obtain ⟨a, B, sI, pins', σ', H', cls, d, rfl, J', nb, up, sky, na, os, ag, w⟩ := caught
    have J : Inv X pins σ' H' sI := J'.ofTry ok
    replace w := w J.len
    rw [hs] at sky
    show wpAny (model X.prog X.w) X.A (noteFrame (.ref a) X.env) _ _ _
    refine Sky.land Zc.steady (by rw [ok.frames, hs]) hf sky fun h3 fl3 up3 => ?_
    have J3 : Inv X pins σ' H' { s' with heap := h3 } := J.landed nb fl3.1 (up.trans up3) os ag
    obtain ⟨oe3, vs3, he3, hz3, hd3⟩ := fl3.there
    have nfr : a ∉ frs (X.env :: X.outer) := fun hm => by
      obtain ⟨_, o', e', no⟩ := fl3.2.2.1.mem hm
      rw [he3] at e'
      cases e'
      exact no _ hd3
    have nL : a ≠ X.env.locals := fun z => nfr (List.mem_filterMap.mpr ⟨X.env, List.mem_cons_self, by rw [hf, z]⟩)
    have nF : a ∉ X.fs := fun hm => let ⟨e, he, q⟩ := List.mem_filterMap.mp hm; nfr (List.mem_filterMap.mpr ⟨e, List.mem_cons_of_mem _ he, q⟩)
    have S3 := J3.suite he3 hd3 na nL nF
    clear hb h
    generalize h0 :: hds = all at hh ⊢
    induction hh with
    | stop rest => exact w.elim
    | @cons x n c i ts b0 suite np p hds2 l2 hi hln hc hsu r ih =>
      obtain ⟨b, hb1, hyes, hno⟩ := w
      have LT : PySem.W.Looks (model X.prog X.w) h3 (typeOf (.ref a)) cls := fun A Q E s k q => wpAny_typeOf_ref (k _ _ he3) (by rw [hz3.1]; exact q)
      have LM := PySem.W.exm_one (M := model X.prog X.w) J3.kIn LT hb1
      have test : ∀ {Q : Value → Shared → Prop} {E : Value → Shared → Prop}, Q c { s' with heap := h3 } → wpAny (model X.prog X.w) (X.A.mark (some (.ref a))) (eval (.Name x np) X.env) Q E { s' with heap := h3 } := fun q => by
        rcases hc with ⟨hg, hdbg, hm | ⟨hm, hv, hnn⟩⟩
        · exact ld_glob (X := X.suite a ((a, oe3) :: (X.pn ++ pins))) S3 hg hm q hdbg
        · exact ld_blt (X := X.suite a ((a, oe3) :: (X.pn ++ pins))) S3 hg hm hv q hnn hdbg
      refine wpAny_handleBy_cons (codeAny_handlers_test (test (LM.here ?_))) (by intro q; cases q)
      cases b with
      | false => exact ih (hno rfl)
      | true =>
        refine codeAny_handlers_suite_as (HandSPX.lands_againZ fl3 fun h4 fl4 up4 => ?_)
        have J4 : Inv X pins σ' H' { s' with heap := h4 } := J.landed nb fl4.1 ((up.trans up3).trans up4) os ag
        obtain ⟨oe4, vs4, he4, hz4, hd4⟩ := fl4.there
        refine store_ok (X := X.suite a ((a, oe4) :: (X.pn ++ pins))) (v := .ref a) (J4.suite he4 hd4 na nL nF) hN hi (.inl hln) rfl (fun s5 S5 => ?_) (.inr hln)
        refine wpAny_mono ((hsu a oe4 cls d (X.pn ++ pins) hz4 ⟨_, hd4⟩).run [] s5 _ H' _ S5 (hyes rfl a na)) (fun f s6 hsp => ?_) fun _ _ z => z.elim
        have gone : ∀ {σ6 : St} {H6 : Hp} {Q : Shared → Prop}, Inv (X.suite a ((a, oe4) :: (X.pn ++ pins))) [] σ6 H6 s6 → (∀ s7, Inv X pins (σ6.set i none) H6 s7 → Q s7) → wpAny (model X.prog X.w) X.A (do bindName X.env n .none; unbindBehindTheSuite X.env n p) (fun _ s7 => Q s7) X.xe s6 :=
          fun S6 hq => gone_ok (S6.unsuite ok) hN hi hln hq
        match f, hsp with
        | .next, ⟨σ6, H6, S6, q6⟩ => exact gone S6 fun s7 J7 => ⟨_, _, J7, q6⟩
        | .brk, ⟨σ6, H6, S6, q6⟩ => exact gone S6 fun s7 J7 => ⟨_, _, J7, q6⟩
        | .cont, ⟨σ6, H6, S6, q6⟩ => exact gone S6 fun s7 J7 => ⟨_, _, J7, q6⟩
        | .ret u, ⟨v6, σ6, H6, S6, r6, q6⟩ => exact gone S6 fun s7 J7 => ⟨_, _, _, J7, r6, q6⟩
  · match f, hsp with
    | .next, ⟨σ1, H1, J1, q⟩ => exact wpAny_execs_nil ⟨σ1, H1, J1.ofTry ok, q⟩
    | .brk, ⟨σ1, H1, J1, q⟩ => exact ⟨σ1, H1, J1.ofTry ok, q⟩
    | .cont, ⟨σ1, H1, J1, q⟩ => exact ⟨σ1, H1, J1.ofTry ok, q⟩
    | .ret u, ⟨v, σ1, H1, J1, r, q⟩ => exact ⟨v, σ1, H1, J1.ofTry ok, r, q⟩
end
end L2.Tb
set_option Elab.async false
set_option linter.all false
set_option maxRecDepth 100000
set_option maxHeartbeats 4000000
/-! p, q = e1, e2 where the stores stand from the left (one of the targets is no plain local name): the pair made between is not tracked -/
namespace L2.Tb
open PySem PySem.Spec PyProof.Rows
def tPairL (ta : TA) (g : TGs) : TS := fun D σ H => ta σ H fun vs H1 => vs.length = 2 ∧ g vs σ H1 D.nx
variable {X : Cx} {es vs : List Expr} {ta : TA} {g : TGs} {kt k2 : Nat} {pt pt2 pos : Pos}
theorem ps_pairL (calm : X.calm = true) (right : PA X vs ta) (left : PGs X es g)
    (star : (assignEach es X.env).findIdx? (·.1) = none) (even : (assignEach es X.env).length = 2)
    (plain : swappedStores [.Tuple es kt pt] (.Tuple vs k2 pt2) X.env = pure none)
    (noswap : swapsWithSole [.Tuple es kt pt] (.Tuple vs k2 pt2) pos.line X.env = pure false := by rfl)
    (once : (assignEach [.Tuple es kt pt] X.env).map (·.2) = [assign (.Tuple es kt pt) X.env] := by rfl) :
    PS X (.Assign [.Tuple es kt pt] (.Tuple vs k2 pt2) pos) (tPairL ta g) := by
  refine ⟨fun pins s σ H D I h => ?_⟩
  refine wpAny_Assign_stores (Tuple_ (thn (right.run _ pins s σ H _ I h) fun us s1 ⟨ws, H1, I1, r1, q1⟩ => ?_)) noswap plain
  obtain ⟨e2, q1⟩ := q1
  have hlen : us.length = 2 := by rw [← e2]; exact (Vals.length r1).symm
  refine wpAny_newObj_type ?_ (by show us.length ≤ sizeLine; rw [hlen]; decide)
  have I2 : Inv X pins σ H1 { s1 with heap := s1.heap.push { cls := .type "tuple", data := .seq us.toArray } } := I1.kept (t' := s1.toks) fun b o e => Heap.get?_push_of_some _ e
  rw [once]
  show wpAny (model X.prog X.w) X.A (assign (.Tuple es kt pt) X.env (.ref s1.heap.objs.size)) _ _ _
  refine assign_Tuple_tuple (items := us.toArray) (I.ok.hd calm) (IsTup.new s1.heap _) (by simp [even, hlen]) star fun h' hx => ?_
  have I3 := I2.kept (h' := h') (t' := s1.toks) fun b o e => hx b o (Nat.ne_of_lt (Heap.lt_size e)) e
  refine thn (left.run pins _ σ H1 ws _ D.nx I3 (by simpa using r1) q1) fun _ s2 q => ?_
  exact q
end L2.Tb
set_option Elab.async false
set_option linter.all false
set_option maxRecDepth 100000
set_option maxHeartbeats 4000000
/-! C.m(k = v), m a classmethod; repr of a bool -/
namespace L2.Tb
open PySem PySem.Spec PyProof.Rows
theorem call_repr_bl {X : Cx} : CallR X (.builtin "repr") (fun xs H Q => ∃ b, xs = [.bl b] ∧ Q (.str (if b then "True" else "False")) H) := by
  intro pins s σ H xs us Q I r h
  obtain ⟨b, rfl, q⟩ := h
  obtain ⟨u, rfl, e⟩ := vals1 r
  obtain rfl : u = Value.bool b := e
  exact PySem.P.repr_of_bool ⟨.str _, H, I.tok _, ⟨_, rfl⟩, q⟩
section
variable {X : Cx} {CX : CXT} {k : Nat} {C p g : Addr} {mc : Value} {sp : Sp} {E : XK} {o : Expr} {kws : List Keyword} {m : Str} {pos apos : Pos} {ta : TE} {tk : TA} {pl : Sem Bool} {fd : FuncData} {ps ks : List Str}
theorem pe_cmethK (he : PE X o ta) (r : ClX.CRead X.K C mc) (c : ClX.CMet X.K C mc m p g) (F : FnOk X.prog X.w X.K X.mg X.base CX k g fd ps sp) (hr : Room k X.A) (hx : Passes CX X E) (hkw : PK X kws tk) (hl : ps.length = ks.length + 1)
    (hb : ∀ (sh : Shared) (zs : List Value), zs.length = ks.length → BindsTo sh fd ⟨[.ref C], ks.zip zs⟩ (ps.zip (Value.ref C :: zs)))
    (hall : (backToKw pos (keywordEach kws X.env)).all (·.1.isSome) = true := by rfl) (hks : (backToKw pos (keywordEach kws X.env)).filterMap (·.1) = ks := by rfl)
    (hpl : ((backTo pos (starEach [] X.env)).any (·.1) || (backToKw pos (keywordEach kws X.env)).any (·.1.isNone)) = false := by rfl)
    (ht : eval (.Call (.Attribute o m apos) [] kws pos) X.env = (do
      let ov ← eval o X.env
      standAt apos.atName
      let (f, first) ← holding [ov] (getMethod ov m pl)
      callWith pos f first (backTo pos (starEach [] X.env)) (backToKw pos (keywordEach kws X.env))) := by rfl) :
    PE X (.Call (.Attribute o m apos) [] kws pos) (fun σ H Q => ta σ H fun x H1 => x = .ref C ∧ tk σ H1 fun zs H2 => sp (.ref C :: zs) H2 Q E) := by
  refine ⟨fun pins s σ H Q I h => ?_⟩
  refine PySem.W.methodCall_KW (pl := pl) (thn (he.run pins s σ H _ I h) fun u s1 hh => ?_) ht
  obtain ⟨x, H1, I1, rx, ex, q⟩ := hh
  subst ex
  obtain rfl : u = Value.ref C := rx
  refine ClX.getmethcm_ok I1 r c fun s2 I2 => ?_
  refine PySem.W.callWith_of (P := PySem.W.MethP X.K s1.heap.objs.size g (.ref C)) hpl (PySem.W.keeps_M c.fi) (evalArgs_kw2_nil hall ?_)
  refine thn (hkw.run pos _ s2 σ H1 _ I2 q) fun ws s3 hh => ?_
  obtain ⟨zs, H2, I3, rz, q2⟩ := hh
  refine ⟨⟨ClX.pin_at I3, I3.kIn⟩, ?_⟩
  rw [hks]
  have hw : ws.length = ks.length := by
    have z := F.len _ _ _ _ q2
    rw [List.length_cons, hl] at z
    rw [← rz.length]
    omega
  have run : wpAny (model X.prog X.w) X.A (call (.ref s1.heap.objs.size) [] (ks.zip ws)) (EP X ((s1.heap.objs.size, PySem.W.methodObj (.ref g) (.ref C)) :: pins) σ Q) X.xe s3 := by
    refine wpAny_call (PySem.W.method_call (ClX.pin_at I3) (codeAny_mono (F.run X.A X.stack s3 H2 ⟨[.ref C], ks.zip ws⟩ (.ref C :: ws) (.ref C :: zs) Q E hr I3.env0 (hb s3 ws hw) (.cons rfl rz) q2) fun r s' hq => ?_))
    match r, hq with
    | .error e, hq => exact hx _ σ H2 s3 e s' I3 hq
    | .ok (.ret u2), hq => exact I3.after hq
  exact thn run fun _ _ y => ClX.unpinE y
end
end L2.Tb
set_option Elab.async false
set_option linter.all false
set_option maxRecDepth 100000
set_option maxHeartbeats 4000000
/-! x != y where x's class has an __eq__ of its own and no __ne__ -/
namespace L2.Tb
open PySem PySem.Spec PyProof.Rows
section
variable {prog : Program} {w : World} {A : Around} {E : Value → Shared → Prop} {s : Shared} {K : PySem.W.Frag} {x C f : Addr} {ox : Obj} {od : Option Obj} {b : Value}
theorem ne_body {Q : Fin → Shared → Prop} (hu : A.units < cLine) (X : K.In s.heap) (I : PySem.W.InstAt s.heap x ox C od) (he : PySem.W.findIn K (.ref C) "__eq__" = some (some (.ref f))) (hf : PySem.W.isFn K (.ref f) = true)
    (h : wpAny (model prog w) A (call (.ref f) [.ref x, b]) (fun v s' => ∃ c, v = .bool c ∧ Q (.done (.ret (.bool (!c)))) s') E s) : wpAny (model prog w) A (Builtin.«object.__ne__» ⟨[.ref x, b], []⟩) Q E s := by
  unfold Builtin.«object.__ne__»
  refine wpAny_bind (wpAny_of_eq (show _ = (pure (Value.ref x, [b]) : Sem (Value × List Value)) from rfl) ?_)
  refine wpAny_bind (wpAny_cRoomFor hu (wpAny_bind (PySem.W.ifBound_K X I he hf (wpAny_mono h (fun v s' hv => ?_) fun _ _ e => e))))
  obtain ⟨c, rfl, q⟩ := hv
  exact wpAny_bind (wpAny_truthy_bool (wpAny_pure q))
theorem ne_call {Q : Value → Shared → Prop} (hu : A.in1.units < cLine) (X : K.In s.heap) (I : PySem.W.InstAt s.heap x ox C od) (hm : PySem.W.mroIn K C (.type "object") = some true) (he : PySem.W.findIn K (.ref C) "__eq__" = some (some (.ref f))) (hf : PySem.W.isFn K (.ref f) = true)
    (h : wpAny (model prog w) A.in1 (call (.ref f) [.ref x, b]) (fun v s' => ∃ c, v = .bool c ∧ Q (.bool (!c)) s') E s) : wpAny (model prog w) A (call (.builtin "object.__ne__") [.ref x, b]) Q E s :=
  wpAny_call (codeAny_call_builtin F.cmp_object.ne.plain F.cmpEntry_ne (PySem.W.check_slot F.cmpKind_ne F.cmpSplit_ne (I.type.andThen (PySem.W.looks_mroIn X hm)) (F.cmpArgs_ne _ _) (ne_body hu X I he hf h)))
theorem bound_ne {args : List Value} {Q : Option Value → Shared → Prop} (X : K.In s.heap) (I : PySem.W.InstAt s.heap x ox C od) (hs : PySem.W.findIn K (.ref C) "__ne__" = some (some (.builtin "object.__ne__")))
    (h : wpAny (model prog w) A (call (.builtin "object.__ne__") (.ref x :: args)) (fun v => Q (some v)) E s) : wpAny (model prog w) A (callSpecialIfBound? (.ref x) "__ne__" args) Q E s := by
  have run : wpAny (model prog w) A (call (.builtin "object.__ne__") ([.ref x] ++ args) >>= fun v => pure (some v)) Q E s := wpAny_bind (wpAny_mono h (fun _ _ q => wpAny_pure q) fun _ _ q => q)
  simp only [callSpecialIfBound?, bindSpecialIfBound?]
  refine wpAny_holding (wpAny_bind (wpAny_bind (wpAny_bind (I.type.here ((PySem.W.looks_findIn X hs).here (wpAny_bind (wpAny_askSetting (wpAny_ite ?_))))))))
  split
  · exact wpAny_bind (wpAny_of_eq (F.cmp_object.ne.bind _) (wpAny_pure (by exact run)))
  · exact wpAny_tryCatch (wpAny_bind (wpAny_of_eq (F.cmp_object.ne.bind _) (wpAny_pure (by exact run))))
theorem rc_ne {Q : Value → Shared → Prop} {tb : Value} (hu : A.units + 2 < cLine) (X : K.In s.heap) (I : PySem.W.InstAt s.heap x ox C od) (hb : PySem.W.Looks (model prog w) s.heap (typeOf b) tb) (hn : PySem.W.notFirst K C tb = true) (hm : PySem.W.mroIn K C (.type "object") = some true)
    (hs : PySem.W.findIn K (.ref C) "__ne__" = some (some (.builtin "object.__ne__"))) (he : PySem.W.findIn K (.ref C) "__eq__" = some (some (.ref f))) (hf : PySem.W.isFn K (.ref f) = true)
    (h : wpAny (model prog w) A.in1 (call (.ref f) [.ref x, b]) (fun v s' => ∃ c, v = .bool c ∧ Q (.bool (!c)) s') E s) : wpAny (model prog w) A (richCompare .NotEq (.ref x) b) Q E s := by
  have one : wpAny (model prog w) A (tryCompare (.ref x) (cmpInfo .NotEq).2.1 b) (fun r s' => ∃ c, r = some (.bool (!c)) ∧ Q (.bool (!c)) s') E s := by
    unfold tryCompare
    refine wpAny_bind (bound_ne X I hs (ne_call (show A.units + 1 < cLine by omega) X I hm he hf (wpAny_mono h (fun v s' hv => ?_) fun _ _ e => e)))
    obtain ⟨c, e, q⟩ := hv
    exact ⟨c, e, wpAny_pure ⟨c, rfl, q⟩⟩
  unfold richCompare
  simp only [oneThing_ref]
  refine wpAny_holding (wpAny_bind (wpAny_cRoomFor (show A.units < cLine by omega) ?_))
  refine wpAny_bind (I.type.here (wpAny_bind (hb.here ?_)))
  split
  · rename_i q
    have e : PySem.W.subIn K tb (.ref C) = some false := (Bool.or_eq_true_iff.mp hn).elim (fun z => absurd q (by rw [beq_iff_eq.mp z]; simp)) fun z => beq_iff_eq.mp z
    refine wpAny_bind ((PySem.W.looks_subIn X e).here ?_)
    simp only [Bool.false_eq_true, if_false]
    refine wpAny_bind (wpAny_mono one (fun r s' z => ?_) fun _ _ e => e)
    obtain ⟨c, rfl, hq⟩ := z
    exact wpAny_pure hq
  · refine wpAny_bind (wpAny_pure ?_)
    simp only [Bool.false_eq_true, if_false]
    refine wpAny_bind (wpAny_mono one (fun r s' z => ?_) fun _ _ e => e)
    obtain ⟨c, rfl, hq⟩ := z
    exact wpAny_pure hq
end
section
variable {X : Cx} {C f : Addr} {fd : FuncData} {ps : List Str} {sp : Sp} {k : Nat}
def rOwnNe (K : PySem.W.Frag) (C : Addr) (sp : Sp) : R2 := fun x y H Q => ∃ (a dx : Addr) (fs : List (Str × V)) (t : Value), x = .ref a ∧ H a = some (.ins C dx fs) ∧ TyX K H y t ∧ PySem.W.notFirst K C t = true ∧ sp [.ref a, y] H (fun v H' => ∃ c, v = .bl c ∧ Q (.bl (!c)) H') E0
theorem op_ownNe (F : FnOk X.prog X.w X.K X.mg X.base L2.CX0 k f fd ps sp) (hr : Room (k + 1) X.A) (hm : PySem.W.mroIn X.K C (.type "object") = some true) (hs : PySem.W.findIn X.K (.ref C) "__ne__" = some (some (.builtin "object.__ne__")))
    (he : PySem.W.findIn X.K (.ref C) "__eq__" = some (some (.ref f))) (hf : PySem.W.isFn X.K (.ref f) = true) (hb : Binds X.K fd ps []) : OpR X (compareOp .NotEq) (rOwnNe X.K C sp) := by
  intro pins s σ H x y v u Q I rx ry h
  obtain ⟨a, dx, fs, t, rfl, ea, ty, nf, h⟩ := h
  obtain rfl : v = Value.ref a := rx
  obtain ⟨mA, O, _⟩ := ins_get I.hok ea
  obtain ⟨od, J, _⟩ := O.look
  obtain ⟨Pt, kt, pt, _⟩ := kit_of I ry ty
  have hl := F.len _ _ _ _ h
  refine rc_ne (tb := t) (by have := hr.un; omega) I.kIn J (kt.ty _ _ I.kIn pt) nf hm hs he hf (wpAny_call (codeAny_mono (F.run X.A.in1 X.stack s H ⟨[.ref a, u], []⟩ [.ref a, u] [.ref a, y] _ E0 hr.in1 I.env0.in1 (by
    have z := hb s [.ref a, u] I.kIn (by simpa using hl)
    simpa using z) (.cons rfl (.cons ry .nil)) h) fun r s' hq => ?_))
  match r, hq with
  | .error e, hq => exact hq.elim
  | .ok (.ret u2), hq =>
    obtain ⟨v2, H', I', rv, c, e, q⟩ := I.after hq
    rw [e] at rv
    obtain rfl : u2 = Value.bool c := rv
    exact ⟨c, rfl, .bl (!c), H', I', rfl, q⟩
end
end L2.Tb
set_option Elab.async false
set_option linter.all false
set_option maxRecDepth 100000
set_option maxHeartbeats 4000000
namespace L2.Tb
open PySem PySem.Spec PyProof.Rows
/-! ### a def whose code object is known -/
section
variable {P : Program} {w : World} {K : PySem.W.Frag} {mg : Str → Option Value} {base : Heap} {x : Str} {st : Stmt} {fd : FuncData} {N ps : List Str} {k : Nat} {sp : Sp}
/-- as cal_mk, the body being told where the def's code object stands -/
theorem cal_mkC {at_ : Str × Option Str} (F : FnP K x st (He.fAd K at_) fd) (hm : mg x = some (.ref (He.fAd K at_))) (S : FnScope N ps (defScope st))
    (hb : ∀ (kV doc pm : Value) (an : Option Addr) (cdv ct : Value) (us : List Value), us.length = ps.length → bindArgs (PySem.W.fnOf x x (defArgs st) (defBody st) (defScope st) .none kV doc pm an cdv ct) ⟨us, []⟩ = pure (ps.zip us))
    (len : ∀ vs H Q E, sp vs H Q E → vs.length = ps.length)
    (hbody : ∀ (cdv : Value) (A : Around) (outer : List Env) (s : Shared) (H : Hp) (vs : List V) (Q : VK) (E : XK), cdv = .ref (He.codeOf K at_) → Room k (A.deeper (envOfC x (defScope st) s.heap.objs.size (He.fAd K at_) cdv)) → sp vs H Q E →
      ∃ t, PSs (cxOf L2.CX0 P w K mg base N x (defScope st) (He.fAd K at_) cdv A outer s H E).nox (defBody st) t ∧ t { nx := fun _ H' => Q .non H', rt := Q } (start N vs) H) : Cal P w K mg base (k + 1) x sp := by
  obtain ⟨oc, od, dV, kV, doc, pm, an, cdv, ct, osl, rfl, lk, hcd, _, _⟩ := id F.ex
  obtain ⟨c, rfl⟩ := He.codeIn_ref hcd
  have hc : (Value.ref c) = .ref (He.codeOf K at_) := by rw [He.codeOf_eq lk rfl]
  refine ⟨_, _, ps, fn_of lk hcd S len fun A outer s H vs Q E hr h => ?_, hm, F.kp, F.bindsN hb⟩
  obtain ⟨t, a, b⟩ := hbody _ A outer s H vs Q E hc hr h
  exact ⟨t, a.nox, b⟩
end
/-! ### the end at the place of the law's call, some code objects having tables -/
section
variable {P : Program} {w : World} {K : PySem.W.Frag} {mg mb : Str → Option Value} {fa a : Addr} {fd : FuncData} {x : Str} {sp : Sp} {s1 : Shared} {vs : List Value} {ns : List Int} {cs : List (Addr × Addr)}
theorem law_atT (KX : K.In s1.heap) (hns : s1.heap.Ns mainGlobals mg) (hb : s1.heap.Ns builtinsNs mb)
    (hbb : ∀ x : Str, x ≠ "__name__" → mb x = bootBuiltins x) (hlim : s1.heap.NoLimit) (hg : s1.gens = #[]) (hT : ∀ p ∈ cs, s1.heap.get? p.2 = some { cls := .none, data := .fields #[] }) (nT : ∀ p ∈ cs, K.lookup p.2 = none) (C : ∀ p ∈ cs, PySem.W.CodeHd s1.heap p.1 p.2)
    (hbm : ∃ (bm : Addr) (ob : Obj), mg "__builtins__" = some (.ref bm) ∧ bm ≠ builtinsNs ∧ s1.heap.get? bm = some ob ∧ ob.cls = .type "module" ∧ ob.dict = some builtinsNs ∧ ob.data = .plain)
    (ha : s1.heap.get? a = some { cls := .type "list", data := .seq vs.toArray }) (hi : IntsAre vs ns) (hl : ns.length ≤ sizeLine)
    (R : ∀ base : Heap, K.In base → base.Ns mainGlobals mg → (∀ p ∈ cs, LamX.TabB base mg p.1 p.2) → RunsAt P w K mg base fa fd [x] sp callerA) (hbind : ∀ (s : Shared) (u : Value), BindsTo s fd ⟨[u], []⟩ [(x, u)])
    (hsp : ∀ H : Hp, (∀ p ∈ cs, H p.2 = some (.tbl #[])) → SqL K H a (ns.map V.int) → sp [.ref a] H (fun v _ => v = .bl true) fun _ _ _ => False) :
    codeAny (model P w) callerA (.call (.ref fa) ⟨[.ref a], []⟩) (fun r s' => r = .ok (.ret (.bool true)) ∧ OldK s1.heap s'.heap ∧ s'.os = s1.os ∧ AllBare s'.gens) s1 := by
  let ob : Obj := { cls := .type "list", data := .seq vs.toArray }
  let Ts : List Addr := cs.map (·.2)
  let H : Hp := fun b => if b ∈ Ts then some (.tbl #[]) else if b = a ∧ K.lookup a = none then some (.frz ob (.lst (ns.map V.int))) else none
  have tabs : ∀ {b}, b ∈ Ts → ∃ p ∈ cs, p.2 = b := fun h => by
    obtain ⟨p, hp, e⟩ := List.mem_map.mp h
    exact ⟨p, hp, e⟩
  have tab1 : ∀ p ∈ cs, p.2 ∈ Ts := fun p hp => List.mem_map_of_mem hp
  have objT : ∀ {b}, b ∈ Ts → s1.heap.get? b = some { cls := .none, data := .fields #[] } := fun h => by
    obtain ⟨p, hp, rfl⟩ := tabs h
    exact hT p hp
  have aT : a ∉ Ts := fun h => by
    have z := (objT h).symm.trans ha
    cases z
  have hTab : ∀ {b}, b ∈ Ts → H b = some (.tbl #[]) := fun h => if_pos h
  have hNot : ∀ {b}, b ∉ Ts → (b = a → (K.lookup a).isSome = true) → H b = none := fun {b} h1 h2 => by
    refine (if_neg h1).trans (if_neg fun ⟨e, k⟩ => ?_)
    have z := h2 e
    rw [k] at z
    cases z
  have hCase : ∀ b o, H b = some o → (b ∈ Ts ∧ o = .tbl #[]) ∨ (b ∉ Ts ∧ b = a ∧ K.lookup a = none ∧ o = .frz ob (.lst (ns.map V.int))) := fun b o e => by
    by_cases h1 : b ∈ Ts
    · rw [hTab h1] at e
      exact .inl ⟨h1, (Option.some.inj e).symm⟩
    · have e2 : (if b = a ∧ K.lookup a = none then some (HO.frz ob (.lst (ns.map V.int))) else none) = some o := (if_neg h1).symm.trans e
      by_cases h2 : b = a ∧ K.lookup a = none
      · rw [if_pos h2] at e2
        exact .inr ⟨h1, h2.1, h2.2, (Option.some.inj e2).symm⟩
      · rw [if_neg h2] at e2
        cases e2
  have plain : ∀ {b o}, s1.heap.get? b = some o → (∀ u n, o.data ≠ .seq u n) → o.data ≠ .fields #[] → H b = none := fun {b o} e n1 n2 => by
    refine hNot (fun h => n2 ?_) fun h => absurd ?_ (n1 vs.toArray 0)
    · have z := e.symm.trans (objT h)
      cases z
      rfl
    · rw [h, ha] at e
      cases e
      rfl
  have ns1 : ∀ {b : Addr} {m : Str → Option Value}, s1.heap.Ns b m → (hidT s1.heap H).Ns b m := fun {b m} ⟨o, es, ep, e, d, r⟩ =>
    ⟨o, es, ep, hidT_get e (plain e (fun u n z => by rw [d] at z; cases z) (fun z => by rw [d] at z; cases z)), d, r⟩
  have kin : K.In (hidT s1.heap H) := fun b o e => hidT_get (KX b o e) (hNot (fun h => by
    obtain ⟨p, hp, rfl⟩ := tabs h
    rw [nT p hp] at e
    cases e) fun h => by rw [← h, e]; rfl)
  have rv := vals_ints hi
  have sq : SqL K H a (ns.map V.int) := by
    cases hk : K.lookup a with
    | none => exact .inl (.inr ⟨ob, (if_neg aT).trans (if_pos ⟨rfl, hk⟩)⟩)
    | some o =>
      have e := KX a o hk
      rw [ha] at e
      cases e
      exact .inr ⟨_, vs.toArray, _, hk, rfl, rfl, rfl, by rw [List.size_toArray, hi.length]; exact hl, by simpa using rv⟩
  have hok : HOk P w H s1.heap := fun b u z => by
    rcases hCase b u z with ⟨h1, rfl⟩ | ⟨_, rfl, _, rfl⟩
    · exact objT h1
    · exact ⟨ha, by rw [List.length_map]; exact hl, vs, _, rv, ha⟩
  obtain ⟨mc, l1, l2⟩ := hlim
  have e0 : Env0 P w K mg (hidT s1.heap H) callerA [] s1 H := ⟨rfl, ⟨kin, ns1 hns, ⟨mb, ns1 hb, hbb⟩, ⟨mc, ns1 l1, l2⟩⟩, fun _ _ e => of_hidT e, Nat.le_of_eq (hidT_size _ _), trivial, fun b hb => (nomatch hb), hok, .of_eq hg⟩
  have TB : ∀ p ∈ cs, LamX.TabB (hidT s1.heap H) mg p.1 p.2 := fun p hp => by
    have tp := hT p hp
    obtain ⟨og, es, ep, eg, dg, _⟩ := id hns
    refine ⟨?_, ?_, fun z => ?_⟩
    · obtain ⟨o, us, file, tf, flags, tg, inF, text, tt, e1, q⟩ := C p hp
      refine ⟨o, us, file, tf, flags, tg, inF, text, tt, hidT_get e1 (plain e1 (fun u n z => ?_) fun z => ?_), q⟩
      · rw [q.2.1] at z
        cases z
      · rw [q.2.1] at z
        cases z
        exact absurd q.2.2.1 (by simp)
    · obtain ⟨bm, o, b1, b2, b3, b4, b5, b6⟩ := hbm
      refine ⟨bm, o, b1, b2, fun z => ?_, fun z => ?_, hidT_get b3 (plain b3 (fun u n z => ?_) fun z => ?_), b4, b5, b6⟩
      · rw [z, eg] at b3
        cases b3
        rw [dg] at b6
        cases b6
      · rw [z, tp] at b3
        cases b3
        cases b6
      · rw [b6] at z
        cases z
      · rw [b6] at z
        cases z
    · rw [z, tp] at eg
      cases eg
      cases dg
  refine codeAny_mono (R _ kin (ns1 hns) TB [] s1 H _ [.ref a] [.ref a] (fun v _ => v = .bl true) (fun _ _ _ => False) e0 (hbind s1 (.ref a)) (.cons rfl .nil) rfl (hsp H (fun p hp => hTab (tab1 p hp)) sq)) fun r s' h => ?_
  match r, h with
  | .error e, h => exact h.elim
  | .ok (.ret u), ⟨v, H', os, bare, un, hok', r', q⟩ =>
    subst q
    obtain rfl : u = Value.bool true := r'
    have grown : ∀ {b}, b ∈ Ts → ∃ more : Array Value, s'.heap.get? b = some { cls := .none, data := .fields more } := fun {b} h => by
      obtain ⟨more, z⟩ := un.tbls b #[] (hTab h)
      exact ⟨_, hok' b _ z⟩
    have kept : ∀ {b o}, b ∉ Ts → s1.heap.get? b = some o → s'.heap.get? b = some o := fun {b o} h1 e => by
      cases z : H b with
      | none => exact un.keep b o e z (fun z => nomatch z) (fun z => nomatch z)
      | some o2 =>
        rcases hCase b o2 z with ⟨h2, _⟩ | ⟨_, rfl, _, rfl⟩
        · exact absurd h2 h1
        · rw [ha] at e
          cases e
          exact (hok' b _ (un.frzs b ob _ z)).1
    refine ⟨rfl, ⟨fun b o e => ?_, fun b o e => ?_⟩, os, bare⟩
    · by_cases h1 : b ∈ Ts
      · obtain ⟨more, hm⟩ := grown h1
        obtain ⟨p, hp, rfl⟩ := tabs h1
        have z := e.symm.trans (hT p hp)
        cases z
        exact .inr (.inl ⟨((C p hp).tab (hT p hp)).isCodeTable, rfl, #[], more, rfl, by rw [Array.empty_append]; exact hm⟩)
      · exact .inl (kept h1 e)
    · by_cases h1 : b ∈ Ts
      · obtain ⟨more, hm⟩ := grown h1
        exact ⟨_, hm⟩
      · exact ⟨o, kept h1 e⟩
end
theorem walk_atT {l : PySem.W.OpenLaw} {n : Nat} {q : Program} {loose : List Str} {XP : (Str → Option Value) → Heap → Prop} {YP : World → Heap → Prop} {d : DefRec} {x : Str} (hn : l.most = some n) (hn2 : n ≤ sizeLine) (hdf : d.params.defaults = [])
    (F : ∀ (w : World) (mg : Str → Option Value) (fa : Addr) (h : Heap), YP w h → h.Ns mainGlobals mg → mg d.name = some (.ref fa) → ∃ (K : PySem.W.Frag) (fd : FuncData) (sp : Sp) (cs : List (Addr × Addr)), K.In h ∧ (∀ p ∈ cs, h.get? p.2 = some { cls := .none, data := .fields #[] }) ∧
      (∀ p ∈ cs, K.lookup p.2 = none) ∧ (∀ p ∈ cs, PySem.W.CodeHd h p.1 p.2) ∧ (∀ (s : Shared) (u : Value), BindsTo s fd ⟨[u], []⟩ [(x, u)]) ∧
      (∀ (H : Hp) (a : Addr) (ns : List Int), ns.length ≤ n → (∀ z ∈ ns, Builtin.Int.intBits z ≤ 1048576) → (∀ p ∈ cs, H p.2 = some (.tbl #[])) → SqL K H a (ns.map V.int) → sp [.ref a] H (fun v _ => v = .bl true) fun _ _ _ => False) ∧
      ∀ base : Heap, K.In base → base.Ns mainGlobals mg → (∀ p ∈ cs, LamX.TabB base mg p.1 p.2) → RunsAt l.prog w K mg base fa fd [x] sp callerA) :
    PySem.W.WalkO q loose XP YP l.row.toRowW d [] (fun f vs => PySem.call f vs) := by
  refine Att.attach_callB hn hdf fun w s0 s1 mg mb fa o pm cd doc a vs ns G Y ho hd hcd hmg hobj hints hlen hbits hg => ?_
  obtain ⟨K, fd, sp, cs, KX, hT, nT, C, hb, hsp, R⟩ := F w mg fa _ Y G.T.g hmg
  exact law_atT KX G.T.g G.T.b G.T.builtins G.T.nolimit hg hT nT C G.T.bmain hobj hints (Nat.le_trans hlen hn2) R hb fun H hH sq => hsp H a ns hlen hbits hH sq
end L2.Tb
set_option Elab.async false
set_option linter.all false
set_option maxRecDepth 100000
set_option maxHeartbeats 4000000
/-! what a head is asked for: own facts in one Bool, defs at any address, written dicts, empty code tables -/
namespace L2.Tb
open PySem PySem.Spec PyProof.Rows
/-- a plain own class, as isinstance and != ask of it -/
structure InsC (K : PySem.W.Frag) (C : Addr) : Prop where
  ha : PySem.W.findIn K (.ref C) "__class__" = some (some (.builtin "object.__class__"))
  hn : PySem.W.specialIn K (.builtin "object.__class__") "__get__" = some (some (.builtin "getset_descriptor.__get__"))
  ht : PySem.W.takesIn K (.builtin "object.__class__") = some true
  hm : PySem.W.mroIn K C (.type "object") = some true
def insB (K : PySem.W.Frag) (C : Addr) : Bool := He.eqO (PySem.W.findIn K (.ref C) "__class__") (some (some (.builtin "object.__class__"))) && (He.eqO (PySem.W.specialIn K (.builtin "object.__class__") "__get__") (some (some (.builtin "getset_descriptor.__get__"))) &&
  (decide (PySem.W.takesIn K (.builtin "object.__class__") = some true) && decide (PySem.W.mroIn K C (.type "object") = some true)))
theorem insB_ok {K : PySem.W.Frag} {C : Addr} (h : insB K C = true) : InsC K C := by
  obtain ⟨a, h⟩ := He.ba h
  obtain ⟨b, h⟩ := He.ba h
  obtain ⟨c, d⟩ := He.ba h
  exact ⟨He.eqO_ok a, He.eqO_ok b, of_decide_eq_true c, of_decide_eq_true d⟩
/-- a property of the class -/
abbrev pAd (K : PySem.W.Frag) (C : Addr) (f : Str) : Addr := He5.wf K C "property" f
def propB (K : PySem.W.Frag) (C : Addr) (f : Str) : Bool := He.eqO (PySem.W.findIn K (.ref C) f) (some (some (.ref (He.ma K C f)))) && (He.eqO (PySem.W.specialIn K (.ref (He.ma K C f)) "__get__") (some (some (.builtin "property.__get__"))) &&
  (decide (PySem.W.takesIn K (.ref (He.ma K C f)) = some true) && (match PySem.W.recIn K (He.ma K C f) "property" with
    | some (.ref _ :: _) => true
    | _ => false)))
theorem propB_ok {K : PySem.W.Frag} {C : Addr} {f : Str} (h : propB K C f = true) : PropOf K C f (He.ma K C f) (pAd K C f) := by
  obtain ⟨a, h⟩ := He.ba h
  obtain ⟨b, h⟩ := He.ba h
  obtain ⟨c, d⟩ := He.ba h
  refine ⟨He.eqO_ok a, He.eqO_ok b, of_decide_eq_true c, ?_⟩
  unfold pAd He5.wf
  split at d
  · rename_i g r e
    exact ⟨r, by rw [e]⟩
  · cases d
/-- a class that is read by its name; its classmethods -/
abbrev cAd (K : PySem.W.Frag) (C : Addr) (m : Str) : Addr := He5.wf K C "classmethod" m
def creadB (K : PySem.W.Frag) (C : Addr) : Bool := PySem.W.readsIn K C (.type "type") && He.eqO (PySem.W.specialIn K (.ref C) "__getattribute__") (some (some (.builtin "type.__getattribute__")))
theorem creadB_ok {K : PySem.W.Frag} {C : Addr} (h : creadB K C = true) : ClX.CRead K C (.type "type") := ⟨(He.ba h).1, He.eqO_ok (He.ba h).2⟩
def cmetB (K : PySem.W.Frag) (C : Addr) (m : Str) : Bool := He5.wrapB K C "classmethod" "classmethod.__get__" m && PySem.W.fnIn K (cAd K C m)
theorem cmetB_ok {K : PySem.W.Frag} {C : Addr} {m : Str} (h : cmetB K C m = true) : ClX.CMet K C (.type "type") m (He.ma K C m) (cAd K C m) := He5.cmet_of (He.ba h).1 (He.ba h).2
/-! ### what the module's names reach -/
def refsAll (g : Addr → Option Obj) (as : List Addr) : List Addr := as.flatMap fun a => match g a with
  | some o => He.refsD o
  | none => []
def seenAt (g : Addr → Option Obj) : Nat → List Addr → List Addr
  | 0, as => as
  | n + 1, as => as ++ seenAt g n (refsAll g as)
def kH (n : Nat) (g : Addr → Option Obj) : PySem.W.Frag := He.frT g (seenAt g n [mainGlobals] ++ [cStatics])
/-! ### the Hook -/
section
variable (n : Nat) (fb : PySem.W.Frag → Bool) (fn : List He5.DefA) (ts : List He.Tab) (tf : List He.Defn)
abbrev AlH : Type := (Bool × List He.FnW) × List (Option (List (Option (Str × Int))))
def obsH (g : Addr → Option Obj) : AlH := ((fb (kH n g) && (He.tabsB g tf (kH n g) && fn.all fun d => d.ok (kH n g)), fn.map fun d => He5.fnA (kH n g) (d.at_ (kH n g))), ts.map fun t => He.dicW (kH n g) (t.1 (kH n g)))
def valH (w : World) : AlH := ((true, fn.map He5.DefA.val), ts.map fun t => some (He.keysIn w.params t.2))
structure SaysH (w : World) (h : Heap) (K : PySem.W.Frag) : Prop where
  kin : K.In h
  fb : fb K = true
  df : ∀ d ∈ fn, ∃ fd, FunD K d.name d.qual d.params d.body d.scope (d.dvs K) (d.kws K) (d.at_ K) fd
  tb : ∀ t ∈ ts, ∃ es m, KDict K w (t.1 K) es m
  hd : ∀ p ∈ tf, PySem.W.codeHdIn K (He.cT K p).1 (He.cT K p).2 = true
  out : ∀ p ∈ tf, K.lookup (He.cT K p).2 = none
  emp : ∀ p ∈ tf, h.get? (He.cT K p).2 = some { cls := .none, data := .fields #[] }
end
section
variable {n : Nat} {fb : PySem.W.Frag → Bool} {fn : List He5.DefA} {ts : List He.Tab} {tf : List He.Defn}
theorem map_mem {α β : Type} {f g : α → β} {l : List α} (h : l.map f = l.map g) {a : α} (ha : a ∈ l) : f a = g a := List.map_inj_left.mp h a ha
theorem saysH_of {w : World} {h : Heap} (e : obsH n fb fn ts tf h.get? = valH fn ts w) : SaysH fb fn ts tf w h (kH n h.get?) := by
  have e1 : (fb (kH n h.get?) && (He.tabsB h.get? tf (kH n h.get?) && fn.all fun d => d.ok (kH n h.get?))) = true := congrArg (fun z : AlH => z.1.1) e
  have e2 : (fn.map fun d => He5.fnA (kH n h.get?) (d.at_ (kH n h.get?))) = fn.map He5.DefA.val := congrArg (fun z : AlH => z.1.2) e
  have e3 : (ts.map fun t => He.dicW (kH n h.get?) (t.1 (kH n h.get?))) = ts.map fun t => some (He.keysIn w.params t.2) := congrArg (fun z : AlH => z.2) e
  obtain ⟨a, b⟩ := He.ba e1
  obtain ⟨b, c⟩ := He.ba b
  have tab : ∀ p ∈ tf, PySem.W.codeHdIn (kH n h.get?) (He.cT (kH n h.get?) p).1 (He.cT (kH n h.get?) p).2 = true ∧ ∃ o, h.get? (He.cT (kH n h.get?) p).2 = some o ∧ He.emptyTab o = true := fun p hp => by
    obtain ⟨x, y⟩ := He.ba (List.all_eq_true.mp b p hp)
    refine ⟨x, ?_⟩
    split at y
    · rename_i o q
      exact ⟨o, q, y⟩
    · cases y
  refine ⟨He.frT_in, a, fun d hd => He5.DefA.funD (map_mem e2 hd) (List.all_eq_true.mp c d hd), fun t ht => He.dicW_ok (map_mem e3 ht), fun p hp => (tab p hp).1, fun p hp => ?_, fun p hp => ?_⟩
  · obtain ⟨_, o, q, z⟩ := tab p hp
    exact He.frT_none q z
  · obtain ⟨_, o, q, z⟩ := tab p hp
    rw [q, He.emptyTab_eq z]
def hookH (n : Nat) (fb : PySem.W.Frag → Bool) (fn : List He5.DefA) (ts : List He.Tab) (tf : List He.Defn) : PySem.W.Hook where
  α := AlH
  obs := fun s => obsH n fb fn ts tf s.heap.get?
  val := fun w => valH fn ts w
  says := fun w h => ∃ K : PySem.W.Frag, SaysH fb fn ts tf w h K
  of := fun _ _ e => ⟨_, saysH_of e⟩
  keeps := fun _ _ _ ⟨K, c⟩ k => ⟨K, PySem.W.Frag.In.keeps c.kin k, c.fb, c.df, c.tb, c.hd, c.out, fun p hp => k _ _ (c.emp p hp)⟩
theorem obH_eq (s : PySem.W.SharedT) : obsH n fb fn ts tf (HandSHeadRun.getT s) = (hookH n fb fn ts tf).obs s.abs := by
  have e : HandSHeadRun.getT s = s.abs.heap.get? := funext fun a => HandSHeadRun.getT_eq s a
  show obsH n fb fn ts tf (HandSHeadRun.getT s) = obsH n fb fn ts tf s.abs.heap.get?
  rw [e]
theorem SaysH.nth {w : World} {h : Heap} {K : PySem.W.Frag} (c : SaysH fb fn ts tf w h K) (i : Nat) {d : He5.DefA} (e : fn[i]? = some d := by rfl) : ∃ fd, FunD K d.name d.qual d.params d.body d.scope (d.dvs K) (d.kws K) (d.at_ K) fd := c.df d (List.mem_of_getElem? e)
theorem SaysH.cs {w : World} {h : Heap} {K : PySem.W.Frag} (c : SaysH fb fn ts tf w h K) : (∀ p ∈ tf.map (He.cT K), h.get? p.2 = some { cls := .none, data := .fields #[] }) ∧ (∀ p ∈ tf.map (He.cT K), K.lookup p.2 = none) ∧ ∀ p ∈ tf.map (He.cT K), PySem.W.CodeHd h p.1 p.2 := by
  refine ⟨fun p hp => ?_, fun p hp => ?_, fun p hp => ?_⟩ <;> obtain ⟨q, hq, rfl⟩ := List.mem_map.mp hp
  · exact c.emp q hq
  · exact c.out q hq
  · exact PySem.W.codeHd_of_K c.kin (c.hd q hq)
end
/-- all of a list of names -/
theorem all_get {α : Type} {p : α → Bool} {l : List α} (h : l.all p = true) (i : Nat) {a : α} (e : l[i]? = some a := by rfl) : p a = true := List.all_eq_true.mp h a (List.mem_of_getElem? e)
/-! ### a written dict's keys; a written tuple -/
def keyS (e : DictEntry) : Option Str := match e.key with
  | .str z _ => some z
  | _ => none
def keysB (K : PySem.W.Frag) (a : Addr) (ks : List Str) : Bool := match K.lookup a with
  | some ⟨_, _, .dict es _, _⟩ => decide (es.toList.map keyS = ks.map some)
  | _ => false
theorem keysB_ok {K : PySem.W.Frag} {a : Addr} {ks : List Str} (h : keysB K a ks = true) (z : Str) : ∃ r, PySem.W.nsIn K a z = some r ∧ r.isSome = ks.contains z := by
  unfold keysB at h
  split at h
  · rename_i oc od es n sl q
    have h := of_decide_eq_true h
    unfold PySem.W.nsIn
    rw [q]
    dsimp only
    have key : ∀ (l : List DictEntry) (ks : List Str), l.map keyS = ks.map some → l.any (·.refKey) = false ∧ (l.find? (·.key.isStr z)).isSome = ks.contains z := by
      intro l
      induction l with
      | nil =>
        intro ks h
        cases ks with
        | nil => exact ⟨rfl, rfl⟩
        | cons => cases h
      | cons e l ih =>
        intro ks h
        cases ks with
        | nil => cases h
        | cons k ks =>
          rw [List.map_cons, List.map_cons] at h
          injection h with h1 h2
          obtain ⟨i1, i2⟩ := ih ks h2
          unfold keyS at h1
          split at h1
          · rename_i y t e1
            have h1 : y = k := Option.some.inj h1
            have r : e.refKey = false := by
              unfold DictEntry.refKey
              rw [e1]
            refine ⟨by rw [List.any_cons, r, i1]; rfl, ?_⟩
            rw [List.find?_cons, List.contains_cons]
            have w : e.key.isStr z = (z == k) := by
              rw [e1, ← h1]
              show (y == z) = (z == y)
              exact Bool.eq_iff_iff.mpr ⟨fun c => beq_iff_eq.mpr (beq_iff_eq.mp c).symm, fun c => beq_iff_eq.mpr (beq_iff_eq.mp c).symm⟩
            rw [w]
            cases (z == k) with
            | true => rfl
            | false => exact i2
          · cases h1
    obtain ⟨h1, h2⟩ := key _ _ h
    cases f : es.toList.find? (·.key.isStr z) with
    | some e =>
      rw [f] at h2
      exact ⟨_, rfl, h2⟩
    | none =>
      rw [f] at h2
      refine ⟨none, ?_, h2⟩
      dsimp only
      rw [h1]
      rfl
  · cases h
def tupB (K : PySem.W.Frag) (a : Addr) (vs : List V) : Bool := match K.lookup a with
  | some o => decide (o.cls = .type "tuple") && (match o.data with
    | .seq its _ => decide (its.size ≤ 1000) && He.relAll vs its.toList
    | _ => false)
  | none => false
theorem tupB_ok {K : PySem.W.Frag} {a : Addr} {vs : List V} (h : tupB K a vs = true) (H : Hp) : SqT K H a vs := by
  unfold tupB at h
  split at h
  · rename_i o q
    obtain ⟨h1, h2⟩ := He.ba h
    split at h2
    · rename_i its n e
      obtain ⟨h3, h4⟩ := He.ba h2
      exact .inr ⟨o, its, n, q, of_decide_eq_true h1, e, Nat.le_trans (of_decide_eq_true h3) (by rw [sizeLine_eq]; decide), He.relAll_ok h4⟩
    · cases h2
  · cases h
/-- what a written tuple names -/
def refsIn (K : PySem.W.Frag) (a : Addr) : List Addr := match K.lookup a with
  | some o => (match o.data with
    | .seq its _ => its.toList.flatMap He.refV
    | _ => [])
  | none => []
/-- the value of a written dict at a key, an object -/
def refOf (K : PySem.W.Frag) (a : Addr) (z : Str) : Addr := match PySem.W.nsIn K a z with
  | some (some (.ref l)) => l
  | _ => 0
def refB (K : PySem.W.Frag) (a : Addr) (z : Str) : Bool := He.eqO (PySem.W.nsIn K a z) (some (some (.ref (refOf K a z))))
/-! ### an error class with one attribute -/
def ercB (K : PySem.W.Frag) (b : Bs) (x f : Str) : Bool := (He.Fa.glo x).ok K && (ecB K b (He.ga K x) && ((He.Fa.meth x "__init__").ok K && (He.Fa.noat x f).ok K))
theorem binds_kw {K : PySem.W.Frag} {x q fl : Str} {params : Arguments} {body : List Stmt} {scope : Scope} {f : Addr} {fd : FuncData} (F : FunD K x q params body scope [] [] f fd)
    (hk : ∀ (kV doc pm : Value) (an : Option Addr) (cdv ct u v : Value), bindArgs (PySem.W.fnOf x q params body scope .none kV doc pm an cdv ct) ⟨[u], [(fl, v)]⟩ = pure [(("self" : Str), u), (fl, v)]) (sh : Shared) (a : Addr) (zs : List Value)
    (hl : zs.length = [fl].length) : BindsTo sh fd ⟨[Value.ref a], [fl].zip zs⟩ (("self" :: [fl] : List Str).zip (Value.ref a :: zs)) := by
  obtain ⟨oc, od, dV, kV, doc, pm, an, cdv, ct, osl, rfl, lk, hcd, hD, hK⟩ := F.ex
  match zs, hl with
  | [v], _ =>
    rcases hD with ⟨_, rfl⟩ | ⟨e, _⟩
    · exact .of_eq (hk kV doc pm an cdv ct _ v)
    · exact absurd rfl e
section
variable {P : Program} {w : World} {K : PySem.W.Frag} {mg : Str → Option Value} {base h : Heap}
theorem erc_of {st : Stmt} {x q fl : Str} {b : Bs} {p1 p2 p3 p4 : Pos} (X : K.In h) (G : h.Ns mainGlobals mg) (e : ercB K b x fl = true) (ok : b.Ok)
    (hF : ∃ fd, FunD K "__init__" q (defArgs st) (defBody st) (defScope st) [] [] (He.ma K (He.ga K x) "__init__") fd) (hbody : defBody st = [.Assign [.Attribute (.Name "self" p1) fl p2] (.Name fl p3) p4])
    (S : FnScope ["self", fl] ["self", fl] (defScope st)) (h0 : (defScope st).names.lookup ("self" : Str) = some .local) (h1 : (defScope st).names.lookup fl = some .local) (hd : (fl == ("__debug__" : Str)) = false) (hcd : (fl == ("__classdict__" : Str)) = false)
    (hp : ∀ (kV doc pm : Value) (an : Option Addr) (cdv ct : Value) (us : List Value), us.length = (["self", fl] : List Str).length → bindArgs (PySem.W.fnOf "__init__" q (defArgs st) (defBody st) (defScope st) .none kV doc pm an cdv ct) ⟨us, []⟩ = pure ((["self", fl] : List Str).zip us))
    (hk : ∀ (kV doc pm : Value) (an : Option Addr) (cdv ct u v : Value), bindArgs (PySem.W.fnOf "__init__" q (defArgs st) (defBody st) (defScope st) .none kV doc pm an cdv ct) ⟨[u], [(fl, v)]⟩ = pure [(("self" : Str), u), (fl, v)]) :
    ErC P w K mg base x fl b (He.ga K x) := by
  obtain ⟨e1, e2⟩ := He.ba e
  obtain ⟨e2, e3⟩ := He.ba e2
  obtain ⟨e3, e4⟩ := He.ba e3
  have m := He.meth_ok e3
  obtain ⟨fd, F⟩ := hF
  refine ⟨He.glo_ok X G e1, ecB_ok ok e2, He.noat_ok e4, _, fd, m.1, beq_iff_eq.mp m.2, ?_, F.bindsN hp, binds_kw F hk⟩
  rw [hbody] at F
  exact init_ok F S h0 h1 hd hcd
end
end L2.Tb
set_option Elab.async false
set_option linter.all false
set_option maxRecDepth 100000
set_option maxHeartbeats 4000000
/-! sorted(..) of tuples of ints of either sign: a list of them, a set of them -/
namespace L2.Tb
open PySem PySem.Spec PyProof.Rows
def Wi (B : Int) (ns : List Int) : Prop := ∀ m ∈ ns, -B ≤ m ∧ m < B
/-- a rank in the tuples' order -/
def rk (B : Int) (ns : List Int) : Int := TS.code (B + B) (ns.map fun m => m + B)
theorem Wi.bd {B : Int} {ns : List Int} (h : Wi B ns) : TS.Bd (B + B) (ns.map fun m => m + B) := fun m hm => by
  obtain ⟨k, hk, rfl⟩ := List.mem_map.mp hm
  have := h k hk
  constructor <;> omega
theorem Wi.rest {B d : Int} {ns : List Int} (h : Wi B (d :: ns)) : Wi B ns := fun m hm => h m (List.mem_cons_of_mem _ hm)
theorem rk_lt {B d e : Int} {u v : List Int} (hl : u.length = v.length) (hu : Wi B u) (hv : Wi B v) (h : d < e) : rk B (d :: u) < rk B (e :: v) :=
  TS.code_lt (d := d + B) (e := e + B) (by rw [List.length_map, List.length_map]; exact hl) hu.bd hv.bd (by omega)
theorem rk_same {B d : Int} {u v : List Int} (hl : u.length = v.length) : rk B (d :: u) < rk B (d :: v) ↔ rk B u < rk B v :=
  TS.code_same (d := d + B) (by rw [List.length_map, List.length_map]; exact hl)
theorem rk_ne {B d e : Int} {u v : List Int} (hl : u.length = v.length) (hu : Wi B u) (hv : Wi B v) (n : d ≠ e) : rk B (d :: u) < rk B (e :: v) ↔ d < e := by
  refine ⟨fun h => ?_, rk_lt hl hu hv⟩
  rcases Int.lt_or_gt_of_ne n with c | c
  · exact c
  · exact absurd (rk_lt hl.symm hv hu c) (Int.not_lt.mpr (Int.le_of_lt h))
/-- the rank tells the tuple -/
theorem rk_inj {B : Int} : ∀ {u v : List Int}, u.length = v.length → Wi B u → Wi B v → rk B u = rk B v → u = v
  | [], [], _, _, _, _ => rfl
  | d :: u, e :: v, hl, hu, hv, h => by
    have hl' : u.length = v.length := by simpa using hl
    by_cases c : d = e
    · subst c
      have t : rk B u = rk B v := by
        rcases Int.lt_trichotomy (rk B u) (rk B v) with z | z | z
        · have := (rk_same (d := d) hl').mpr z
          omega
        · exact z
        · have := (rk_same (d := d) hl'.symm).mpr z
          omega
      rw [rk_inj hl' hu.rest hv.rest t]
    · rcases Int.lt_or_gt_of_ne c with z | z
      · have := rk_lt hl' hu.rest hv.rest z
        omega
      · have := rk_lt hl'.symm hv.rest hu.rest z
        omega
  | [], _ :: _, hl, _, _, _ => by simp at hl
  | _ :: _, [], hl, _, _, _ => by simp at hl
section
variable {P : Program} {w : World} {A : Around} {E : Value → Shared → Prop} {s : Shared}
theorem lexW {Q : Bool → Shared → Prop} {B : Int} {b : Bool} : ∀ {us vs : List Value} {ns ms : List Int} (i : Nat), IntsAre us ns → IntsAre vs ms → ns.length = ms.length → Wi B ns → Wi B ms → Q (decide (rk B ns < rk B ms)) s →
    PySem.W.KatLex P w A b false Q (us.zip vs) i s
  | _, _, _, _, i, .nil, .nil, _, _, _, h => PySem.W.kat_nil (by rw [decide_eq_false (Int.lt_irrefl _)] at h; exact h)
  | _, _, _, _, i, .cons p t a, .cons q u c, hl, w1, w2, h => by
    have l2 := Nat.succ.inj hl
    refine PySem.W.kat_cons (wpAny_eqBool_int ?_)
    by_cases e : p = q
    · rw [e, beq_self_eq_true]
      rw [e, decide_eq_decide.mpr (rk_same l2)] at h
      exact PySem.W.kat_yes (lexW (i + 1) a c l2 w1.rest w2.rest h)
    · rw [beq_eq_false_iff_ne.mpr e]
      rw [decide_eq_decide.mpr (rk_ne l2 w1.rest w2.rest e)] at h
      exact PySem.W.kat_no (TS.oneLt_ints _ h)
  | _, _, _, _, _, .nil, .cons .., hl, _, _, _ => by simp at hl
  | _, _, _, _, _, .cons .., .nil, hl, _, _, _ => by simp at hl
/-- tuples of d ints each -/
def TpsOk (h : Heap) (d : Nat) (B : Int) (vs : List Value) : Prop := ∀ v ∈ vs, ∃ ns, TS.TupInts h v ns ∧ ns.length = d ∧ Wi B ns
theorem TpsOk.keeps {h h' : Heap} {d : Nat} {B : Int} {vs : List Value} (x : TpsOk h d B vs) (k : ∀ b o, h.get? b = some o → o.cls = .type "tuple" → h'.get? b = some o) : TpsOk h' d B vs := fun v hv => by
  obtain ⟨ns, t, q⟩ := x v hv
  exact ⟨ns, t.keeps k, q⟩
theorem heads_of {h : Heap} {d : Nat} {B : Int} (d1 : 1 ≤ d) : ∀ vs : List Value, TpsOk h d B vs → ∃ fs, PySem.W.KatTups h vs fs ∧ fs.length = vs.length ∧ ∀ f ∈ fs, ∃ n t, f = Value.int n t
  | [], _ => ⟨[], .nil, rfl, fun f hf => by cases hf⟩
  | v :: vs, x => by
    obtain ⟨fs, kt, len, all⟩ := heads_of d1 vs fun u hu => x u (List.mem_cons_of_mem _ hu)
    obtain ⟨ns, ⟨a, items, rfl, ⟨ob, g1, g2, m, g3⟩, ia⟩, ln, _⟩ := x v (List.mem_cons_self ..)
    cases e : items.toList with
    | nil =>
      rw [e] at ia
      have z := ia.length
      rw [ln] at z
      exact absurd (z ▸ d1 : 1 ≤ ([] : List Value).length) (by decide)
    | cons y ys =>
      obtain ⟨n, t, ey⟩ := ia.all y (by rw [e]; exact List.mem_cons_self ..)
      have g4 : items[0]? = some y := by rw [← Array.getElem?_toList, e]; rfl
      refine ⟨y :: fs, .cons g1 g2 g3 g4 kt, congrArg Nat.succ len, fun f hf => ?_⟩
      rcases List.mem_cons.mp hf with rfl | hf
      · exact ⟨n, t, ey⟩
      · exact all f hf
theorem kindW {d : Nat} {B : Int} {vs : List Value} (d1 : 1 ≤ d) (two : 2 ≤ vs.length) (x : TpsOk s.heap d B vs) (r : Value → Int) (hr : ∀ v ∈ vs, ∀ ns, TS.TupInts s.heap v ns → r v = rk B ns) (Q : SortKind → Shared → Prop)
    (h : ∀ κ, TS.Cmp P w A s κ (pairsOf vs) r → Q κ s) : wpAny (model P w) A (keyKind' vs.toArray) Q E s := by
  obtain ⟨fs, kt, len, all⟩ := heads_of d1 vs x
  refine PySem.W.kat_kind (T := Value.type "int") kt (by omega) (fun f hf => ?_) rfl (h _ fun p q mp mq Q2 E2 goal => ?_)
  · obtain ⟨n, t, rfl⟩ := all f hf
    exact PySem.W.Looks.of_pure rfl
  · rw [pairsOf_toList] at mp mq
    have m1 := (mem_zip_self mp).2
    have m2 := (mem_zip_self mq).2
    obtain ⟨ns, t1, l1, w1⟩ := x _ m1
    obtain ⟨ms, t2, l2, w2⟩ := x _ m2
    have g : Q2 (decide (rk B ns < rk B ms)) s := by
      rw [← hr _ m1 _ t1, ← hr _ m2 _ t2]
      exact goal
    obtain ⟨a1, i1, e1, ⟨o1, p1, c1, n1, y1⟩, z1⟩ := t1
    obtain ⟨a2, i2, e2, ⟨o2, p2, c2, n2, y2⟩, z2⟩ := t2
    rw [e1, e2]
    refine PySem.W.kat_lt p1 y1 p2 y2 ?_
    have k1 := z1.length
    have k2 := z2.length
    rw [Array.length_toList] at k1 k2
    rw [show decide (i1.size < i2.size) = false from decide_eq_false (by omega)]
    exact lexW 0 z1 z2 (by omega) w1 w2 g
theorem sortW {a : Addr} {vs : List Value} {n d : Nat} {B : Int} {R : PySem.Fin → Shared → Prop} (at_ : s.heap.get? a = some (seqObj "list" vs.toArray n)) (few : vs.length < 64) (d1 : 1 ≤ d) (x : TpsOk s.heap d B vs)
    (r : Value → Int) (hr : ∀ v ∈ vs, ∀ ns, TS.TupInts s.heap v ns → r v = rk B ns)
    (h : ∀ out : Array Value, out.toList.Perm vs → out.toList.Pairwise (fun u v => r u ≤ r v) → R (.done (.ret .none)) { s with heap := sortedHeap s.heap a vs out }) : wpAny (model P w) A (Builtin.«list.sort» ⟨[.ref a], []⟩) R E s := by
  have stay : ∀ b o, s.heap.get? b = some o → o.cls = .type "tuple" → (TS.midHeap s.heap a vs).get? b = some o := fun b o e hc => by
    refine TS.midHeap_old (fun z => ?_) e
    rw [z, at_] at e
    cases e
    have y : Value.type "list" = Value.type "tuple" := hc
    injection y with y
    exact absurd y (by decide)
  refine SK.plain_sort (r := r) at_ few (fun two Q hQ => ?_) fun ps out q1 q2 q3 => ?_
  · refine kindW (s := { s with heap := TS.midHeap s.heap a vs }) d1 two (x.keeps stay) r (fun v hv ns t => ?_) Q hQ
    obtain ⟨ms, t0, _⟩ := x v hv
    rw [t.ints.symm.trans (t0.keeps stay).ints]
    exact hr v hv ms t0
  · obtain ⟨z1, z2⟩ := TS.out_rank q1 q2 q3
    exact h out z1 z2
/-- sorted(xs) of a list -/
theorem sortedW {l : Addr} {vs : List Value} {d : Nat} {B : Int} {Q : Value → Shared → Prop} (hl : s.heap.IsList l vs.toArray) (few : vs.length < 64) (d1 : 1 ≤ d) (x : TpsOk s.heap d B vs)
    (h : ∀ out : Array Value, out.toList.Perm vs → out.toList.Pairwise (fun u v => rk B (TS.intsOf s.heap u) ≤ rk B (TS.intsOf s.heap v)) → Q (.ref (s.heap.objs.size + 1)) { s with heap := sortedAll s.heap vs out }) :
    wpAny (model P w) A (call (.builtin "sorted") [.ref l]) Q E s := by
  have big : vs.length ≤ sizeLine := by rw [sizeLine_eq]; omega
  refine Calls.call_function_entry kind_sorted PyProof.Rows.plain_sorted entry_sorted (args_sorted1 _) ?_
  unfold Builtin.«sorted»
  refine wpAny_bind (m := checkCount "sorted" 1 1 _) (wpAny_pure (wpAny_bind (collect_list hl ?_ big)))
  refine wpAny_bind (wpAny_newList ?_ big)
  let h1 : Heap := (s.heap.push (seqObj "list" #[] 0)).update s.heap.objs.size (Obj.mapSeq (· ++ vs.toArray))
  have z1 : h1.objs.size = s.heap.objs.size + 1 := by
    show ((s.heap.push (seqObj "list" #[] 0)).update s.heap.objs.size (Obj.mapSeq (· ++ vs.toArray))).objs.size = _
    rw [Heap.size_update, size_push']
  have at_ : (h1.push (seqObj "list" vs.toArray 0)).get? (s.heap.objs.size + 1) = some (seqObj "list" vs.toArray 0) := by
    rw [← z1]
    exact Heap.get?_push_size _ rfl
  have stay : ∀ b o, s.heap.get? b = some o → o.cls = .type "tuple" → (h1.push (seqObj "list" vs.toArray 0)).get? b = some o := fun b o e _ => by
    have lt := Heap.lt_size e
    rw [Heap.get?_push_ne _ _ _ (by rw [z1]; exact Nat.ne_of_lt (Nat.lt_succ_of_lt lt))]
    exact (Heap.get?_update_ne _ _ _ _ (Nat.ne_of_lt lt)).trans ((Heap.get?_push_ne _ _ _ (Nat.ne_of_lt lt)).trans e)
  show wpAny _ _ _ _ _ { s with heap := h1.push (seqObj "list" vs.toArray 0) }
  have z2 : ({ s with heap := h1 } : Shared).heap.objs.size = s.heap.objs.size + 1 := z1
  refine wpAny_bind (wpAny_holding ?_)
  show wpAny (model P w) A.in1 (call (.builtin "list.sort") [.ref h1.objs.size]) _ _ { s with heap := h1.push (seqObj "list" vs.toArray 0) }
  rw [z1]
  refine wpAny_call_entry slot_list_sort ⟨_, at_, rfl⟩ entry_list_sort (sortW at_ few d1 (x.keeps stay) (fun v => rk B (TS.intsOf s.heap v)) (fun v hv ns t => ?_) fun out a1 a2 => ⟨_, rfl, ?_⟩) (args_list_sort _)
  · obtain ⟨ms, t0, _⟩ := x v hv
    show rk B (TS.intsOf s.heap v) = rk B ns
    rw [t0.ints, ← (t0.keeps stay).ints, t.ints]
  · show wpAny _ _ (pure _) _ _ _
    exact wpAny_pure ⟨_, rfl, h out a1 a2⟩
end
/-! ### as rules -/
theorem perm_back {α β : Type} {f : α → β} {l m : List β} (h : l.Perm m) : ∀ ks : List α, m = ks.map f → ∃ L : List α, L.Perm ks ∧ l = L.map f := by
  induction h with
  | nil => exact fun ks e => ⟨ks, .refl _, e⟩
  | cons x _ ih =>
    intro ks e
    cases ks with
    | nil => cases e
    | cons k ks =>
      rw [List.map_cons] at e
      injection e with e1 e2
      obtain ⟨L, p, q⟩ := ih ks e2
      exact ⟨k :: L, p.cons k, by rw [List.map_cons, ← q, e1]⟩
  | swap x y l =>
    intro ks e
    match ks, e with
    | k1 :: k2 :: ks, e =>
      rw [List.map_cons, List.map_cons] at e
      injection e with e1 e2
      injection e2 with e2 e3
      exact ⟨k2 :: k1 :: ks, .swap .., by rw [List.map_cons, List.map_cons, ← e1, ← e2, ← e3]⟩
  | trans _ _ i1 i2 =>
    intro ks e
    obtain ⟨L, p, q⟩ := i2 ks e
    obtain ⟨M, p2, q2⟩ := i1 L q
    exact ⟨M, p2.trans p, q2⟩
/-- addresses of tuples of d ints -/
def Tps (K : PySem.W.Frag) (H : Hp) (d : Nat) (B : Int) (ks : List (Addr × List Int)) : Prop := ∀ p ∈ ks, SqT K H p.1 (p.2.map V.int) ∧ p.2.length = d ∧ Wi B p.2
def rSortW (K : PySem.W.Frag) (d : Nat) (B : Int) : List V → Hp → VK → Prop := fun vs H Q => ∃ (a : Addr) (ks : List (Addr × List Int)), vs = [.ref a] ∧ SqL K H a (ks.map fun p => V.ref p.1) ∧ ks.length < 64 ∧ Tps K H d B ks ∧
  ∀ (L : List (Addr × List Int)) (p : Addr), L.Perm ks → L.Pairwise (fun q r => rk B q.2 ≤ rk B r.2) → H p = none → Q (.ref p) (upd H p (.lst (L.map fun q => V.ref q.1)))
theorem ranks {B : Int} {h : Heap} {L ks : List (Addr × List Int)} {out : List Value} (e : out = L.map fun q => Value.ref q.1) (pm : L.Perm ks) (tk : ∀ q ∈ ks, TS.TupInts h (.ref q.1) q.2)
    (pw : out.Pairwise (fun u v => rk B (TS.intsOf h u) ≤ rk B (TS.intsOf h v))) : L.Pairwise (fun q r => rk B q.2 ≤ rk B r.2) := by
  subst e
  refine List.Pairwise.imp_of_mem (fun {q r} hq hr z => ?_) (List.pairwise_map.mp pw)
  rw [(tk q (pm.mem_iff.mp hq)).ints, (tk r (pm.mem_iff.mp hr)).ints] at z
  exact z
theorem cr_sortW {X : Cx} {d : Nat} {B : Int} (d1 : 1 ≤ d) : CallR X (.builtin "sorted") (rSortW X.K d B) := by
  intro pins s σ H vs us Q I r h
  obtain ⟨a, ks, rfl, hs, few, tp, q⟩ := h
  obtain ⟨its, rv, pl, _⟩ := I.list hs
  rw [Vals.ref1 r]
  have ei : its = ks.map fun p => Value.ref p.1 := refs_of_vals rv
  have tk : ∀ p ∈ ks, TS.TupInts s.heap (.ref p.1) p.2 := fun p hp => tupI_raw I (tp p hp).1
  refine sortedW (d := d) (B := B) pl.isList (by rw [ei, List.length_map]; exact few) d1 (fun v hv => ?_) fun out a1 a2 => ?_
  · rw [ei] at hv
    obtain ⟨p, hp, rfl⟩ := List.mem_map.mp hv
    exact ⟨p.2, tk p hp, (tp p hp).2⟩
  · obtain ⟨L, pm, e⟩ := perm_back a1 ks ei
    obtain ⟨ep, at_⟩ := PyProof.Rows.sortedAll_at s.heap its out
    refine ⟨.ref _, upd H (s.heap.objs.size + 1) (.lst (L.map fun q => V.ref q.1)), I.laid (t' := s.toks) (fun _ _ => PyProof.Rows.sortedAll_old) (Nat.le_succ _) ⟨?_, out.toList, ep, ?_, at_⟩, rfl, q L _ pm (ranks e pm tk a2) (I.hok.fresh (Nat.le_succ _))⟩
    · rw [List.length_map, pm.length_eq, sizeLine_eq]
      omega
    · rw [e]
      exact vals_of_refs L
/-- sorted of a set -/
def rSortWS (K : PySem.W.Frag) (P : Program) (w : World) (d : Nat) (B : Int) : List V → Hp → VK → Prop := fun vs H Q => ∃ (a : Addr) (ks : List (Addr × List Int)), vs = [.ref a] ∧ H a = some (SetTO P w a ks) ∧ Tps K H d B ks ∧
  ∀ (L : List (Addr × List Int)) (p : Addr), L.Perm ks → (L.map (·.2)).Nodup → L.length < 64 → L.Pairwise (fun q r => rk B q.2 ≤ rk B r.2) → H p = none → Q (.ref p) (upd H p (.lst (L.map fun q => V.ref q.1)))
theorem sortedWS {P : Program} {w : World} {A : Around} {E : Value → Shared → Prop} {s : Shared} {a : Addr} {ks : List (Addr × List Int)} {es : Array (Int × Value)} {ep : Nat} {t : SetTable} {Q : Value → Shared → Prop} {d : Nat} {B : Int} (R : SetTR P w s.heap a ks es ep t) (hh : A.handled = none)
    (d1 : 1 ≤ d) (hB : ∀ p ∈ ks, p.2.length = d ∧ Wi B p.2)
    (q : ∀ s2 p (out : Array Value) (c : Nat) (L : List (Addr × List Int)), (∀ b o, s.heap.get? b = some o → s2.heap.get? b = some o) → s2.gens = s.gens → s2.os = s.os → s.heap.objs.size ≤ p →
      s2.heap.get? p = some (seqObj "list" out c) → out.toList = L.map (fun z => Value.ref z.1) → L.Perm ks → L.Pairwise (fun y z => rk B y.2 ≤ rk B z.2) → Q (.ref p) s2) : wpAny (model P w) A (call (.builtin "sorted") [.ref a]) Q E s := by
  obtain ⟨o, g1, g2, g3⟩ := R.ob
  have few := R.few
  have sz := R.size
  refine Calls.call_function_entry kind_sorted PyProof.Rows.plain_sorted entry_sorted (args_sorted1 _) ?_
  unfold Builtin.«sorted»
  refine wpAny_bind (m := checkCount "sorted" 1 1 _) (wpAny_pure (wpAny_bind (collect_set (A := A.in1) hh ⟨o, g1, g2.1, g3⟩ R.fits (by unfold scanBound; omega) R.tab.ris R.led fun s1 vs k1 up gg oo pm => ?_)))
  have vals : es.toList.map (·.2) = ks.map fun z => Value.ref z.1 := by
    rw [R.rows]
    unfold rowsOf
    rw [List.map_map]
    rfl
  rw [vals] at pm
  obtain ⟨M, pM, eM⟩ := perm_back pm ks rfl
  have lM : vs.length < 64 := by rw [eM, List.length_map, pM.length_eq]; exact few
  refine wpAny_bind (wpAny_newList ?_ (by rw [sizeLine_eq]; omega))
  have at_ : (s1.heap.push (seqObj "list" vs.toArray 0)).get? s1.heap.objs.size = some (seqObj "list" vs.toArray 0) := Heap.get?_push_size _ rfl
  have tk : ∀ z ∈ ks, TS.TupInts (s1.heap.push (seqObj "list" vs.toArray 0)) (.ref z.1) z.2 := fun z hz => tupInts_of (P := P) (w := w) (isT_keep (R.tup z hz) fun b u e => Heap.get?_push_of_some _ (k1 b u e))
  have okM : TpsOk (s1.heap.push (seqObj "list" vs.toArray 0)) d B vs := fun v hv => by
    rw [eM] at hv
    obtain ⟨z, hz, rfl⟩ := List.mem_map.mp hv
    have hk := pM.mem_iff.mp hz
    exact ⟨z.2, tk z hk, hB z hk⟩
  refine wpAny_bind (wpAny_holding (wpAny_call_entry slot_list_sort ⟨_, at_, rfl⟩ entry_list_sort (sortW (s := { s1 with heap := s1.heap.push (seqObj "list" vs.toArray 0) }) at_ lM d1 okM (fun v => rk B (TS.intsOf (s1.heap.push (seqObj "list" vs.toArray 0)) v)) (fun v hv ns t => by
    show rk B (TS.intsOf (s1.heap.push (seqObj "list" vs.toArray 0)) v) = rk B ns
    rw [t.ints]) fun out a1 a2 => ⟨_, rfl, ?_⟩) (args_list_sort _)))
  obtain ⟨c, hc⟩ := sortedHeap_at (vs := vs) (out := out) at_
  obtain ⟨L, pL, eL⟩ := perm_back a1 M eM
  refine wpAny_pure ⟨_, rfl, q _ s1.heap.objs.size out c L (fun b u e => ?_) gg oo up hc eL (pL.trans pM) (ranks eL (pL.trans pM) tk a2)⟩
  have e1 := k1 b u e
  have lt := Heap.lt_size e1
  show (sortedHeap (s1.heap.push (seqObj "list" vs.toArray 0)) s1.heap.objs.size vs out).get? b = some u
  rw [sortedHeap_old (Nat.ne_of_lt lt) (by rw [size_push']; exact Nat.lt_succ_of_lt lt)]
  exact Heap.get?_push_of_some _ e1
theorem cr_sortWS {X : Cx} {d : Nat} {B : Int} (hc : X.calm = true) (d1 : 1 ≤ d) : CallR X (.builtin "sorted") (rSortWS X.K X.prog X.w d B) := by
  intro pins s σ H vs us Q I r h
  obtain ⟨a, ks, rfl, ha, tp, q⟩ := h
  have R0 : SetT0 X.prog X.w s.heap a ks := (I.hok a _ ha).1
  obtain ⟨es, ep, t, R⟩ := R0.full fun p hp => I.isT (tp p hp).1
  rw [Vals.ref1 r]
  refine sortedWS R (I.ok.hd hc) d1 (fun p hp => (tp p hp).2) fun s2 p out c L k gg oo up at_ eo pm pw => ?_
  have few : L.length < 64 := pm.length_eq ▸ R.few
  have nw : H p = none := I.hok.fresh up
  have len : (L.map fun z => V.ref z.1).length ≤ sizeLine := by
    rw [List.length_map, sizeLine_eq]
    omega
  have vl : Vals (L.map fun z => V.ref z.1) out.toList := eo ▸ vals_of_refs L
  have es2 : s2 = { s with heap := s2.heap, gens := s2.gens, drawn := s2.drawn, toks := s2.toks } := by
    obtain ⟨_, _, _, _, _⟩ := s2
    obtain ⟨_, _, _, _, _⟩ := s
    cases oo
    rfl
  have J : Inv X pins σ (upd H p (.lst (L.map fun z => V.ref z.1))) { s with heap := s2.heap, gens := s2.gens, drawn := s2.drawn, toks := s2.toks } :=
    I.call (ch := []) (Un.laid k up nw) (I.hok.laid k up ⟨len, out.toList, c, vl, at_⟩) (by rw [gg]; exact I.bare) (fun _ z => nomatch z)
  rw [es2]
  exact ⟨.ref p, _, J, rfl, q L p pm ((pm.map (·.2)).nodup_iff.mpr R.nd) few pw nw⟩
end L2.Tb
set_option Elab.async false
set_option linter.all false
set_option maxRecDepth 100000
set_option maxHeartbeats 4000000
/-! {e for x in ..}, e a tuple of ints -/
namespace L2.Tb
open PySem PySem.Spec PySem.Calls PyProof.Rows PpSet
section
variable {P : Program} {w : World} {A : Around} {E : Value → Shared → Prop} {s : Shared} {a x : Addr} {k : List Int} {L : List (Addr × List Int)}
/-- what L becomes by k at x -/
def Added (L L2 : List (Addr × List Int)) (x : Addr) (k : List Int) : Prop := (k ∈ L.map (·.2) → L2 = L) ∧ (k ∉ L.map (·.2) → L2.Perm ((x, k) :: L))
theorem setT_add {es : Array (Int × Value)} {ep : Nat} {t : SetTable} {Q : Value → Shared → Prop} (R : SetTR P w s.heap a L es ep t) (kx : IsT P w s.heap k x) (hu : A.units + 3 < cLine) (few : L.length + 1 < 64)
    (q : ∀ h2 tk L2 es2 ep2 t2, Heap.SameBut a s.heap h2 → SetTR P w h2 a L2 es2 ep2 t2 → Added L L2 x k → Q .none { s with heap := h2, toks := tk }) : wpAny (model P w) A (call (.builtin "set.add") [.ref a, .ref x]) Q E s := by
  obtain ⟨o, g1, g2, g3⟩ := R.ob
  refine wpAny_call_entry F.slot_set_add ⟨o, g1, g2.1⟩ F.entry_set_add ?_ (F.args_set_add_2 _ _)
  unfold Builtin.«set.add» Builtin.Frozenset.oneOther
  simp only [List.isEmpty_nil, bind_assoc]
  unfold Builtin.Frozenset.addrOf setAdd
  refine wpAny_bind (wpAny_pure ?_)
  try dsimp only
  refine wpAny_bind (wpAny_pure ?_)
  try dsimp only
  refine wpAny_bind (wpAny_holding (wpAny_bind (wpAny_pyHash_tuple (by first | exact Nat.lt_of_le_of_lt (Nat.le_add_right _ 3) hu | (show A.units + 1 < cLine; omega) | (show A.units + 2 < cLine; omega)) kx ?_)))
  refine add_at (s := { s with toks := s.toks + (k.length + 1) }) R kx (by first | exact Nat.lt_of_le_of_lt (Nat.le_add_right _ 3) hu | (show A.units + 1 < cLine; omega) | (show A.units + 2 < cLine; omega)) few fun b h2 L2 es2 ep2 t2 sb R2 c1 c2 => ?_
  show wpAny _ _ (ret Value.none) _ _ _
  exact wpAny_pure ⟨_, rfl, q h2 _ L2 es2 ep2 t2 sb R2 ⟨c1, c2⟩⟩
end
section
variable {X : Cx}
theorem addT_ok {pins : List (Addr × Obj)} {σ : L2.St} {H : Hp} {s : Shared} {E : Value → Shared → Prop} {D x : Addr} {k : List Int} {L : List (Addr × List Int)} {Q : Value → Shared → Prop} (I : Inv X pins σ H s) (hD : H D = some (SetTO X.prog X.w D L))
    (tp : ∀ p ∈ L, SqT X.K H p.1 (p.2.map V.int)) (hx : SqT X.K H x (k.map V.int)) (hu : X.A.units + 64 < cLine) (few : L.length + 1 < 64)
    (q : ∀ s2 L2, Added L L2 x k → Inv X pins σ (upd H D (SetTO X.prog X.w D L2)) s2 → Q .none s2) : wpAny (model X.prog X.w) X.A (call (.builtin "set.add") [.ref D, .ref x]) Q E s := by
  have R0 : SetT0 X.prog X.w s.heap D L := (I.hok D _ hD).1
  obtain ⟨es, ep, t, R⟩ := R0.full fun p hp => I.isT (tp p hp)
  refine setT_add R (I.isT hx) (by omega) few fun h2 tk L2 es2 ep2 t2 sb R2 ad => ?_
  have there : ∃ u, h2.get? D = some u := by
    obtain ⟨u, e, _⟩ := R2.ob
    exact ⟨u, e⟩
  exact q _ L2 ad (I.write (e := D) (t' := tk) (by rw [hD]; trivial) (.inl rfl) (fun b u hb hu => (sb.2 b hb).trans hu) there (setTO_new R2.t0))
/-- one turn's wish: the new element joins -/
def joins (P : Program) (w : World) (K : PySem.W.Frag) (D : Addr) (Nx : Hp → Prop) : V → Hp → Prop := fun y H => ∃ (x : Addr) (k : List Int) (L : List (Addr × List Int)), y = .ref x ∧ SqT K H x (k.map V.int) ∧ H D = some (SetTO P w D L) ∧ (∀ p ∈ L, SqT K H p.1 (p.2.map V.int)) ∧ L.length + 1 < 64 ∧
  ∀ L2, Added L L2 x k → Nx (upd H D (SetTO P w D L2))
def tScT (P : Program) (w : World) (K : PySem.W.Frag) (wi : TI) (g : TG) (tt : TT) (te : TE) (vs : List Nat) : TE := fun σ H Q => wi σ H fun J H1 => ∀ D, H1 D = none → ∃ W : Nat → Nat → Hp → Prop, (∃ m, W 0 m (upd H1 D (SetTO P w D []))) ∧ ∀ i m G, W i m G →
  (J.stop i G ∧ Q (.ref D) G) ∨ (J.go i G ∧ ∃ Nx : Hp → Prop, (∀ G2, Nx G2 → ∃ m2, m2 < m ∧ W (i + 1) m2 G2) ∧ ∀ x G2, J.yld i G x G2 → g x (wipe σ vs) G2 fun σ2 G3 => wipe σ2 vs = wipe σ vs ∧ tt σ2 G3 fun b G4 => if b = true then te σ2 G4 (joins P w K D Nx) else Nx G4)
theorem pe_scT {elt tg iter : Expr} {ifs : List Expr} {scope : Scope} {own : List (PySem.Str × Nat)} {pos : Pos} {wi : TI} {g : TG} {tt : TT} {te : TE} (calm : X.calm = true) (nd : X.N.Nodup) (hu : X.A.units + 64 < cLine) (walk : PI X tg iter wi) (ok : BlkOk X.N X.env.scope scope own)
    (hg : ∀ (s : Shared) (H : Hp) (C : Addr) (cl : List (PySem.Str × Addr)) (fp : List Addr), PG (X.blk s H scope (compEnvC scope cl C X.env) fp) tg g) (ht : ∀ (s : Shared) (H : Hp) (C : Addr) (cl : List (PySem.Str × Addr)) (fp : List Addr), PTs (X.blk s H scope (compEnvC scope cl C X.env) fp) ifs tt)
    (he : ∀ (s : Shared) (H : Hp) (C : Addr) (cl : List (PySem.Str × Addr)) (fp : List Addr), PE (X.blk s H scope (compEnvC scope cl C X.env) fp) elt te) (fs : ∀ x, foldedSetIterable iter X.env x = pure x := by intro _; rfl) :
    PE X (.SetComp elt [⟨tg, iter, ifs, 0⟩] scope pos) (tScT X.prog X.w X.K wi g tt te (own.map (·.2))) := by
  refine ⟨fun pins s σ H Q I h => ?_⟩
  rw [eval_SetComp]
  have caps : ∀ y ∈ scope.names, y.2 = .free → ∃ c, X.env.cells.lookup y.1 = some c := fun y my ey =>
    (ok.free y my ey).elim (fun z => I.ok.has _ (.inl z)) fun z => I.ok.has _ (.inr z)
  refine wpAny_comprehension_free (use := none) rfl fs (closure_ok caps) ok.kind (fun y my ey => by rw [ok.uniq y my, ey]) (thn (walk.run pins s σ H _ I h) fun xv sa ha => thn ha fun itv sb hb => ?_)
  obtain ⟨it, fp, tn, J, Hb, e0, Ib, T, stb, fpb, q⟩ := hb
  subst e0
  refine newSet_ok (newEnv_comp ?_)
  generalize dD : sb.heap.objs.size = D
  have newD : Hb D = none := Ib.hok.fresh (Nat.le_of_eq dD)
  obtain ⟨W, ⟨m0, w0⟩, turn⟩ := q D newD
  let emp : Obj := { cls := .type "set", dict := none, data := .set #[] 0 (.fresh 0 0 (!X.w.params.followText "set-order")) }
  generalize dsc : ({ sb with heap := sb.heap.push emp } : Shared) = sc
  have hsc : sc.heap = sb.heap.push emp := by rw [← dsc]
  have Ic : Inv X pins σ (upd Hb D (SetTO X.prog X.w D [])) sc := by
    rw [← dsc, ← dD]
    refine Ib.laid (t' := sb.toks) (fun b o e => Heap.get?_push_of_some _ e) (Nat.le_refl _) (setTO_new (SetTR.t0 (setTR_fresh (Heap.get?_push_size _ rfl))))
  have small : ∀ b ∈ fp, b < sb.heap.objs.size := fun b mb => by
    obtain ⟨o, e, _⟩ := T.obj _ _ stb b mb
    exact Heap.lt_size e
  have fpc : ∀ b ∈ fp, FpOk X pins (upd Hb D (SetTO X.prog X.w D [])) b ∧ b < sc.heap.objs.size := fun b mb => by
    have lt := small b mb
    have nb : b ≠ D := by rw [← dD]; exact Nat.ne_of_lt lt
    exact ⟨⟨(upd_ne nb).trans (fpb b mb).1, (fpb b mb).2⟩, by rw [hsc, Heap.size_push]; exact Nat.lt_succ_of_lt lt⟩
  have stc : tn 0 sc.heap := T.keep _ _ _ stb fun b _ o e => by rw [hsc]; exact Heap.get?_push_of_some _ e
  have Id := block_start Ic ok nd fpc
  let cl := cellsFrom (sc.heap.objs.size + 1) scope.names (cloFrom X.env.cells scope.names [])
  have pg := hg sc (upd Hb D (SetTO X.prog X.w D [])) sc.heap.objs.size cl fp
  have pt := ht sc (upd Hb D (SetTO X.prog X.w D [])) sc.heap.objs.size cl fp
  have pe := he sc (upd Hb D (SetTO X.prog X.w D [])) sc.heap.objs.size cl fp
  show codeAny _ _ (.compStart (.SetComp elt [⟨tg, iter, ifs, 0⟩] scope pos) 0 (.ref it) (.ref D) (compEnvC scope cl sc.heap.objs.size X.env)) (compPost (model X.prog X.w) X.A X.xe none _ (.ref D) sc.heap.objs.size) { sc with heap := pushCells (sc.heap.push { cls := .type "dict", data := .dict #[] }) scope.names }
  have fpn : ∀ b ∈ fp, (upd Hb D (SetTO X.prog X.w D [])) b = none := fun b mb => (fpc b mb).1.1
  generalize dce : compEnvC scope cl sc.heap.objs.size X.env = ce at Id pg pt pe ⊢
  have loc : ce.locals = sc.heap.objs.size := by rw [← dce]; rfl
  generalize dHc : upd Hb D (SetTO X.prog X.w D []) = Hc at Ic Id pg pt pe w0 fpn fpc
  generalize dsd : ({ sc with heap := pushCells (sc.heap.push { cls := .type "dict", data := .dict #[] }) scope.names } : Shared) = sd at Id ⊢
  have std : tn 0 sd.heap := T.keep _ _ _ stc fun b _ o e => by rw [← dsd]; exact pushCells_keeps _ _ _ _ (Heap.get?_push_of_some _ e)
  have stays : ∀ {σ2 : L2.St} {G : Hp} {z : Shared}, Inv (X.blk sc Hc scope ce fp) [] σ2 G z → (∀ b ∈ fp, G b = none) → ∀ b ∈ fp, FpOk (X.blk sc Hc scope ce fp) [] G b := fun {σ2 G z} Iz nz b mb =>
    ⟨nz b mb, (Iz.ok.exf b mb).1, Iz.ok.exfs b mb, .inl mb, fun x c e => (Iz.ok.exf b mb).2 x c e, fun p mp => by cases mp⟩
  refine codeAny_compStart_set ?loop (T.self X.A 0 _ _ _ std ?loop)
  case loop =>
    refine compLoopS_any (fun n z => ∃ i G, Inv (X.blk sc Hc scope ce fp) [] (wipe σ (own.map (·.2))) G z ∧ tn i z.heap ∧ (∀ b ∈ fp, G b = none) ∧ W i n G) ?_ m0 ⟨0, Hc, Id, std, fpn, w0⟩
    rintro n se ⟨i, He, Ie, ste, fpe, we⟩
    rcases turn i n He we with ⟨halt, fin⟩ | ⟨goes, Nx, nxt, body⟩
    · refine thnF (T.done (X.blk sc Hc scope ce fp) rfl rfl rfl calm i [] se _ He (fun _ _ => False) Ie (stays Ie fpe) ste halt) fun r sf ⟨er, If⟩ => ?_
      subst er
      have Ig : Inv X pins σ He sf := Ic.call' (ch := fp) If.os If.base If.hok If.bare fun b mb => ⟨(fpc b mb).1.2.2.2.1, (fpc b mb).1.2.1, (fpc b mb).1.2.2.2.2.1, (fpc b mb).1.2.2.2.2.2⟩
      have nC : He sc.heap.objs.size = none := loc ▸ (show He ce.locals = none from If.free)
      obtain ⟨mm, hn, _⟩ := If.loc
      have hn : sf.heap.Ns sc.heap.objs.size mm := loc ▸ (show sf.heap.Ns ce.locals mm from hn)
      obtain ⟨y0, y1, y2, y3, y4, y5⟩ := Ic.fpOk (Nat.le_refl _) nC
      exact ⟨mm, hn, fun h3 sm => ⟨.ref D, He, Ig.turned (t' := sf.toks) (fun b o nb e => (sm.2 b nb).trans e) y0 y1 y3 y4 y5, rfl, fin⟩⟩
    · refine thnF (T.item (X.blk sc Hc scope ce fp) rfl rfl rfl calm i [] se _ He (fun _ _ => False) Ie (stays Ie fpe) ste goes) fun r sf ⟨u, er, hf⟩ => ?_
      subst er
      refine thnF hf fun _ sg ⟨x, Hg, Ig, rg, yg, stg, ng⟩ => ?_
      have Ip := Ig.pinned (stays Ig ng) (T.obj _ _ stg)
      refine thnF (pg.run _ sg _ Hg x u _ Ip rg (body x Hg yg)) fun _ sh ⟨σh, Hh, Ih, wh, qh⟩ => ?_
      refine thnF (pt.run _ sh σh Hh _ Ih qh) fun b si ⟨Hi, Ii, qi⟩ => ?_
      have close : ∀ {z : Shared} {G : Hp}, Inv (X.blk sc Hc scope ce fp) ([] ++ pinsAt fp sg.heap) σh G z → Nx G → ∃ m, m < n ∧ ∃ i G, Inv (X.blk sc Hc scope ce fp) [] (wipe σ (own.map (·.2))) G z ∧ tn i z.heap ∧ (∀ b ∈ fp, G b = none) ∧ W i m G := fun {z G} Iz nx => by
        obtain ⟨m2, lm, w2⟩ := nxt G nx
        have pin : ∀ b ∈ fp, ∀ o, sg.heap.get? b = some o → z.heap.get? b = some o ∧ G b = none := fun b mb o e => by
          have y := Iz.pin (b, o) (List.mem_append_right _ (List.mem_append_right _ (mem_pinsAt mb e)))
          exact ⟨y.1, y.2.1⟩
        refine ⟨m2, lm, i + 1, G, (Iz.unpinned (pins := [])).weak (by rw [← wh, wipe_length]) (fun j v e => ?_), T.keep _ _ _ stg fun b mb o e => (pin b mb o e).1, fun b mb => ?_, w2⟩
        · rw [← wh] at e
          exact (wipe_some e).1
        · obtain ⟨o, e, _⟩ := T.obj _ _ stg b mb
          exact (pin b mb o e).2
      cases b with
      | false =>
        simp only [Bool.false_eq_true, if_false] at qi ⊢
        exact close Ii qi
      | true =>
        simp only [if_true] at qi ⊢
        refine thnF (pe.run _ si σh Hi _ Ii qi) fun z sj ⟨yv, Hj, Ij, rj, xa, kk, L, ey, hx, hD, tp, few, nx⟩ => ?_
        subst ey
        cases (show z = Value.ref xa from rj)
        exact addT_ok (X := X.blk sc Hc scope ce fp) Ij hD tp hx hu few fun sk L2 ad Ik => close Ik (nx L2 ad)
end
/-- over a tuple that stands -/
theorem scT_tup {P : Program} {w : World} {K : PySem.W.Frag} {a : Addr} {xs : List V} {g : TG} {tt : TT} {te : TE} {vs : List Nat} {σ : L2.St} {H1 : Hp} {D : Addr} {Qd : Hp → Prop} (Pv : Nat → Hp → Prop) (h0 : Pv 0 (upd H1 D (SetTO P w D []))) (hl : ∀ i H, i ≤ xs.length → Pv i H → SqT K H a xs)
    (hs : ∀ i x H, xs[i]? = some x → Pv i H → g x (wipe σ vs) H fun σ2 H2 => wipe σ2 vs = wipe σ vs ∧ tt σ2 H2 fun b H3 => if b = true then te σ2 H3 (joins P w K D (Pv (i + 1))) else Pv (i + 1) H3) (hd : ∀ H, Pv xs.length H → Qd H) :
    ∃ W : Nat → Nat → Hp → Prop, (∃ m, W 0 m (upd H1 D (SetTO P w D []))) ∧ ∀ i m G, W i m G →
      ((Itt K a).stop i G ∧ Qd G) ∨ ((Itt K a).go i G ∧ ∃ Nx : Hp → Prop, (∀ G2, Nx G2 → ∃ m2, m2 < m ∧ W (i + 1) m2 G2) ∧ ∀ x G2, (Itt K a).yld i G x G2 → g x (wipe σ vs) G2 fun σ2 G3 => wipe σ2 vs = wipe σ vs ∧ tt σ2 G3 fun b G4 => if b = true then te σ2 G4 (joins P w K D Nx) else Nx G4) := by
  refine ⟨fun i m G => m + i = xs.length ∧ Pv i G, ⟨xs.length, rfl, h0⟩, fun i m G ⟨em, p⟩ => ?_⟩
  have st := hl i G (by omega) p
  rcases Nat.lt_or_ge i xs.length with lt | ge
  · refine .inr ⟨⟨xs, xs[i], st, List.getElem?_eq_getElem lt⟩, Pv (i + 1), fun G2 p2 => ⟨m - 1, by omega, by omega, p2⟩, fun x G2 y => ?_⟩
    obtain ⟨e, y⟩ := y
    subst e
    exact hs i x _ (y xs st) p
  · have e : i = xs.length := by omega
    exact .inl ⟨⟨xs, st, by omega⟩, hd G (e ▸ p)⟩
end L2.Tb
set_option Elab.async false
set_option linter.all false
set_option maxRecDepth 100000
set_option maxHeartbeats 4000000
/-! calls of defs that ask for an unguarded stack; o.m(k = v) -/
namespace L2.Tb
open PySem PySem.Spec PyProof.Rows
/-- a def that keeps its promise where nothing is guarded (repr of lists and tuples asks that) -/
structure CalG (P : Program) (w : World) (K : PySem.W.Frag) (mg : Str → Option Value) (base : Heap) (k : Nat) (x : Str) (sp : Sp) : Prop where
  ex : ∃ (f : Addr) (fd : FuncData) (ps : List Str), (∀ vs H Q E, sp vs H Q E → vs.length = ps.length) ∧ (∀ A, Room k A → A.guards = some [] → RunsAt P w K mg base f fd ps sp A) ∧ mg x = some (.ref f) ∧ PySem.W.keepIn K (.ref f) = true ∧ Binds K fd ps []
section
variable {P : Program} {w : World} {K : PySem.W.Frag} {mg : Str → Option Value} {base : Heap} {x : Str} {st : Stmt} {f : Addr} {fd : FuncData} {N ps : List Str} {k : Nat} {sp : Sp}
theorem Cal.g (c : Cal P w K mg base k x sp) : CalG P w K mg base k x sp := by
  obtain ⟨f, fd, ps, F, a, b, d⟩ := c.ex
  exact ⟨f, fd, ps, F.len, fun A hr _ outer s H args us vs Q E e0 hb r _ h => F.run A outer s H args us vs Q E hr e0 hb r h, a, b, d⟩
theorem calG_mk (F : FnP K x st f fd) (hm : mg x = some (.ref f)) (S : FnScope N ps (defScope st))
    (hb : ∀ (kV doc pm : Value) (an : Option Addr) (cdv ct : Value) (us : List Value), us.length = ps.length → bindArgs (PySem.W.fnOf x x (defArgs st) (defBody st) (defScope st) .none kV doc pm an cdv ct) ⟨us, []⟩ = pure (ps.zip us))
    (len : ∀ vs H Q E, sp vs H Q E → vs.length = ps.length)
    (hbody : ∀ (cdv : Value) (A : Around) (outer : List Env) (s : Shared) (H : Hp) (vs : List V) (Q : VK) (E : XK), (A.deeper (envOfC x (defScope st) s.heap.objs.size f cdv)).guards = some [] → Room k (A.deeper (envOfC x (defScope st) s.heap.objs.size f cdv)) → sp vs H Q E →
      ∃ t, PSs (cxOf L2.CX0 P w K mg base N x (defScope st) f cdv A outer s H E).nox (defBody st) t ∧ t { nx := fun _ H' => Q .non H', rt := Q } (start N vs) H) : CalG P w K mg base (k + 1) x sp :=
  ⟨f, fd, ps, len, fun A hr hg => runs_body F S hr fun cdv outer s H vs Q E hr2 h => let ⟨t, a, b⟩ := hbody cdv A outer s H vs Q E hg hr2 h; ⟨t, a.nox, b⟩, hm, F.kp, F.bindsN hb⟩
/-- .. its code object known -/
theorem calG_mkC {at_ : Str × Option Str} (F : FnP K x st (He.fAd K at_) fd) (hm : mg x = some (.ref (He.fAd K at_))) (S : FnScope N ps (defScope st))
    (hb : ∀ (kV doc pm : Value) (an : Option Addr) (cdv ct : Value) (us : List Value), us.length = ps.length → bindArgs (PySem.W.fnOf x x (defArgs st) (defBody st) (defScope st) .none kV doc pm an cdv ct) ⟨us, []⟩ = pure (ps.zip us))
    (len : ∀ vs H Q E, sp vs H Q E → vs.length = ps.length)
    (hbody : ∀ (cdv : Value) (A : Around) (outer : List Env) (s : Shared) (H : Hp) (vs : List V) (Q : VK) (E : XK), cdv = .ref (He.codeOf K at_) → (A.deeper (envOfC x (defScope st) s.heap.objs.size (He.fAd K at_) cdv)).guards = some [] → Room k (A.deeper (envOfC x (defScope st) s.heap.objs.size (He.fAd K at_) cdv)) → sp vs H Q E →
      ∃ t, PSs (cxOf L2.CX0 P w K mg base N x (defScope st) (He.fAd K at_) cdv A outer s H E).nox (defBody st) t ∧ t { nx := fun _ H' => Q .non H', rt := Q } (start N vs) H) : CalG P w K mg base (k + 1) x sp := by
  refine ⟨_, fd, ps, len, fun A hr hg => ?_, hm, F.kp, F.bindsN hb⟩
  obtain ⟨oc, od, dV, kV, doc, pm, an, cdv, ct, osl, rfl, lk, hcd, _, _⟩ := id F.ex
  obtain ⟨c, rfl⟩ := He.codeIn_ref hcd
  have hc : (Value.ref c) = .ref (He.codeOf K at_) := by rw [He.codeOf_eq lk rfl]
  intro outer s H args us vs Q E e0 hbd r hl hsp
  refine LamX.run_ofS (CX := L2.CX0) (Q := Q) (E := E) (N := N) lk hcd S hr e0 hbd r hl fun hr2 => ?_
  obtain ⟨t, a, b⟩ := hbody _ A outer s H vs Q E hc hg hr2 hsp
  exact ⟨t, a.nox, b⟩
end
section
variable {X : Cx} {k j : Nat} {x : Str} {sp : Sp} {p pos : Pos} {e : Expr} {es : List Expr} {t : TA}
theorem pe_calG (c : CalG X.prog X.w X.K X.mg X.base k x sp) (hr : Room j X.A) (hk : k ≤ j) (free : X.A.guards = some []) (hg : Gl X x) (ha : PA X (e :: es) t)
    (hdb : (x == ("__debug__" : Str)) = false := by decide) (he : starEach (e :: es) X.env = (false, eval e X.env) :: starEach es X.env := by rfl) (hpl : (backTo pos (starEach es X.env)).any (·.1) = false := by rfl) :
    PE X (.Call (.Name x p) (e :: es) [] pos) (tCall sp [] E0 t) := by
  obtain ⟨f, fd, ps, len, R, hm, kp, b⟩ := c.ex
  refine ⟨fun pins s σ H Q I h => wpAny_Call_Name_kw (ld_glob I hg hm (PySem.W.callWith_K (h₀ := X.base) I.ok.mod.kin kp (thn (ha.run pos pins s σ H _ I h) fun us s1 hh => ?_) he hpl) hdb)⟩
  obtain ⟨vs, H1, I1, r, q⟩ := hh
  rw [List.append_nil] at q
  have hl := len _ _ _ _ q
  refine ⟨I1.kIn, wpAny_call (codeAny_mono (R X.A (hr.mono hk) free X.stack s1 H1 ⟨us, []⟩ us vs Q E0 I1.env0 ?_ r hl q) fun r2 s2 z => ?_)⟩
  · have y := b s1 us I1.kIn (by rw [List.append_nil, ← r.length]; exact hl)
    rw [List.append_nil] at y
    exact y
  · match r2, z with
    | .error e, z => exact pass0 pins σ H1 s1 e s2 I1 z
    | .ok (.ret u), z => exact I1.after z
end
section
variable {X : Cx} {CX : CXT} {k : Nat} {C f : Addr} {fd : FuncData} {ps ks : List Str} {sp : Sp} {E : XK} {o : Expr} {kws : List Keyword} {m : Str} {pos apos : Pos} {ta : TE} {tk : TA} {pl : Sem Bool}
def tMethK (C : Addr) (m : Str) (sp : Sp) (E : XK) (ta : TE) (tk : TA) : TE := fun σ H Q => ta σ H fun x H1 => ∃ a dx fs, x = .ref a ∧ H1 a = some (.ins C dx fs) ∧ fs.lookup m = none ∧ tk σ H1 fun zs H2 => sp (.ref a :: zs) H2 Q E
/-- o.m(k = v, ..), all of m's parameters by name -/
theorem pe_methK (he : PE X o ta) (c : Cls X.K C) (hm : Meth X.K C m f) (F : FnOk X.prog X.w X.K X.mg X.base CX k f fd ps sp) (hr : Room k X.A) (hx : Passes CX X E) (hkw : PK X kws tk) (hl : ps.length = ks.length + 1)
    (hb : ∀ (sh : Shared) (a : Addr) (zs : List Value), zs.length = ks.length → BindsTo sh fd ⟨[.ref a], ks.zip zs⟩ (ps.zip (Value.ref a :: zs)))
    (hall : (backToKw pos (keywordEach kws X.env)).all (·.1.isSome) = true := by rfl) (hks : (backToKw pos (keywordEach kws X.env)).filterMap (·.1) = ks := by rfl)
    (hpl : ((backTo pos (starEach [] X.env)).any (·.1) || (backToKw pos (keywordEach kws X.env)).any (·.1.isNone)) = false := by rfl)
    (ht : eval (.Call (.Attribute o m apos) [] kws pos) X.env = (do
      let ov ← eval o X.env
      standAt apos.atName
      let (f, first) ← holding [ov] (getMethod ov m pl)
      callWith pos f first (backTo pos (starEach [] X.env)) (backToKw pos (keywordEach kws X.env))) := by rfl) :
    PE X (.Call (.Attribute o m apos) [] kws pos) (tMethK C m sp E ta tk) := by
  refine ⟨fun pins s σ H Q I h => PySem.W.methodCall_KW (pl := pl) (thn (he.run pins s σ H _ I h) fun u s1 hh => ?_) ht⟩
  obtain ⟨x, H1, I1, rx, a, dx, fs, ex, ea, lk, q⟩ := hh
  subst ex
  obtain rfl : u = Value.ref a := rx
  refine getmeth_ok I1 ea c hm lk (PySem.W.callWith_KW0 (h₀ := X.base) (first := [.ref a]) I.ok.mod.kin hm.kp hall (thn (hkw.run pos _ s1 σ H1 _ I1 q) fun ws s2 hh => ?_) hpl)
  obtain ⟨zs, H2, I2, rz, q2⟩ := hh
  refine ⟨I2.kIn, ?_⟩
  rw [hks]
  have hw : ws.length = ks.length := by
    have z := F.len _ _ _ _ q2
    rw [List.length_cons, hl] at z
    rw [← rz.length]
    omega
  refine wpAny_call (codeAny_mono (F.run X.A X.stack s2 H2 ⟨[.ref a], ks.zip ws⟩ (.ref a :: ws) (.ref a :: zs) Q E hr I2.env0 (hb s2 a ws hw) (.cons rfl rz) q2) fun r s3 z => ?_)
  match r, z with
  | .error e, z => exact hx pins σ H2 s2 e s3 I2 z
  | .ok (.ret u2), z => exact I2.after z
end
end L2.Tb
set_option Elab.async false
set_option linter.all false
set_option maxRecDepth 100000
set_option maxHeartbeats 4000000
/-! x in t, x not in t: t a tuple of data of any depth -/
namespace L2.Tb
open PySem PySem.Spec PyProof.Rows
variable {X : Cx}
def rInDT (K : PySem.W.Frag) (neg : Bool) : R2 := fun x y H Q => ∃ d ds, Dp K H x d ∧ Dp K H y (.tuple ds) ∧ SeqAt.shaped d = true ∧ SeqAt.shaped (.tuple ds) = true ∧ Q (.bl (if neg = true then !(ds.any fun z => PyData.eqv z d) else ds.any fun z => PyData.eqv z d)) H
theorem room_inDT {A : Around} {ds : List PyData} {d : PyData} (sd : SeqAt.shaped d = true) (hu : A.units + 65 < cLine) : A.units + 1 + min (PyData.depthAll ds) d.depth < cLine := by
  have h := SeqAt.depth_of_shaped sd
  have h2 := Nat.min_le_right (PyData.depthAll ds) d.depth
  omega
theorem op_inDT (hu : X.A.units + 65 < cLine) : OpR X (compareOp .In) (rInDT X.K false) := by
  intro pins s σ H x y v u Q I rx ry h
  obtain ⟨d, ds, hd, he, sd, se, q⟩ := h
  obtain ⟨as, r1⟩ := Dp.reads I d x v hd rx
  obtain ⟨bs, r2⟩ := Dp.reads I (.tuple ds) y u he ry
  exact SeqAt.in_tuple_reads r2 r1 (by simpa only [PyData.canLay0] using SeqAt.canLay_of_shaped se) (SeqAt.canLay_of_shaped sd) (room_inDT sd hu) ⟨.bl _, H, I, rfl, q⟩
theorem op_notInDT (hu : X.A.units + 65 < cLine) : OpR X (compareOp .NotIn) (rInDT X.K true) := by
  intro pins s σ H x y v u Q I rx ry h
  obtain ⟨d, ds, hd, he, sd, se, q⟩ := h
  obtain ⟨as, r1⟩ := Dp.reads I d x v hd rx
  obtain ⟨bs, r2⟩ := Dp.reads I (.tuple ds) y u he ry
  exact SeqAt.notIn_tuple_reads r2 r1 (by simpa only [PyData.canLay0] using SeqAt.canLay_of_shaped se) (SeqAt.canLay_of_shaped sd) (room_inDT sd hu) ⟨.bl _, H, I, rfl, q⟩
end L2.Tb
set_option Elab.async false
set_option linter.all false
set_option maxRecDepth 100000
set_option maxHeartbeats 4000000
/-! for z in d: d a dict of the head with text keys -/
namespace L2.Tb
open PySem PySem.Spec PyProof.Rows RZ
def Ikd (ks : List Str) : It := ⟨fun i _ => i < ks.length, fun i H x H' => H' = H ∧ ∃ z, ks[i]? = some z ∧ x = .str z, fun i _ => ks.length ≤ i⟩
structure KeysAt (K : PySem.W.Frag) (w : World) (d : Addr) (ks : List Str) : Prop where
  ex : ∃ es n, KDict K w d es n ∧ es.toList.map keyS = ks.map some
theorem keys_at {K : PySem.W.Frag} {w : World} {d : Addr} {ks : List Str} {es : Array DictEntry} {n : Nat} (h : keysB K d ks = true) (D : KDict K w d es n) : KeysAt K w d ks := by
  refine ⟨es, n, D, ?_⟩
  unfold keysB at h
  rw [D.at_] at h
  exact of_decide_eq_true h
section
variable {P : Program} {w : World} {K : PySem.W.Frag} {tg : Expr} {d : Addr} {es : Array DictEntry} {n : Nat} {ks : List Str}
theorem turn_kd (it : Addr) (D : KDict K w d es n) (hk : es.toList.map keyS = ks.map some) : Turn P w K tg (Ikd ks) [it] it (fun i h => h.IsKeyIter it d i ks.length n) where
  mem := by simp
  obj := fun i h st b hb => by
    have e : b = it := by simpa using hb
    subst e
    obtain ⟨oi, e, c, dd⟩ := st
    exact ⟨oi, e, fun v z => by rw [dd] at z; cases z⟩
  keep := fun i h h' st k => st.at fun oi e => k it (by simp) oi e
  item := by
    intro X hP hw hK hc i pins s σ H E I hf st hi
    subst hP hw hK
    obtain ⟨f0, f1, f2, f3, f4, f5⟩ := hf it (by simp)
    have hgd := I.kIn _ _ D.at_
    have hsz : es.size = ks.length := by
      have := congrArg List.length hk
      simpa using this
    have hi2 : i < ks.length := hi
    obtain ⟨en, hen, z, t, ek, ez⟩ : ∃ en, es[i]? = some en ∧ ∃ z t, en.key = .str z t ∧ ks[i]? = some z := by
      have hi3 : i < es.size := by omega
      refine ⟨es[i], Array.getElem?_eq_getElem hi3, ?_⟩
      have h := congrArg (fun l : List (Option Str) => l[i]?) hk
      rw [List.getElem?_map, List.getElem?_map, Array.getElem?_toList, Array.getElem?_eq_getElem hi3, List.getElem?_eq_getElem hi2] at h
      simp only [Option.map_some, Option.some.injEq] at h
      unfold keyS at h
      split at h
      · rename_i z t e
        injection h with h
        exact ⟨z, t, e, by rw [List.getElem?_eq_getElem hi2, h]⟩
      · cases h
    refine next_key_item st hgd rfl hsz hen fun h' st' sb => ?_
    have I1 : Inv X pins σ H { s with heap := h' } := I.turned (t' := s.toks) (fun b ob hb e => (sb.2 b hb).trans e) f0 f1 f3 f4 f5
    obtain ⟨oi, e, c, dd⟩ := id st'
    exact ⟨en.key, rfl, go_of (s := { s with heap := h' }) e c dd (by decide) ⟨.str z, H, I1, ⟨t, ek⟩, ⟨rfl, z, ez, rfl⟩, st', fun b hb => (hf b hb).1⟩⟩
  done := by
    intro X hP hw hK hc i pins s σ H E I hf st hi
    subst hP hw hK
    obtain ⟨f0, f1, f2, f3, f4, f5⟩ := hf it (by simp)
    have hgd := I.kIn _ _ D.at_
    have hsz : es.size = ks.length := by
      have := congrArg List.length hk
      simpa using this
    exact next_key_end (I.ok.hd hc) st hgd rfl hsz hi fun h' eb => ⟨rfl, I.turned (t' := s.toks) (fun b ob hb e => eb b ob hb e) f0 f1 f3 f4 f5⟩
  self := fun A i s Q E st h => wpAny_pyIter_keyiter st h
end
def iKd (ks : List Str) (d : Addr) (td : TE) : TI := fun σ H R => td σ H fun x H1 => x = .ref d ∧ R (Ikd ks) H1
theorem pi_kd {X : Cx} {tg e : Expr} {td : TE} {d : Addr} {ks : List Str} (A : KeysAt X.K X.w d ks) (he : PE X e td) : PI X tg e (iKd ks d td) := by
  obtain ⟨es, n, D, hk⟩ := A.ex
  refine ⟨fun pins s σ H R I h => ?_⟩
  refine thn (he.run pins s σ H _ I h) fun u s1 ⟨x, H1, I1, rx, ex, q⟩ => ?_
  subst ex
  obtain rfl : u = Value.ref d := rx
  have hsz : es.size = ks.length := by
    have := congrArg List.length hk
    simpa using this
  refine iter_keys D.low (I1.kIn _ _ D.at_) ⟨rfl, rfl, rfl⟩ rfl (pi_one (tk := s1.toks) I1 _ (turn_kd _ D hk) ⟨_, Heap.get?_push_size _ rfl, rfl, ?_⟩ q)
  rw [hsz] <;> rfl
/-- a walk over its keys -/
theorem walk_kd {ks : List Str} : Walk (Ikd ks) ks.length (fun _ => True) (fun i H v H' => H' = H ∧ ∃ z, ks[i]? = some z ∧ v = .str z) := by
  refine ⟨fun i _ hi _ => hi, fun _ _ => Nat.le_refl _, fun i H v H' _ _ y => y⟩
end L2.Tb
set_option Elab.async false
set_option linter.all false
set_option maxRecDepth 100000
set_option maxHeartbeats 4000000
/-! x op y by the own method of x's class, y of the same class -/
namespace L2.Tb
open PySem PySem.Spec PyProof.Rows
section
variable {X : Cx} {CX : CXT} {C f : Addr} {fd : FuncData} {ps : List Str} {sp : Sp} {k : Nat} {op : Operator}
def rOwnBin (C : Addr) (sp : Sp) : R2 := fun x y H Q => ∃ (a dx : Addr) (fs : List (Str × V)) (c dy : Addr) (gs : List (Str × V)), x = .ref a ∧ y = .ref c ∧ H a = some (.ins C dx fs) ∧ H c = some (.ins C dy gs) ∧ sp [.ref a, .ref c] H Q E0
theorem op_ownBin (F : FnOk X.prog X.w X.K X.mg X.base CX k f fd ps sp) (hr : Room k X.A) (hc : PySem.W.selfFirst X.K C = true) (hs : PySem.W.findIn X.K (.ref C) (PySem.dunder op.info.2) = some (some (.ref f))) (hf : PySem.W.isFn X.K (.ref f) = true) (hb : Binds X.K fd ps []) (hx : Passes CX X E0) :
    OpR X (binaryOp op) (rOwnBin C sp) := by
  intro pins s σ H x y v u Q I rx ry h
  obtain ⟨a, dx, fs, c, dy, gs, rfl, rfl, ea, ec, h⟩ := h
  obtain rfl : v = Value.ref a := rx
  obtain rfl : u = Value.ref c := ry
  obtain ⟨mA, O, _⟩ := ins_get I.hok ea
  obtain ⟨od, J, _⟩ := O.look
  obtain ⟨mC, O2, _⟩ := ins_get I.hok ec
  obtain ⟨od2, J2, _⟩ := O2.look
  obtain ⟨m, hF⟩ := I.fr
  have hl := F.len _ _ _ _ h
  refine PySem.W.binop_K hF I.ok.mod.kin J J2.type hc hs hf (wpAny_call (codeAny_mono (F.run X.A X.stack s H ⟨[.ref a, .ref c], []⟩ [.ref a, .ref c] [.ref a, .ref c] _ E0 hr I.env0 (by
    have z := hb s [.ref a, .ref c] I.kIn (by simpa using hl)
    simpa using z) (.cons rfl (.cons rfl .nil)) h) fun r s' hq => ?_))
  match r, hq with
  | .error e, hq => exact hx pins σ H s e s' I hq
  | .ok (.ret u2), hq =>
    obtain ⟨v2, H', I', rv, q⟩ := I.after hq
    exact cmp_back rv ⟨v2, H', I', rv, q⟩
end
end L2.Tb
set_option Elab.async false
set_option linter.all false
set_option maxRecDepth 100000
set_option maxHeartbeats 4000000
/-! y in x by an own __contains__; bool(x) by an own __bool__; o.f as a target among others; s * n -/
namespace L2.Tb
open PySem PySem.Spec PyProof.Rows
section
variable {X : Cx} {C f : Addr} {fd : FuncData} {ps : List Str} {sp : Sp} {k : Nat}
def rOwnIn (C : Addr) (sp : Sp) : R2 := fun v y H Q => ∃ (a dx : Addr) (fs : List (Str × V)), y = .ref a ∧ H a = some (.ins C dx fs) ∧ sp [.ref a, v] H (fun r H' => ∃ b, r = .bl b ∧ Q (.bl b) H') E0
theorem op_ownIn (F : FnOk X.prog X.w X.K X.mg X.base L2.CX0 k f fd ps sp) (hr : Room k X.A) (hs : PySem.W.findIn X.K (.ref C) "__contains__" = some (some (.ref f))) (hf : PySem.W.isFn X.K (.ref f) = true) (hb : Binds X.K fd ps []) : OpR X (compareOp .In) (rOwnIn C sp) := by
  intro pins s σ H x y v u Q I rx ry h
  obtain ⟨a, dx, fs, rfl, ea, h⟩ := h
  obtain rfl : u = Value.ref a := ry
  obtain ⟨mA, O, _⟩ := ins_get I.hok ea
  obtain ⟨od, J, _⟩ := O.look
  obtain ⟨m, hF⟩ := I.fr
  have hl := F.len _ _ _ _ h
  refine PySem.W.in_K hF I.ok.mod.kin J hs hf (wpAny_call (codeAny_mono (F.run X.A X.stack s H ⟨[.ref a, v], []⟩ [.ref a, v] [.ref a, x] _ E0 hr I.env0 (by
    have z := hb s [.ref a, v] I.kIn (by simpa using hl)
    simpa using z) (.cons rfl (.cons rx .nil)) h) fun r s' hq => ?_))
  match r, hq with
  | .error e, hq => exact hq.elim
  | .ok (.ret u), hq =>
    obtain ⟨v2, H', I', rv, b, ev, q⟩ := I.after hq
    rw [ev] at rv
    obtain rfl : u = Value.bool b := rv
    exact wpAny_truthy_bool ⟨.bl b, H', I', rfl, q⟩
def rBoolOwn (C : Addr) (sp : Sp) : List V → Hp → VK → Prop := fun xs H Q => ∃ (a dx : Addr) (fs : List (Str × V)), xs = [.ref a] ∧ H a = some (.ins C dx fs) ∧ sp [.ref a] H (fun v H' => ∃ b, v = .bl b ∧ Q (.bl b) H') E0
end
section
variable {prog : Program} {w : World} {A : Around} {E : Value → Shared → Prop} {s : Shared} {K : PySem.W.Frag} {x C L f : Addr} {h₀ : Heap} {m : Str → Option Value} {ox : Obj} {od : Option Obj}
theorem kbo_call {Q : Value → Shared → Prop} (F : PyProof.Rows.Fr h₀ L s.heap m) (X₀ : K.In h₀) (I : PySem.W.InstAt s.heap x ox C od) (hs : PySem.W.findIn K (.ref C) "__bool__" = some (some (.ref f))) (hf : PySem.W.isFn K (.ref f) = true)
    (h : wpAny (model prog w) A.in1.in1 (call (.ref f) [.ref x]) (PySem.W.BoolBack fun b s' => Q (.bool b) s') E s) : wpAny (model prog w) A (call (.type "bool") [.ref x]) Q E s := by
  refine callType_codes (T := "bool") (Bi := Builtin.«object.__init__») (Q₁ := fun r s₁ => ∃ b, r = .bool b ∧ Q r s₁) PySem.F.called_bool (PySem.F.typeCall_bool_1 _) PySem.F.entry_object_init ?_ ?_
  · refine codeAny_of_tree ?_
    show wpAny _ A.in1.in1 (do checkBuiltinCall "bool.__new__" ⟨[.type "bool", .ref x], []⟩; again (.builtin "bool.__new__" ⟨[.type "bool", .ref x], []⟩)) _ _ s
    refine wpAny_bind (wpAny_of_eq (PySem.F.newCall_bool_1 _) (wpAny_pure ⟨plainId_quiet (by decide +kernel) _, codeAny_builtin PySem.F.entry_bool_new ?_⟩))
    rw [Around.under_plainId (by decide +kernel) _]
    have key := PySem.W.truthy_K (M := model prog w) (A := A.in1.in1) (E := E) (Q := fun b s' => ∃ b', Value.bool b = .bool b' ∧ Q (.bool b) s') F X₀ I hs hf (wpAny_mono h (fun r s1 hr => by cases r <;> first | exact hr.elim | exact ⟨_, rfl, hr⟩) fun _ _ y => y)
    obtain ⟨hp, g, dr, tk, os⟩ := s
    have f1 := PySem.F.conv_sub_bool
    repeat (any_goals (first | assumption | (with_reducible refine wpAny_mono key (fun b s1 hb => ?_) (fun e s1 he => ?_)) | wp_step))
    all_goals first | exact hb | exact he | skip
  · rintro obj s₁ ⟨b, rfl, hq⟩
    exact ⟨PySem.typeIs_bool _ _, PySem.F.args_object_init_2 _ _, object_init_meets PySem.F.called_bool.init.lookup PySem.F.called_bool.made (by decide) prog w A.in1 _ s₁ ⟨PySem.typeIs_bool _ _, rfl, hq⟩⟩
end
section
variable {X : Cx}
/-- o.f = .., as a target among others -/
def gFld (K : PySem.W.Frag) (to : TE) (f : Str) : TG := fun v σ H Q => to σ H fun x H1 => ∃ a C dx fs, x = .ref a ∧ H1 a = some (.ins C dx fs) ∧ Cls K C ∧ NoAttr K C f ∧ fs.length < 1000 ∧ Q σ (upd H1 a (.ins C dx (putF f v fs)))
theorem pg_fld {o : Expr} {to : TE} {f : Str} {pos : Pos} (ho : PE X o to) (ha : ∀ v, assign (.Attribute o f pos) X.env v = (do
      let ov ← holding [v] (eval o X.env)
      standAt pos.atName
      holding [v, ov] (setAttr ov f v)
      release [v, ov] []) := by intro _; rfl) : PG X (.Attribute o f pos) (gFld X.K to f) := by
  refine ⟨fun pins s σ H v u Q I r h => ?_⟩
  rw [ha]
  refine wpAny_bind (wpAny_holding (thn (ho.run pins s σ H _ I h) fun ov s1 ⟨x, H1, I1, r1, a, C, dx, fs, ex, ea, c, n, l, q⟩ => ?_))
  subst ex
  obtain rfl : ov = Value.ref a := r1
  exact wpAny_bind (wpAny_standAt (wpAny_bind (wpAny_holding (setattr_ok I1 ea c n l r fun s3 I3 => wpAny_release ⟨σ, _, I3, q⟩))))
def rMulS : R2 := fun x y H Q => ∃ (z : Str) (n : Nat), x = .str z ∧ y = .int (n : Int) ∧ 1 ≤ n ∧ z.length ≠ 0 ∧ n ≤ 1000 ∧ z.length ≤ 1000 ∧ Q (.str ⟨((List.replicate n z.cps.toList).flatten).toArray⟩) H
theorem rep_arr (z : Array Nat) : ∀ (n : Nat) (a : Array Nat), ((List.replicate n z).foldl (· ++ ·) a).toList = a.toList ++ (List.replicate n z.toList).flatten
  | 0, a => by simp
  | n + 1, a => by
    rw [List.replicate_succ, List.foldl_cons, rep_arr z n (a ++ z), List.replicate_succ, List.flatten_cons, Array.toList_append, List.append_assoc]
theorem op_mulS : OpR X (binaryOp .Mult) rMulS := by
  intro pins s σ H x y v u Q I rx ry h
  obtain ⟨z, n, rfl, rfl, n1, z1, nb, zb, q⟩ := h
  obtain ⟨t, rfl⟩ := (show ∃ t, v = Value.str z t from rx)
  obtain ⟨t', rfl⟩ := (show ∃ t', u = Value.int (n : Int) t' from ry)
  have hlt : ¬ (n : Int) < 1 := by omega
  have mul : z.length * n ≤ 1000 * 1000 := Nat.mul_le_mul zb nb
  have eq1 : (⟨(List.replicate n z.cps).foldl (· ++ ·) #[]⟩ : Str) = ⟨((List.replicate n z.cps.toList).flatten).toArray⟩ := by
    congr 1
    apply Array.toList_inj.mp
    rw [rep_arr]
    simp
  refine P.mul_str ?_ (fun _ _ => ?_) (fun _ _ => ?_) ?_
  · rw [decide_eq_false (by omega), decide_eq_false (by omega)]
    rfl
  · have d : (1000 : Int) ≤ (2 ^ 63 - 1) / (n : Int) := by
      refine Int.le_ediv_of_mul_le (by omega) ?_
      omega
    omega
  · rw [Int.toNat_natCast]
    have : sizeLine = 16777216 := sizeLine_eq
    simp only [Builtin.Str.tooLong, decide_eq_false_iff_not]
    omega
  · rw [if_neg hlt]
    by_cases c : ((n : Int) == 1 || z.length == 0) = true
    · rw [if_pos c]
      have n1' : n = 1 := by
        rcases (Bool.or_eq_true _ _).mp c with c | c
        · have := beq_iff_eq.mp c
          omega
        · exact absurd (beq_iff_eq.mp c) z1
      subst n1'
      refine ⟨.str z, H, I, ⟨_, rfl⟩, ?_⟩
      simpa using q
    · rw [if_neg c]
      refine ⟨?_, ?_⟩
      · rw [Int.toNat_natCast, eq1]
        have e : (⟨((List.replicate n z.cps.toList).flatten).toArray⟩ : Str).length = n * z.length := by
          show ((List.replicate n z.cps.toList).flatten).toArray.size = _
          rw [List.size_toArray, List.length_flatten, List.map_replicate, List.sum_replicate_nat]
          rfl
        rw [e, Nat.mul_comm, sizeLine_eq]
        omega
      · rw [Int.toNat_natCast, eq1]
        exact ⟨.str _, H, I.tok _, ⟨_, rfl⟩, q⟩
/-- bool(x) -/
theorem call_boolOwn {C f : Addr} {fd : FuncData} {ps : List Str} {sp : Sp} {k : Nat} (F : FnOk X.prog X.w X.K X.mg X.base L2.CX0 k f fd ps sp) (hr : Room (k + 2) X.A) (hs : PySem.W.findIn X.K (.ref C) "__bool__" = some (some (.ref f))) (hf : PySem.W.isFn X.K (.ref f) = true) (hb : Binds X.K fd ps []) : CallR X (.type "bool") (rBoolOwn C sp) := by
  intro pins s σ H xs us Q I r h
  obtain ⟨a, dx, fs, rfl, ea, h⟩ := h
  rw [Vals.ref1 r]
  obtain ⟨mA, O, _⟩ := ins_get I.hok ea
  obtain ⟨od, J, _⟩ := O.look
  obtain ⟨m, hF⟩ := I.fr
  have r2 : Room k X.A.in1.in1 := hr.in1.in1
  have hl := F.len _ _ _ _ h
  refine kbo_call hF I.ok.mod.kin J hs hf (wpAny_call (codeAny_mono (F.run X.A.in1.in1 X.stack s H ⟨[.ref a], []⟩ [.ref a] [.ref a] _ E0 r2 I.env0.in1.in1 (by
    have z := hb s [.ref a] I.kIn (by simpa using hl)
    simpa using z) (.cons rfl .nil) h) fun r s' hq => ?_))
  match r, hq with
  | .error e, hq => exact hq.elim
  | .ok (.ret u), hq =>
    obtain ⟨v, H', I', rv, b, ev, q⟩ := I.after hq
    rw [ev] at rv
    obtain rfl : u = Value.bool b := rv
    exact ⟨.bl b, H', I', rfl, q⟩
end
end L2.Tb
set_option Elab.async false
set_option linter.all false
set_option maxRecDepth 100000
set_option maxHeartbeats 8000000
namespace L2.K15
open PySem PySem.Spec PyProof.Rows L2.Tb
open SX (S)
/-! ### the text by places -/
def top (i : Nat) : Stmt := PySem.Challenge.pw_thirdback_k15_contents_refused.main.body.getD i (.Pass ⟨0, 0, 0, 0⟩)
/-- the built-ins' names -/
structure Bt (mg : Str → Option Value) : Prop where
  m_len : mg "len" = none
  m_int : mg "int" = none
  m_abs : mg "abs" = none
  m_divmod : mg "divmod" = none
  m_isinstance : mg "isinstance" = none
  m_tuple : mg "tuple" = none
  m_list : mg "list" = none
  m_bool : mg "bool" = none
  m_all : mg "all" = none
  m_zip : mg "zip" = none
  m_range : mg "range" = none
  m_max : mg "max" = none
  m_min : mg "min" = none
  m_enumerate : mg "enumerate" = none
  m_repr : mg "repr" = none
  m_sorted : mg "sorted" = none
  m_ValueError : mg "ValueError" = none
  m_LookupError : mg "LookupError" = none
  m_ArithmeticError : mg "ArithmeticError" = none
abbrev iBits := Builtin.Int.intBits
section
theorem bits31 {z : Int} (h0 : 0 ≤ z) (h1 : z < 2147483648) : iBits z ≤ 1048576 := Nat.le_trans (PyProof.Rows.intBits_le (k := 31) (by omega)) (by decide)
theorem mem_map_int {ns : List Int} {i : Nat} {y : V} (h : (ns.map V.int)[i]? = some y) : ∃ u, y = V.int u ∧ u ∈ ns := by
  rw [List.getElem?_map] at h
  cases e : ns[i]? with
  | none =>
    rw [e] at h
    cases h
  | some u =>
    rw [e] at h
    exact ⟨u, (Option.some.inj h).symm, List.mem_of_getElem? e⟩
end
/-- the lots, as the law writes them -/
abbrev Turn := Int × Int × Int
def turnV (t : Turn) : List V := [.int t.1, .int t.2.1, .int t.2.2]
def lotD : List (Str × List Turn) := [("plain", [(0, 1, 2)]), ("sides", [(0, 1, 2), (1, 0, 2)]), ("front", [(0, 1, 2), (2, 1, 0)]), ("back", [(0, 1, 2), (0, 2, 1)]), ("round", [(0, 1, 2), (1, 2, 0), (2, 0, 1)]), ("all", [(0, 1, 2), (0, 2, 1), (1, 0, 2), (1, 2, 0), (2, 0, 1), (2, 1, 0)])]
theorem paired_imp {α β : Type} {R S : α → β → Prop} (h : ∀ a b, R a b → S a b) : ∀ {xs : List α} {ys : List β}, Paired R xs ys → Paired S xs ys
  | _, _, .nil => .nil
  | _, _, .cons r t => .cons (h _ _ r) (paired_imp h t)
def wordsD : List Str := lotD.map (·.1)
def pairD : List (Str × Bool) := wordsD.map (fun x => (x, false)) ++ wordsD.map (fun x => (x, true))
theorem take_at {α : Type} {l : List α} {i : Nat} {x : α} (h : l[i]? = some x) : l.take (i + 1) = l.take i ++ [x] := by rw [List.take_add_one, h]; rfl
theorem drop_at {α : Type} {l : List α} {i : Nat} {x : α} (h : l[i]? = some x) : l.drop i = x :: l.drop (i + 1) := by
  obtain ⟨hi, e⟩ := List.getElem?_eq_some_iff.mp h
  rw [List.drop_eq_getElem_cons hi, e]
theorem pairedNth {α β : Type} {R : α → β → Prop} : ∀ {xs : List α} {ys : List β} {i : Nat} {x : α}, Paired R xs ys → xs[i]? = some x → ∃ y, ys[i]? = some y ∧ R x y
  | _, _, _, _, .nil, h => by cases h
  | _, _, 0, _, .cons h _, e => ⟨_, rfl, by cases e; exact h⟩
  | _, _, i + 1, _, .cons _ t, e => pairedNth (i := i) t e
theorem same_put {H0 H : Hp} {D : Addr} {o : HO} (n : H0 D = none) (s : Same H0 H) : Same H0 (upd H D o) := fun b u e => by rw [upd_ne (ne_of_none e n)]; exact s _ _ e
theorem same_pt {H0 H : Hp} {D : Addr} {o : HO} (n : H0 D = none) (s : Same H0 H) : Same H0 (upd H D o) := fun b u e => by rw [upd_ne (ne_of_none e n)]; exact s _ _ e
theorem gname_go {i : Nat} {x : V} {σ : St} {H : Hp} {k : St → Hp → Prop} (h : k (σ.set i (some x)) H) : gName i x σ H k := h
theorem seqx {a b : TS} {D : Ends} {σ : St} {H : Hp} (Pv : St → Hp → Prop) (hb : ∀ σ' H', Pv σ' H' → b D σ' H') (h : (∀ σ' H', Pv σ' H' → ({ D with nx := b D } : Ends).nx σ' H') → a { D with nx := b D } σ H) : tSeq a b D σ H := h hb
theorem paired_in {α β : Type} {R S : α → β → Prop} : ∀ {xs : List α} {ys : List β}, Paired R xs ys → (∀ a b, a ∈ xs → R a b → S a b) → Paired S xs ys
  | _, _, .nil, _ => .nil
  | _, _, .cons h t, f => .cons (f _ _ List.mem_cons_self h) (paired_in t fun a b ha r => f a b (List.mem_cons_of_mem _ ha) r)
theorem ret_go {te : TE} {D : Ends} {σ : St} {H : Hp} (h : te σ H D.rt) : tRet te D σ H := h
theorem cb_one {r : List V → Hp → VK → Prop} {ta : TE} {σ : St} {H : Hp} {Q : VK} (h : ta σ H fun x H1 => r [x] H1 Q) : tCB r (tCons ta tNil) σ H Q := h
theorem lenN {xs : List V} {n : Nat} (h : xs.length = n) : decide (V.int ((xs.length : Nat) : Int) = V.int (n : Nat)) = true := decide_eq_true (by rw [h])
theorem lenX {xs : List V} {n : Nat} (h : xs.length ≠ n) : decide (V.int ((xs.length : Nat) : Int) = V.int (n : Nat)) = false := decide_eq_false fun z => h (by injection z with z; omega)
theorem paired_snoc_inv {α β : Type} {R : α → β → Prop} : ∀ {xs : List α} {x : α} {ys : List β}, Paired R (xs ++ [x]) ys → ∃ ys' y, ys = ys' ++ [y] ∧ Paired R xs ys' ∧ R x y
  | [], x, _, .cons h .nil => ⟨[], _, rfl, .nil, h⟩
  | a :: xs, x, _, .cons h t => by
    obtain ⟨ys', y, rfl, p, r⟩ := paired_snoc_inv t
    exact ⟨_ :: ys', y, rfl, .cons h p, r⟩
theorem paired_pairs {α β : Type} {R : α → β → Prop} : ∀ ks : List (α × β), (∀ p ∈ ks, R p.1 p.2) → Paired R (ks.map (·.1)) (ks.map (·.2))
  | [], _ => .nil
  | k :: ks, h => .cons (h k List.mem_cons_self) (paired_pairs ks fun p hp => h p (List.mem_cons_of_mem _ hp))
theorem paired_zip {α β : Type} {R : α → β → Prop} : ∀ {xs : List α} {ys : List β}, Paired R xs ys → (∀ p ∈ xs.zip ys, R p.1 p.2) ∧ (xs.zip ys).map (·.1) = xs ∧ (xs.zip ys).map (·.2) = ys
  | _, _, .nil => ⟨(fun p hp => by cases hp), rfl, rfl⟩
  | _, _, .cons h t => by
    obtain ⟨a, b, c⟩ := paired_zip t
    refine ⟨fun p hp => ?_, by rw [List.zip_cons_cons, List.map_cons, b], by rw [List.zip_cons_cons, List.map_cons, c]⟩
    rcases List.mem_cons.mp hp with rfl | hp
    · exact h
    · exact a p hp
theorem paired_mapR {α β γ : Type} {R : α → γ → Prop} (g : β → γ) : ∀ {xs : List α} {ys : List β}, Paired (fun x y => R x (g y)) xs ys → Paired R xs (ys.map g)
  | _, _, .nil => .nil
  | _, _, .cons h t => .cons h (paired_mapR g t)
theorem pf_len {α β : Type} {R : α → β → Prop} {xs : List α} {ys : List β} (h : Paired R xs ys) : xs.length = ys.length := h.length
theorem pair_get {α β : Type} {R : α → β → Prop} {xs : List α} {ys : List β} (h : Paired R xs ys) {i : Nat} {y : β} (e : ys[i]? = some y) : ∃ x, xs[i]? = some x ∧ R x y := by
  have il : i < ys.length := (List.getElem?_eq_some_iff.mp e).1
  have jl : i < xs.length := by rw [h.length]; exact il
  obtain ⟨y', hy, r⟩ := pairedNth h (List.getElem?_eq_getElem jl)
  rw [e] at hy
  cases hy
  exact ⟨_, List.getElem?_eq_getElem jl, r⟩
end L2.K15
set_option Elab.async false
set_option linter.all false
set_option maxRecDepth 100000
set_option maxHeartbeats 8000000
namespace L2.K15
open PySem PySem.Spec PyProof.Rows L2.Tb
open SX (S)
/-! ### the kinds -/
theorem op_isnotB {X : Cx} : OpR X (compareOp .IsNot) (fun x y H Q => ∃ b, y = .bl b ∧ Q (.bl (!decide (x = .bl b))) H) := by
  intro pins s σ H x y v u Q I rx ry h
  obtain ⟨b, rfl, q⟩ := h
  cases (show u = Value.bool b from ry)
  by_cases e : x = .bl b
  · subst e
    cases (show v = Value.bool b from rx)
    exact wpAny_isNot_self rfl ⟨.bl false, H, I, rfl, by simpa using q⟩
  · have q2 : Q (.bl true) H := by simpa [e] using q
    have fin : ∀ {w : Value}, v = w → w ≠ .bool b → (plainIs w (.bool b) = true) → wpAny (model X.prog X.w) X.A (compareOp .IsNot v (.bool b)) (EP X pins σ Q) X.xe s := fun e1 e2 e3 => by
      rw [e1]
      exact wpAny_isNot_other e3 e2 ⟨.bl true, H, I, rfl, q2⟩
    cases x with
    | bl c =>
      cases (show v = Value.bool c from rx)
      exact fin rfl (fun z => e (by injection z with z; rw [z])) rfl
    | non => exact fin rx (fun z => nomatch z) rfl
    | ref a => exact fin rx (fun z => nomatch z) rfl
    | ty n => exact fin rx (fun z => nomatch z) rfl
    | int i =>
      obtain ⟨t, e1⟩ := rx
      exact fin e1 (fun z => nomatch z) rfl
    | str i =>
      obtain ⟨t, e1⟩ := rx
      exact fin e1 (fun z => nomatch z) rfl
    | byt i =>
      obtain ⟨t, e1⟩ := rx
      exact fin e1 (fun z => nomatch z) rfl
    | flt i =>
      obtain ⟨t, e1⟩ := rx
      exact fin e1 (fun z => nomatch z) rfl
abbrev s_kinit : Stmt := inClass (top 40) 0
abbrev N_kinit : List Str := ["self", "turns", "calm"]
theorem sc_kinit : FnScope N_kinit ["self", "turns", "calm"] (defScope s_kinit) := ⟨rfl, rfl, rfl, by decide +kernel, rfl, by decide +kernel, by decide +kernel⟩
/-- not a text -/
structure NoS (K : PySem.W.Frag) (H : Hp) (x : V) : Prop where
  ex : ∃ t, TyX K H x t ∧ PySem.W.kitOne K t (.type "str") = some false
theorem str_ty {K : PySem.W.Frag} {H : Hp} {z : Str} : TyX K H (.str z) (.type "str") := .base (.str z)
theorem str_kit {K : PySem.W.Frag} : PySem.W.kitOne K (.type "str") (.type "str") = some true := rfl
theorem iteT2 {c : Bool} {A B : Prop} (hc : c = true) (h : A) : if c = true then A else B := by rw [if_pos hc]; exact h
theorem iteN2 {c : Bool} {A B : Prop} (hc : c = false) (h : B) : if c = true then A else B := by rw [if_neg (by rw [hc]; decide)]; exact h
structure KiF (P : Program) (w : World) (K : PySem.W.Frag) (mg : Str → Option Value) (base : Heap) (C dL CT CF : Addr) (es : Array DictEntry) (n : Nat) : Prop where
  mgC : mg "Kind" = some (.ref C)
  cls : Cls K C
  noT : NoAttr K C "_turns"
  noC : NoAttr K C "_calm"
  mgL : mg "LOTS" = some (.ref dL)
  tab : KDict K w dL es n
  inL : ∀ z, ∃ r, PySem.W.nsIn K dL z = some r ∧ r.isSome = wordsD.contains z
  eT : ErC P w K mg base "InvalidTurns" "given" bVE CT
  eF : ErC P w K mg base "InvalidFlag" "given" bVE CF
  tyT : PySem.W.typeIn K (.ref CT) = some (.type "type")
  tyF : PySem.W.typeIn K (.ref CF) = some (.type "type")
def kindF (z : Str) (b : Bool) : List (Str × V) := [("_turns", .str z), ("_calm", .bl b)]
def spKinit (K : PySem.W.Frag) (C CT CF : Addr) : Sp := fun vs H Q E => ∃ (a dx : Addr) (t c : V), vs = [.ref a, t, c] ∧ H a = some (.ins C dx []) ∧
  ((∃ z b, t = .str z ∧ wordsD.contains z = true ∧ c = .bl b ∧ Q .non (upd (upd H a (.ins C dx [("_turns", .str z)])) a (.ins C dx (kindF z b)))) ∨
   (((∃ z, t = .str z ∧ wordsD.contains z = false) ∨ NoS K H t) ∧ ∀ d H', Same H H' → H d = none → H' d = some (.xd [("given", t)]) → E (.ref CT) (some d) H') ∨
   (∃ z, t = .str z ∧ wordsD.contains z = true ∧ (∀ b, c ≠ .bl b) ∧ ∀ d H', Same H H' → H d = none → H' d = some (.xd [("given", c)]) → E (.ref CF) (some d) H'))
section
variable {P : Program} {w : World} {K : PySem.W.Frag} {mg : Str → Option Value} {base : Heap} {f : Addr} {fd : FuncData} {C dL CT CF : Addr} {es : Array DictEntry} {n : Nat}
theorem c_kinit (T : Bt mg) (mstr : mg "str" = none) (KF : KiF P w K mg base C dL CT CF es n) (F : FunD K "__init__" "Kind.__init__" (defArgs s_kinit) (defBody s_kinit) (defScope s_kinit) [] [("calm", .bl false)] f fd) : FnOk P w K mg base (L2.CX P w) 3 f fd ["self", "turns", "calm"] (spKinit K C CT CF) := by
  have hnd := sc_kinit.nd
  refine F.ok sc_kinit (fun vs H Q E h => ?_) (fun cdv A outer s H vs Q E hr h => ?_)
  · obtain ⟨a, dx, t, c, rfl, _⟩ := h
    rfl
  · obtain ⟨a, dx, t, c, rfl, ha, h⟩ := h
    refine ⟨_, (pss_cons (ps_if (PW.pt (pw_or (pt_not (pt_val (pe_callB call_isi (by rfl) T.m_isinstance (by decide +kernel) (pa_cons (pv 1) (pa_cons (pe_bltn (v := .ty "str") (by rfl) mstr (by decide +kernel) rfl) pa_nil))))) (pw_or1 (pt_cmpR (op_notIn_kd KF.tab) (pv 1) (pe_glob (v := .ref dL) (by rfl) KF.mgL rfl) (by rfl)))))
      (pss_one (ps_raise (by rfl) (takes_of rfl rfl rfl rfl) (pmk_er KF.eT KF.tyT hr (by omega) (by rfl) (pv 1))))
      pss_nil)
      (pss_cons (ps_if (PW.pt (pw_and (pt_cmpR op_isnotB (pv 2) pe_bl (nomark _)) (pw_and1 (pt_cmpR op_isnotB (pv 2) pe_bl (nomark _)))))
      (pss_one (ps_raise (by rfl) (takes_of rfl rfl rfl rfl) (pmk_er KF.eF KF.tyF hr (by omega) (by rfl) (pv 2))))
      pss_nil)
      (pss_cons (ps_fld (pv 0) (pv 1) (by rfl))
      (pss_one (ps_fld (pv 0) (pv 2) (by rfl)))))), ?_⟩
    rcases h with ⟨z, b, rfl, hz, rfl, q⟩ | ⟨hb, q⟩ | ⟨z, rfl, hz, hc, q⟩
    · obtain ⟨r, e, hr2⟩ := KF.inL z
      refine ⟨_, rfl, _, _, _, _, _, rfl, .ty _, str_ty, str_kit, _, rfl, iteF ⟨_, rfl, z, r, rfl, rfl, e, ?_⟩⟩
      rw [hr2, hz]
      refine ⟨_, rfl, iteF ?_⟩
      refine ⟨_, rfl, true, rfl, _, rfl, ?_⟩
      cases b with
      | true =>
        refine iteN2 (by decide +kernel) (iteF ?_)
        refine ⟨_, rfl, _, rfl, a, C, dx, [], rfl, ha, KF.cls, KF.noT, by decide, ?_⟩
        refine ⟨_, rfl, _, rfl, a, C, dx, _, rfl, upd_same, KF.cls, KF.noC, Nat.le_of_ble_eq_true rfl, ?_⟩
        exact q
      | false =>
        refine iteT2 (by decide +kernel) ⟨_, rfl, false, rfl, _, rfl, iteN2 (by decide +kernel) ?_⟩
        refine ⟨_, rfl, _, rfl, a, C, dx, [], rfl, ha, KF.cls, KF.noT, by decide, ?_⟩
        refine ⟨_, rfl, _, rfl, a, C, dx, _, rfl, upd_same, KF.cls, KF.noC, Nat.le_of_ble_eq_true rfl, ?_⟩
        exact q
    · rcases hb with ⟨z, rfl, hz⟩ | hb
      · obtain ⟨r, e, hr2⟩ := KF.inL z
        refine ⟨_, rfl, _, _, _, _, _, rfl, .ty _, str_ty, str_kit, _, rfl, iteF ⟨_, rfl, z, r, rfl, rfl, e, ?_⟩⟩
        rw [hr2, hz]
        exact ⟨_, rfl, iteT ⟨_, rfl, fun d H' s n x => q d H' s n x⟩⟩
      · obtain ⟨T0, ty, k⟩ := hb.ex
        exact ⟨_, rfl, _, _, _, _, _, rfl, .ty _, ty, k, _, rfl, iteT (iteT ⟨_, rfl, fun d H' s n x => q d H' s n x⟩)⟩
    · obtain ⟨r, e, hr2⟩ := KF.inL z
      refine ⟨_, rfl, _, _, _, _, _, rfl, .ty _, str_ty, str_kit, _, rfl, iteF ⟨_, rfl, z, r, rfl, rfl, e, ?_⟩⟩
      rw [hr2, hz]
      refine ⟨_, rfl, iteF ?_⟩
      refine ⟨_, rfl, true, rfl, _, rfl, ?_⟩
      refine iteT2 (by rw [decide_eq_false (hc true)]; rfl) ⟨_, rfl, false, rfl, _, rfl, iteT2 (by rw [decide_eq_false (hc false)]; rfl) ?_⟩
      exact ⟨_, rfl, fun d H' s n x => q d H' s n x⟩
end
abbrev s_kturns : Stmt := inClass (top 40) 2
abbrev N_kturns : List Str := ["self"]
theorem sc_kturns : FnScope N_kturns ["self"] (defScope s_kturns) := ⟨rfl, rfl, rfl, by decide +kernel, rfl, by decide +kernel, by decide +kernel⟩
abbrev s_kcalm : Stmt := inClass (top 40) 3
abbrev N_kcalm : List Str := ["self"]
theorem sc_kcalm : FnScope N_kcalm ["self"] (defScope s_kcalm) := ⟨rfl, rfl, rfl, by decide +kernel, rfl, by decide +kernel, by decide +kernel⟩
abbrev s_klot : Stmt := inClass (top 40) 4
abbrev N_klot : List Str := ["self"]
theorem sc_klot : FnScope N_klot ["self"] (defScope s_klot) := ⟨rfl, rfl, rfl, by decide +kernel, rfl, by decide +kernel, by decide +kernel⟩
abbrev s_kstr : Stmt := inClass (top 40) 10
abbrev N_kstr : List Str := ["self"]
theorem sc_kstr : FnScope N_kstr ["self"] (defScope s_kstr) := ⟨rfl, rfl, rfl, by decide +kernel, rfl, by decide +kernel, by decide +kernel⟩
abbrev s_keq : Stmt := inClass (top 40) 9
abbrev N_keq : List Str := ["self", "other"]
theorem sc_keq : FnScope N_keq ["self", "other"] (defScope s_keq) := ⟨rfl, rfl, rfl, by decide +kernel, rfl, by decide +kernel, by decide +kernel⟩
/-- a kind stands at a -/
def KindAt (C : Addr) (H : Hp) (a : Addr) (z : Str) (b : Bool) : Prop := ∃ dx, H a = some (.ins C dx (kindF z b))
theorem KindAt.same {C : Addr} {H H' : Hp} {a : Addr} {z : Str} {b : Bool} (h : KindAt C H a z b) (s : Same H H') : KindAt C H' a z b := let ⟨dx, e⟩ := h; ⟨dx, s _ _ e⟩
def lotOf (z : Str) : List Turn := (lotD.lookup z).getD []
/-- a lot of the program, a tuple of tuples that stands for good -/
def LotK (K : PySem.W.Frag) (l : Addr) (lot : List Turn) : Prop := ∃ ts : List Addr, (∀ H, SqT K H l (ts.map V.ref)) ∧ Paired (fun t u => ∀ H, SqT K H t (turnV u)) ts lot
def spKturns (C : Addr) : Sp := fun vs H Q _ => ∃ (a : Addr) (z : Str) (b : Bool), vs = [.ref a] ∧ KindAt C H a z b ∧ Q (.str z) H
def spKcalm (C : Addr) : Sp := fun vs H Q _ => ∃ (a : Addr) (z : Str) (b : Bool), vs = [.ref a] ∧ KindAt C H a z b ∧ Q (.bl b) H
def spKlot (K : PySem.W.Frag) (C : Addr) : Sp := fun vs H Q _ => ∃ (a : Addr) (z : Str) (b : Bool), vs = [.ref a] ∧ KindAt C H a z b ∧ wordsD.contains z = true ∧ ∀ l, LotK K l (lotOf z) → Q (.ref l) H
/-- a kind's text -/
def kindS (z : Str) (b : Bool) : Str := cond b (Str.empty ++ ("calm " : Str) ++ z) z
def spKstr (C : Addr) : Sp := fun vs H Q _ => ∃ (a : Addr) (z : Str) (b : Bool), vs = [.ref a] ∧ KindAt C H a z b ∧ z.length ≤ 1000 ∧ Q (.str (kindS z b)) H
def spKeq (K : PySem.W.Frag) (C : Addr) : Sp := fun vs H Q _ => ∃ (a : Addr) (z : Str) (b : Bool) (y : V), vs = [.ref a, y] ∧ KindAt C H a z b ∧
  ((∃ (c : Addr) (z2 : Str) (b2 : Bool), y = .ref c ∧ KindAt C H c z2 b2 ∧ Q (.bl (decide (z = z2) && decide (b = b2))) H) ∨ (∃ t, TyX K H y t ∧ PySem.W.kitOne K t (.ref C) = some false ∧ Q (.bl false) H))
structure KiG (K : PySem.W.Frag) (w : World) (mg : Str → Option Value) (C dL : Addr) : Prop where
  calm : ∃ t, mg "_CALM" = some (.str "calm " t)
  lots : ∀ z, wordsD.contains z = true → ∃ l, KDct K w dL z (.ref l) ∧ LotK K l (lotOf z)
  ex : InsC K C
  self : PySem.W.kitOne K (.ref C) (.ref C) = some true
section
variable {P : Program} {w : World} {K : PySem.W.Frag} {mg : Str → Option Value} {base : Heap} {f : Addr} {fd : FuncData} {C dL CT CF : Addr} {es : Array DictEntry} {n : Nat}
theorem c_kturns (KF : KiF P w K mg base C dL CT CF es n) (F : FunD K "turns" "Kind.turns" (defArgs s_kturns) (defBody s_kturns) (defScope s_kturns) [] [] f fd) : FnOk P w K mg base L2.CX0 1 f fd ["self"] (spKturns C) := by
  have hnd := sc_kturns.nd
  refine F.ok sc_kturns (fun vs H Q E h => ?_) (fun cdv A outer s H vs Q E hr h => ?_)
  · obtain ⟨a, z, b, rfl, _⟩ := h
    rfl
  · obtain ⟨a, z, b, rfl, ⟨dx, e⟩, q⟩ := h
    exact ⟨_, (pss_one (ps_ret (pe_fld (pv 0) (by rfl)))), _, rfl, a, C, dx, _, _, rfl, e, KF.cls, KF.noT, rfl, q⟩
theorem c_kcalm (KF : KiF P w K mg base C dL CT CF es n) (F : FunD K "calm" "Kind.calm" (defArgs s_kcalm) (defBody s_kcalm) (defScope s_kcalm) [] [] f fd) : FnOk P w K mg base L2.CX0 1 f fd ["self"] (spKcalm C) := by
  have hnd := sc_kcalm.nd
  refine F.ok sc_kcalm (fun vs H Q E h => ?_) (fun cdv A outer s H vs Q E hr h => ?_)
  · obtain ⟨a, z, b, rfl, _⟩ := h
    rfl
  · obtain ⟨a, z, b, rfl, ⟨dx, e⟩, q⟩ := h
    exact ⟨_, (pss_one (ps_ret (pe_fld (pv 0) (by rfl)))), _, rfl, a, C, dx, _, _, rfl, e, KF.cls, KF.noC, rfl, q⟩
theorem c_klot (KF : KiF P w K mg base C dL CT CF es n) (KG : KiG K w mg C dL) (F : FunD K "lot" "Kind.lot" (defArgs s_klot) (defBody s_klot) (defScope s_klot) [] [] f fd) : FnOk P w K mg base L2.CX0 1 f fd ["self"] (spKlot K C) := by
  have hnd := sc_klot.nd
  refine F.ok sc_klot (fun vs H Q E h => ?_) (fun cdv A outer s H vs Q E hr h => ?_)
  · obtain ⟨a, z, b, rfl, _⟩ := h
    rfl
  · obtain ⟨a, z, b, rfl, ⟨dx, e⟩, hz, q⟩ := h
    obtain ⟨l, kd, lk⟩ := KG.lots z hz
    exact ⟨_, (pss_one (ps_ret (pe_ix ix_kdict (pe_glob (v := .ref dL) (by rfl) KF.mgL rfl) (pe_fld (pv 0) (by rfl)) (fun _ _ => rfl)))), _, rfl, a, C, dx, _, _, rfl, e, KF.cls, KF.noT, rfl, dL, z, .ref l, rfl, rfl, kd, q l lk⟩
theorem c_kstr (T : Bt mg) (mstr : mg "str" = none) (KF : KiF P w K mg base C dL CT CF es n) (KG : KiG K w mg C dL) (F : FunD K "__str__" "Kind.__str__" (defArgs s_kstr) (defBody s_kstr) (defScope s_kstr) [] [] f fd) : FnOk P w K mg base L2.CX0 1 f fd ["self"] (spKstr C) := by
  have hnd := sc_kstr.nd
  obtain ⟨tc, mc⟩ := KG.calm
  refine F.ok sc_kstr (fun vs H Q E h => ?_) (fun cdv A outer s H vs Q E hr h => ?_)
  · obtain ⟨a, z, b, rfl, _⟩ := h
    rfl
  · obtain ⟨a, z, b, rfl, ⟨dx, e⟩, hz, q⟩ := h
    refine ⟨_, (pss_cons (ps_if (pt_val (pe_fld (pv 0) (by rfl)))
      (pss_one (ps_ret (pe_joined (.cons (pe_fmt (pe_glob (v := .str "calm ") (by rfl) mc ⟨_, rfl⟩)) (.cons (pe_fmt (pe_fld (pv 0) (by rfl))) .nil)))))
      pss_nil)
      (pss_one (ps_ret (pe_callTy SkE.call_str_str (by rfl) mstr (by decide +kernel) (pa_cons (pe_fld (pv 0) (by rfl)) pa_nil))))), ?_⟩
    refine ⟨_, rfl, a, C, dx, _, _, rfl, e, KF.cls, KF.noC, rfl, b, rfl, ?_⟩
    cases b with
    | true =>
      refine iteT2 rfl (.inl ⟨_, rfl, Nat.le_of_ble_eq_true rfl, _, rfl, Nat.le_of_ble_eq_true rfl, ?_⟩)
      refine ⟨_, rfl, a, C, dx, _, _, rfl, e, KF.cls, KF.noT, rfl, .inl ⟨_, rfl, ?_, _, rfl, ?_, q⟩⟩
      · rw [sizeLine_eq]
        omega
      · rw [sizeLine_eq]
        have : (Str.empty ++ ("calm " : Str) ++ z).length = 5 + z.length := by
          rw [Str.length_append]
          rfl
        omega
    | false => exact iteN2 rfl ⟨_, rfl, a, C, dx, _, _, rfl, e, KF.cls, KF.noT, rfl, _, rfl, q⟩
theorem c_keq (T : Bt mg) (KF : KiF P w K mg base C dL CT CF es n) (KG : KiG K w mg C dL) (F : FunD K "__eq__" "Kind.__eq__" (defArgs s_keq) (defBody s_keq) (defScope s_keq) [] [] f fd) : FnOk P w K mg base L2.CX0 1 f fd ["self", "other"] (spKeq K C) := by
  have hnd := sc_keq.nd
  refine F.ok sc_keq (fun vs H Q E h => ?_) (fun cdv A outer s H vs Q E hr h => ?_)
  · obtain ⟨a, z, b, y, rfl, _⟩ := h
    rfl
  · obtain ⟨a, z, b, y, rfl, ⟨dx, e⟩, q⟩ := h
    refine ⟨_, (pss_one (ps_ret (pe_and (pe_callB call_isi (by rfl) T.m_isinstance (by decide +kernel) (pa_cons (pv 1) (pa_cons (pe_glob (v := .ref C) (by rfl) KF.mgC rfl) pa_nil))) (pe_and (pe_cmpR op_eq (pe_fld (pv 0) (by rfl)) (pe_fld (pv 1) (by rfl)) (nomark _)) (pe_one (pe_cmpR op_eq (pe_fld (pv 0) (by rfl)) (pe_fld (pv 1) (by rfl)) (nomark _))))))), ?_⟩
    rcases q with ⟨c, z2, b2, rfl, ⟨dy, e2⟩, q⟩ | ⟨t, ty, kn, q⟩
    · refine ⟨_, rfl, _, _, _, _, _, rfl, .own C, .base (.ins e2 KF.cls KG.ex.ha KG.ex.hn KG.ex.ht KG.ex.hm), KG.self, true, rfl, iteT ?_⟩
      refine ⟨_, rfl, a, C, dx, _, _, rfl, e, KF.cls, KF.noT, rfl, _, rfl, c, C, dy, _, _, rfl, e2, KF.cls, KF.noT, rfl, rfl, _, rfl, ?_⟩
      have hz : decide (V.str z = V.str z2) = decide (z = z2) := decide_eq_decide.mpr ⟨fun h => by injection h, fun h => by rw [h]⟩
      rw [hz]
      cases hd : decide (z = z2) with
      | true =>
        rw [hd, Bool.true_and] at q
        refine iteT ⟨_, rfl, a, C, dx, _, _, rfl, e, KF.cls, KF.noC, rfl, _, rfl, c, C, dy, _, _, rfl, e2, KF.cls, KF.noC, rfl, rfl, ?_⟩
        have hb : decide (V.bl b = V.bl b2) = decide (b = b2) := decide_eq_decide.mpr ⟨fun h => by injection h, fun h => by rw [h]⟩
        rw [hb]
        exact q
      | false =>
        rw [hd, Bool.false_and] at q
        exact iteF q
    · exact ⟨_, rfl, _, _, _, _, _, rfl, .own C, ty, kn, false, rfl, iteF q⟩
end
end L2.K15
set_option Elab.async false
set_option linter.all false
set_option maxRecDepth 100000
set_option maxHeartbeats 8000000
namespace L2.K15
open PySem PySem.Spec PyProof.Rows L2.Tb
open SX (S)
abbrev kps : List Str := ["self", "turns", "calm"]
/-! ### Kind at the head -/
def kindB (K : PySem.W.Frag) (C : Addr) : Bool := (He.Fa.cls "Kind").ok K && ((He.Fa.noat "Kind" "_turns").ok K && ((He.Fa.noat "Kind" "_calm").ok K && ((He.Fa.mkr "Kind").ok K && (insB K C && (propB K C "calm" && (propB K C "lot" && decide (PySem.W.kitOne K (.ref C) (.ref C) = some true)))))))
def turnsB (K : PySem.W.Frag) : List Addr → List Turn → Bool
  | [], [] => true
  | t :: ts, u :: us => tupB K t (turnV u) && turnsB K ts us
  | _, _ => false
def lotB (K : PySem.W.Frag) (l : Addr) (lot : List Turn) : Bool := tupB K l ((refsIn K l).map V.ref) && turnsB K (refsIn K l) lot
def lotsB (K : PySem.W.Frag) (d : Addr) : Bool := keysB K d wordsD && wordsD.all fun z => refB K d z && lotB K (refOf K d z) (lotOf z)
theorem turnsB_ok {K : PySem.W.Frag} : ∀ {ts : List Addr} {us : List Turn}, turnsB K ts us = true → Paired (fun t u => ∀ H, SqT K H t (turnV u)) ts us
  | [], [], _ => .nil
  | t :: ts, u :: us, h => .cons (tupB_ok (He.ba h).1) (turnsB_ok (He.ba h).2)
  | [], _ :: _, h => by cases h
  | _ :: _, [], h => by cases h
theorem lotB_ok {K : PySem.W.Frag} {l : Addr} {lot : List Turn} (h : lotB K l lot = true) : LotK K l lot := ⟨refsIn K l, tupB_ok (He.ba h).1, turnsB_ok (He.ba h).2⟩
theorem lotsB_ok {K : PySem.W.Frag} {w : World} {d : Addr} {es : Array DictEntry} {n : Nat} (h : lotsB K d = true) (D : KDict K w d es n) : (∀ z, ∃ r, PySem.W.nsIn K d z = some r ∧ r.isSome = wordsD.contains z) ∧ ∀ z, wordsD.contains z = true → ∃ l, KDct K w d z (.ref l) ∧ LotK K l (lotOf z) := by
  obtain ⟨h1, h2⟩ := He.ba h
  refine ⟨keysB_ok h1, fun z hz => ?_⟩
  obtain ⟨h3, h4⟩ := He.ba (List.all_eq_true.mp h2 z (List.contains_iff_mem.mp hz))
  exact ⟨_, ⟨es, n, _, D.at_, D.lit, He.eqO_ok h3, rfl⟩, lotB_ok h4⟩
def errsB (K : PySem.W.Frag) (xs : List Str) : Bool := xs.all (fun x => ercB K bVE x "given" && (decide (PySem.W.typeIn K (.ref (He.ga K x)) = some (.type "type")) && (xfB K (He.ga K x) && (He.Fa.noat x "given").ok K))) &&
  xs.all fun x => xs.all fun y => decide (PySem.W.exmOne K (.ref (He.ga K x)) (.ref (He.ga K y)) = some (x == y))
theorem errsB_ok {K : PySem.W.Frag} {xs : List Str} (h : errsB K xs = true) : (∀ x ∈ xs, ercB K bVE x "given" = true ∧ PySem.W.typeIn K (.ref (He.ga K x)) = some (.type "type") ∧ XfC K (He.ga K x) ∧ PySem.W.findIn K (.ref (He.ga K x)) "given" = some none) ∧
    ∀ x ∈ xs, ∀ y ∈ xs, PySem.W.exmOne K (.ref (He.ga K x)) (.ref (He.ga K y)) = some (x == y) := by
  obtain ⟨h1, h2⟩ := He.ba h
  refine ⟨fun x hx => ?_, fun x hx y hy => of_decide_eq_true (List.all_eq_true.mp (List.all_eq_true.mp h2 x hx) y hy)⟩
  obtain ⟨a, q⟩ := He.ba (List.all_eq_true.mp h1 x hx)
  obtain ⟨b, q⟩ := He.ba q
  obtain ⟨c, d⟩ := He.ba q
  exact ⟨a, of_decide_eq_true b, xfB_ok c, He.noat_ok d⟩
section
variable {P : Program} {w : World} {K : PySem.W.Frag} {mg : Str → Option Value} {base : Heap} {fi : Addr} {fdi : FuncData}
abbrev FunK (K : PySem.W.Frag) (x q : Str) (st : Stmt) (kws : List (Str × V)) (f : Addr) (fd : FuncData) : Prop := FunD K x q (defArgs st) (defBody st) (defScope st) [] kws f fd
theorem kinit_binds (F : FunK K "__init__" "Kind.__init__" s_kinit [("calm", .bl false)] fi fdi) : KBn K fdi kps 2 ["calm"] (fun us ws => us ++ ws) (fun us ws => us ++ ws) ∧ KBn K fdi kps 1 ["turns", "calm"] (fun us ws => us ++ ws) (fun us ws => us ++ ws) ∧
    KBn K fdi kps 1 ["calm", "turns"] (fun us ws => us ++ ws.reverse) (fun us ws => us ++ ws.reverse) ∧ (∃ ds, Vals [V.bl false] ds ∧ Binds K fdi kps ds) ∧ (∃ dv, KBn K fdi kps 1 ["turns"] (fun us ws => us ++ (ws ++ dv)) (fun us ws => us ++ (ws ++ [.bl false]))) := by
  refine ⟨?_, ?_, ?_, ?_, ?_⟩
  · obtain ⟨mv, h⟩ := FunD.kbinds0 (ps := kps) F 2 ["calm"] [] (fun us _ ws => us ++ ws) (by simp) (by simp) (fun r1 _ r3 => r1.append r3) fun D doc pm an cdv ct us mv ws l1 l2 l3 => match us, mv, ws, l1, l2, l3 with
      | [_, _], [], [_], _, _, _ => rfl
    exact h
  · obtain ⟨mv, h⟩ := FunD.kbinds0 (ps := kps) F 1 ["turns", "calm"] [] (fun us _ ws => us ++ ws) (by simp) (by simp) (fun r1 _ r3 => r1.append r3) fun D doc pm an cdv ct us mv ws l1 l2 l3 => match us, mv, ws, l1, l2, l3 with
      | [_], [], [_, _], _, _, _ => rfl
    exact h
  · have rev : ∀ {vs : List V} {us : List Value}, Vals vs us → Vals vs.reverse us.reverse := fun {vs us} r => by
      induction r with
      | nil => exact .nil
      | cons a _ ih =>
        rw [List.reverse_cons, List.reverse_cons]
        exact ih.append (.cons a .nil)
    obtain ⟨mv, h⟩ := FunD.kbinds0 (ps := kps) F 1 ["calm", "turns"] [] (fun us _ ws => us ++ ws.reverse) (by simp) (by simp) (fun r1 _ r3 => r1.append (rev r3)) fun D doc pm an cdv ct us mv ws l1 l2 l3 => match us, mv, ws, l1, l2, l3 with
      | [_], [], [_, _], _, _, _ => rfl
    exact h
  · exact FunD.binds0 (ps := kps) F 2 (by simp) rfl fun D doc pm an cdv ct us ks l1 l2 => match us, ks, l1, l2 with
      | [_, _], [_], _, _ => ⟨_, _, _, _, _, _, rfl, rfl, rfl⟩
  · exact FunD.kbinds0 (ps := kps) F 1 ["turns"] [("calm", .bl false)] (fun us mz ws => us ++ (ws ++ mz)) (by simp) (by simp) (fun r1 r2 r3 => r1.append (r3.append r2)) fun D doc pm an cdv ct us mv ws l1 l2 l3 => match us, mv, ws, l1, l2, l3 with
      | [_], [_], [_], _, _, _ => ⟨_, _, _, _, _, _, rfl, rfl, rfl⟩
end
/-! ### Beginning at the head -/
def e0A (K : PySem.W.Frag) : Addr := He.dflAt ("Beginning", some "__init__") 0 K
def othB (K : PySem.W.Frag) (a : Addr) : Bool := match refsIn K a with
  | [b0, b1, b2] => tupB K a [.ref b0, .ref b1, .ref b2] && (tupB K b0 [.int 1, .int 2] && (tupB K b1 [.int 0, .int 2] && tupB K b2 [.int 0, .int 1]))
  | _ => false
theorem othB_ok {K : PySem.W.Frag} {a : Addr} (h : othB K a = true) : ∃ b0 b1 b2 : Addr, (∀ H, SqT K H a [.ref b0, .ref b1, .ref b2]) ∧ (∀ H, SqT K H b0 [.int 1, .int 2]) ∧ (∀ H, SqT K H b1 [.int 0, .int 2]) ∧ ∀ H, SqT K H b2 [.int 0, .int 1] := by
  unfold othB at h
  split at h
  · rename_i b0 b1 b2 _
    obtain ⟨h1, h⟩ := He.ba h
    obtain ⟨h2, h⟩ := He.ba h
    obtain ⟨h3, h4⟩ := He.ba h
    exact ⟨b0, b1, b2, tupB_ok h1, tupB_ok h2, tupB_ok h3, tupB_ok h4⟩
  · cases h
def idxB (K : PySem.W.Frag) (x : Str) : Bool := ercB K bVE x "index" && decide (PySem.W.typeIn K (.ref (He.ga K x)) = some (.type "type"))
def tmB (K : PySem.W.Frag) : Bool := ercB K bAE "TooMany" "limit" && decide (PySem.W.typeIn K (.ref (He.ga K "TooMany")) = some (.type "type"))
end L2.K15
set_option Elab.async false
set_option linter.all false
set_option maxRecDepth 100000
set_option maxHeartbeats 0
namespace L2.K15
open PySem PySem.Spec PyProof.Rows L2.Tb
/-! ### the head -/
def frees : List Str := [("len" : Str), ("int" : Str), ("abs" : Str), ("divmod" : Str), ("isinstance" : Str), ("tuple" : Str), ("list" : Str), ("bool" : Str), ("all" : Str), ("zip" : Str), ("range" : Str), ("max" : Str), ("min" : Str), ("enumerate" : Str), ("repr" : Str), ("sorted" : Str), ("ValueError" : Str), ("LookupError" : Str), ("ArithmeticError" : Str), ("str" : Str), ("dict" : Str), ("any" : Str)]
def gloL : List Str := [("InvalidTurns" : Str), ("InvalidFlag" : Str), ("NotAKind" : Str), ("InvalidNumber" : Str), ("InvalidName" : Str), ("NotAFormula" : Str), ("InvalidTriples" : Str), ("Clash" : Str), ("InvalidContents" : Str), ("TooMany" : Str), ("Kind" : Str), ("LOTS" : Str), ("OTHERS" : Str), ("Beginning" : Str), ("WrongValue" : Str), ("Formula" : Str), ("is_integer" : Str), ("is_triple" : Str), ("is_name" : Str), ("letter" : Str), ("signed_triple" : Str), ("check_formula" : Str), ("_signed" : Str), ("_in_order" : Str)] ++ [("check_kind" : Str), ("is_thing" : Str), ("_check_triples" : Str), ("_check_contents" : Str), ("_is_content" : Str), ("_key" : Str), ("_completed" : Str), ("_value" : Str), ("_with_triples" : Str), ("_law_purse" : Str), ("_law_pick" : Str), ("_law_kind" : Str), ("_law_turns" : Str), ("_law_images" : Str), ("_law_clash" : Str), ("_law_names" : Str), ("_law_form" : Str), ("_law_text" : Str), ("_law_made" : Str), ("_law_rules" : Str), ("_law_mixed" : Str), ("_law_square" : Str), ("_law_fits" : Str), ("_law_begun" : Str)] ++ [("_law_told" : Str), ("_law_bent" : Str), ("_law_right" : Str), ("law" : Str)]
def errL : List Str := ["InvalidTurns", "InvalidFlag", "NotAKind", "InvalidNumber", "InvalidName", "NotAFormula"]
def oddT0 : List String := ["NoneType", "bool", "int", "str", "list", "tuple", "dict"]

def factB (K : PySem.W.Frag) : Bool := gloL.all (fun x => (He.Fa.glo x).ok K) && (frees.all (fun x => (He.Fa.free x).ok K) && (errsB K errL && ((He.Fa.str "_CALM" "calm ").ok K && (kindB K (He.ga K "Kind") && (lotsB K (He.ga K "LOTS") && (othB K (He.ga K "OTHERS") && ((He.Fa.int "MOST_THINGS" 600).ok K && (idxB K "InvalidTriples" && (idxB K "Clash" && (idxB K "InvalidContents" && (tmB K && ((He.Fa.cls "Beginning").ok K && ((He.Fa.noat "Beginning" "_kind").ok K && ((He.Fa.noat "Beginning" "_size").ok K && ((He.Fa.noat "Beginning" "_tables").ok K && ((He.Fa.mkr "Beginning").ok K && (insB K (He.ga K "Beginning") && (decide (PySem.W.kitOne K (.ref (He.ga K "Beginning")) (.ref (He.ga K "Beginning")) = some true) && (tupB K (e0A K) [] && ((He.Fa.meth "Beginning" "value").ok K && ((oddT0.all fun T => decide (PySem.W.kitOne K (.type T) (.ref (He.ga K "Formula")) = some false)) && (xfB K (He.ga K "InvalidContents") && (decide (PySem.W.exmOne K (.ref (He.ga K "InvalidContents")) (.ref (He.ga K "NotAFormula")) = some false) && (decide (PySem.W.exmOne K (.ref (He.ga K "InvalidContents")) (.ref (He.ga K "InvalidContents")) = some true) && (decide (PySem.W.kitOne K (.ref (He.ga K "NotAFormula")) (.ref (He.ga K "WrongValue")) = some true) && (decide (PySem.W.kitOne K (.ref (He.ga K "InvalidContents")) (.ref (He.ga K "WrongValue")) = some true) && ((He.Fa.str "_LETTERS" "abcdefghijklmnopqrstuvwxyz").ok K && ((He.Fa.str "_DIGITS" "0123456789").ok K && ((He.Fa.int "_LONGEST_NAME" 8).ok K && ((He.Fa.int "MOST_OPERATIONS" 8).ok K && ((He.Fa.cls "Formula").ok K && ((He.Fa.noat "Formula" "_sign").ok K && ((He.Fa.noat "Formula" "_name").ok K && ((He.Fa.noat "Formula" "_left").ok K && ((He.Fa.noat "Formula" "_right").ok K && ((He.Fa.noat "Formula" "_text").ok K && ((He.Fa.noat "Formula" "_signs").ok K && ((He.Fa.noat "Formula" "_inner").ok K && ((He.Fa.mkr "Formula").ok K && (insB K (He.ga K "Formula") && (decide (PySem.W.kitOne K (.ref (He.ga K "Formula")) (.ref (He.ga K "Formula")) = some true) && (He.eqO (PySem.W.findIn K (.ref (He.ga K "Formula")) "__format__") (some (some (.builtin "object.__format__"))) && (He.eqO (PySem.W.findIn K (.ref (He.ga K "Formula")) "__ne__") (some (some (.builtin "object.__ne__"))) && ((He.Fa.meth "Formula" "__mul__").ok K && ((He.Fa.meth "Formula" "__floordiv__").ok K && ((He.Fa.meth "Formula" "__rshift__").ok K && ((He.Fa.meth "Formula" "__contains__").ok K && ((He.Fa.meth "Formula" "__len__").ok K && ((He.Fa.meth "Formula" "__eq__").ok K && ((He.Fa.meth "Formula" "__str__").ok K && (propB K (He.ga K "Formula") "sign" && (propB K (He.ga K "Formula") "name" && (propB K (He.ga K "Formula") "left" && (propB K (He.ga K "Formula") "right" && (propB K (He.ga K "Formula") "parts" && (PySem.W.selfFirst K (He.ga K "Formula") && (He.eqO (PySem.W.findIn K (.ref (He.ga K "Formula")) (dunderR Operator.Mult.info.2)) (some none) && (He.eqO (PySem.W.findIn K (.ref (He.ga K "Formula")) (dunderR Operator.FloorDiv.info.2)) (some none) && (He.eqO (PySem.W.findIn K (.ref (He.ga K "Formula")) (dunderR Operator.RShift.info.2)) (some none))))))))))))))))))))))))))))))))))))))))))))))))))))))))))))
def dIn (at_ : PySem.W.Frag → Addr) (x q : Str) (st : Stmt) (kw : List (Str × He.Dv)) : He5.DefA := ⟨at_, x, q, defArgs st, defBody st, defScope st, [], kw⟩
def dTop (x : Str) (i : Nat) : He5.DefA := dIn (fun K => He.fAd K (x, none)) x x (top i) []
def fnA1 : List He5.DefA := [dTop "is_integer" 21, dTop "is_triple" 22, dTop "is_name" 23, dTop "letter" 28, dTop "signed_triple" 30, dTop "check_formula" 31, dTop "_signed" 32, dTop "_in_order" 33, dTop "check_kind" 41, dTop "is_thing" 46, dTop "_check_triples" 49, dTop "_check_contents" 51, dTop "_is_content" 52, dTop "_key" 53, dTop "_completed" 54, dTop "_value" 55, dTop "_with_triples" 56, dTop "_law_purse" 59, dTop "_law_pick" 60, dTop "_law_kind" 61, dTop "_law_turns" 62, dTop "_law_images" 63, dTop "_law_clash" 64, dTop "_law_names" 65] ++ [dTop "_law_form" 66, dTop "_law_text" 67, dTop "_law_made" 68, dTop "_law_rules" 69, dTop "_law_mixed" 70, dTop "_law_square" 71, dTop "_law_fits" 72, dTop "_law_begun" 73, dTop "_law_told" 74, dTop "_law_bent" 75, dTop "_law_right" 76, dTop "law" 77]
def fnA2 : List He5.DefA := [dIn (fun K => He.ma K (He.ga K "InvalidTurns") "__init__") "__init__" "InvalidTurns.__init__" (inClass (top 7) 0) [], dIn (fun K => He.ma K (He.ga K "InvalidFlag") "__init__") "__init__" "InvalidFlag.__init__" (inClass (top 5) 0) [], dIn (fun K => He.ma K (He.ga K "NotAKind") "__init__") "__init__" "NotAKind.__init__" (inClass (top 8) 0) [], dIn (fun K => He.ma K (He.ga K "InvalidNumber") "__init__") "__init__" "InvalidNumber.__init__" (inClass (top 6) 0) [], dIn (fun K => He.ma K (He.ga K "InvalidName") "__init__") "__init__" "InvalidName.__init__" (inClass (top 3) 0) [], dIn (fun K => He.ma K (He.ga K "NotAFormula") "__init__") "__init__" "NotAFormula.__init__" (inClass (top 9) 0) [], dIn (fun K => He.ma K (He.ga K "InvalidTriples") "__init__") "__init__" "InvalidTriples.__init__" (inClass (top 12) 0) [], dIn (fun K => He.ma K (He.ga K "Clash") "__init__") "__init__" "Clash.__init__" (inClass (top 14) 0) [], dIn (fun K => He.ma K (He.ga K "InvalidContents") "__init__") "__init__" "InvalidContents.__init__" (inClass (top 13) 0) [], dIn (fun K => He.ma K (He.ga K "TooMany") "__init__") "__init__" "TooMany.__init__" (inClass (top 16) 0) [], dIn (fun K => He.ma K (He.ga K "Kind") "__init__") "__init__" "Kind.__init__" (inClass (top 40) 0) [("calm", .bl false)], dIn (fun K => pAd K (He.ga K "Kind") "calm") "calm" "Kind.calm" (inClass (top 40) 3) [], dIn (fun K => pAd K (He.ga K "Kind") "lot") "lot" "Kind.lot" (inClass (top 40) 4) [], (⟨fun K => He.ma K (He.ga K "Beginning") "__init__", "__init__", "Beginning.__init__", defArgs (inClass (top 45) 0), defBody (inClass (top 45) 0), defScope (inClass (top 45) 0), [He.Dv.adr e0A], []⟩ : He5.DefA), dIn (fun K => He.ma K (He.ga K "Beginning") "value") "value" "Beginning.value" (inClass (top 45) 9) [], dIn (fun K => He.ma K (He.ga K "Formula") "__init__") "__init__" "Formula.__init__" (inClass (top 29) 0) [], dIn (fun K => He.ma K (He.ga K "Formula") "__mul__") "__mul__" "Formula.__mul__" (inClass (top 29) 9) [], dIn (fun K => He.ma K (He.ga K "Formula") "__floordiv__") "__floordiv__" "Formula.__floordiv__" (inClass (top 29) 10) [], dIn (fun K => He.ma K (He.ga K "Formula") "__rshift__") "__rshift__" "Formula.__rshift__" (inClass (top 29) 11) [], dIn (fun K => He.ma K (He.ga K "Formula") "__contains__") "__contains__" "Formula.__contains__" (inClass (top 29) 12) [], dIn (fun K => He.ma K (He.ga K "Formula") "__len__") "__len__" "Formula.__len__" (inClass (top 29) 13) [], dIn (fun K => He.ma K (He.ga K "Formula") "__eq__") "__eq__" "Formula.__eq__" (inClass (top 29) 15) [], dIn (fun K => He.ma K (He.ga K "Formula") "__str__") "__str__" "Formula.__str__" (inClass (top 29) 16) [], dIn (fun K => pAd K (He.ga K "Formula") "sign") "sign" "Formula.sign" (inClass (top 29) 2) []] ++ [dIn (fun K => pAd K (He.ga K "Formula") "name") "name" "Formula.name" (inClass (top 29) 3) [], dIn (fun K => pAd K (He.ga K "Formula") "left") "left" "Formula.left" (inClass (top 29) 4) [], dIn (fun K => pAd K (He.ga K "Formula") "right") "right" "Formula.right" (inClass (top 29) 5) [], dIn (fun K => pAd K (He.ga K "Formula") "parts") "parts" "Formula.parts" (inClass (top 29) 7) []]
def fnA : List He5.DefA := fnA1 ++ fnA2
def tabL : List He.Tab := [(fun K => He.ga K "LOTS", wordsD)]
def cdL : List He.Defn := []
abbrev hookX : PySem.W.Hook := hookH 5 factB fnA tabL cdL
abbrev R : PySem.W.OpenRow := PySem.W.OpenLaw.row PySem.Challenge.rw_thirdback_k15_contents_refused
def ob (s : PySem.W.SharedT) : AlH := obsH 5 factB fnA tabL cdL (HandSHeadRun.getT s)
theorem ob_eq (s : PySem.W.SharedT) : ob s = hookX.obs s.abs := obH_eq s
def looseN : List Str := [("WrongValue" : Str), ("InvalidName" : Str), ("InvalidText" : Str), ("InvalidFlag" : Str), ("InvalidNumber" : Str), ("InvalidTurns" : Str), ("NotAKind" : Str), ("NotAFormula" : Str), ("NotABeginning" : Str), ("OtherKind" : Str), ("InvalidTriples" : Str), ("InvalidContents" : Str), ("Clash" : Str), ("NoAnswer" : Str), ("TooMany" : Str), ("Formula" : Str), ("Kind" : Str), ("Beginning" : Str), ("_LETTERS" : Str), ("_DIGITS" : Str), ("_LONGEST_NAME" : Str), ("MOST_OPERATIONS" : Str), ("MOST_THINGS" : Str), ("SIGNS" : Str)] ++ [("LOTS" : Str), ("OTHERS" : Str), ("_CALM" : Str), ("_wall" : Str), ("is_integer" : Str), ("is_triple" : Str), ("is_name" : Str), ("letter" : Str), ("signed_triple" : Str), ("check_formula" : Str), ("_signed" : Str), ("_in_order" : Str), ("_parsed" : Str), ("_closed" : Str), ("check_kind" : Str), ("_holds" : Str), ("_least_lot" : Str), ("is_thing" : Str), ("check_beginning" : Str), ("_check_other" : Str), ("_check_triples" : Str), ("_check_things" : Str), ("_check_contents" : Str), ("_is_content" : Str)] ++ [("_key" : Str), ("_completed" : Str), ("_value" : Str), ("_with_triples" : Str), ("_made" : Str), ("_law_purse" : Str), ("_law_pick" : Str), ("_law_kind" : Str), ("_law_turns" : Str), ("_law_images" : Str), ("_law_clash" : Str), ("_law_names" : Str), ("_law_form" : Str), ("_law_text" : Str), ("_law_made" : Str), ("_law_rules" : Str), ("_law_mixed" : Str), ("_law_square" : Str), ("_law_fits" : Str), ("_law_begun" : Str), ("_law_told" : Str), ("_law_bent" : Str), ("_law_right" : Str)]
theorem run_f (w : World) : HandSHeadRun.RunEq R (PySem.W.view R.prog [77]) hookX ob 20000 looseN (w.withFollow "special-get-raises" false) := fun os => by kernel_rfl
theorem run_t (w : World) : HandSHeadRun.RunEq R (PySem.W.view R.prog [77]) hookX ob 20000 looseN (w.withFollow "special-get-raises" true) := fun os => by kernel_rfl
theorem run (w : World) : HandSHeadRun.RunEq R (PySem.W.view R.prog [77]) hookX ob 20000 looseN w :=
  PySem.W.byRow2 "special-get-raises" (P := fun w => HandSHeadRun.RunEq R (PySem.W.view R.prog [77]) hookX ob 20000 looseN w) run_f run_t w
end L2.K15
set_option Elab.async false
set_option linter.all false
set_option maxRecDepth 100000
set_option maxHeartbeats 8000000
namespace L2.K15
open PySem PySem.Spec PyProof.Rows L2.Tb
open SX (S)
/-! ### drawn names -/
def lowB (c : Nat) : Bool := Nat.ble 97 c && Nat.ble c 122
def signB (c : Nat) : Bool := lowB c || (Nat.ble 48 c && Nat.ble c 57)
/-- a right name -/
def nameB : List Nat → Bool
  | [] => false
  | c :: r => lowB c && (Nat.ble r.length 7 && r.all signB)
theorem nameB_snoc {l : List Nat} {c : Nat} (h : nameB l = true) (hl : l.length ≤ 7) (hc : signB c = true) : nameB (l ++ [c]) = true := by
  cases l with
  | nil => cases h
  | cons a r =>
    simp only [nameB, Bool.and_eq_true, Nat.ble_eq] at h
    simp only [List.cons_append, nameB, Bool.and_eq_true, Nat.ble_eq, List.length_append, List.length_singleton, List.all_append, List.all_cons, List.all_nil, Bool.and_true]
    have : (a :: r).length = r.length + 1 := rfl
    exact ⟨h.1, by omega, h.2.2, hc⟩
theorem nameB_len {l : List Nat} (h : nameB l = true) : 1 ≤ l.length ∧ l.length ≤ 8 := by
  cases l with
  | nil => cases h
  | cons a r =>
    simp only [nameB, Bool.and_eq_true, Nat.ble_eq] at h
    have : (a :: r).length = r.length + 1 := rfl
    omega
theorem low_at : ∀ k : Nat, k < 26 → (Str.ofString "abcdefghijklmnopqrstuvwxyz").cps.toList[k]? = some (97 + k) := by decide +kernel
def signAt (k : Nat) : Nat := if k < 26 then 97 + k else 22 + k
theorem sign_at : ∀ k : Nat, k < 36 → (Str.ofString "abcdefghijklmnopqrstuvwxyz0123456789").cps.toList[k]? = some (signAt k) ∧ signB (signAt k) = true := by decide +kernel
theorem str_S (z : Str) : z = S z.cps.toList := by
  obtain ⟨a⟩ := z
  simp
theorem nodup_sub {α : Type} [DecidableEq α] : ∀ {l m : List α}, l.Nodup → (∀ x ∈ l, x ∈ m) → l.length ≤ m.length
  | [], _, _, _ => Nat.zero_le _
  | a :: l, m, h, s => by
    have ha := s a List.mem_cons_self
    have hn := List.nodup_cons.mp h
    have ih := nodup_sub (m := m.erase a) hn.2 fun x hx => (List.mem_erase_of_ne (fun e => hn.1 (by rw [← e]; exact hx))).mpr (s x (List.mem_cons_of_mem _ hx))
    rw [List.length_erase_of_mem ha] at ih
    have := List.length_pos_of_mem ha
    rw [List.length_cons]
    omega
def nmV (l : List Nat) : V := .str (S l)
theorem nmV_inj {a b : List Nat} (h : nmV a = nmV b) : a = b := by
  unfold nmV at h
  injection h with h
  exact SX.S_inj h
theorem inV_names {a : List Nat} : ∀ {ls : List (List Nat)}, inV (nmV a) (ls.map nmV) = decide (a ∈ ls)
  | [] => by simp [inV]
  | l :: ls => by
    have ih := inV_names (a := a) (ls := ls)
    unfold inV at ih ⊢
    rw [List.map_cons, List.any_cons, ih]
    by_cases c : l = a
    · subst c
      simp [eqV, nmV]
    · have c2 : ¬ a = l := fun e => c e.symm
      have c3 : (S l == S a) = false := beq_eq_false_iff_ne.mpr fun e => c (SX.S_inj e)
      simp [eqV, nmV, c3, c2]
theorem names_flat (ls : List (List Nat)) : (ls.map nmV).all flatV = true := List.all_eq_true.mpr fun x hx => by
  obtain ⟨z, _, rfl⟩ := List.mem_map.mp hx
  rfl
theorem paired_app {α β : Type} {R : α → β → Prop} : ∀ {xs xs' : List α} {ys ys' : List β}, Paired R xs ys → Paired R xs' ys' → Paired R (xs ++ xs') (ys ++ ys')
  | _, _, _, _, .nil, h => h
  | _, _, _, _, .cons r t, h => .cons r (paired_app t h)
abbrev s_is_name : Stmt := top 23
abbrev N_is_name : List Str := ["value", "sign"]
theorem sc_is_name : FnScope N_is_name ["value"] (defScope s_is_name) := ⟨rfl, rfl, rfl, by decide +kernel, rfl, by decide +kernel, by decide +kernel⟩
def lettersS : Str := "abcdefghijklmnopqrstuvwxyz"
def digitsS : Str := "0123456789"
/-- the constants of the checks -/
structure ChF (mg : Str → Option Value) : Prop where
  mL : ∃ t, mg "_LETTERS" = some (.str lettersS t)
  mD : ∃ t, mg "_DIGITS" = some (.str digitsS t)
  mM : ∃ t, mg "_LONGEST_NAME" = some (.int 8 t)
def digB (c : Nat) : Bool := Nat.ble 48 c && Nat.ble c 57
theorem low_in {c : Nat} (h : lowB c = true) : c ∈ lettersS.cps.toList := by
  simp only [lowB, Bool.and_eq_true, Nat.ble_eq] at h
  have e := low_at (c - 97) (by omega)
  rw [show 97 + (c - 97) = c by omega] at e
  exact List.mem_of_getElem? e
theorem dig_at : ∀ k : Nat, k < 10 → digitsS.cps.toList[k]? = some (48 + k) := by decide +kernel
theorem dig_in {c : Nat} (h : digB c = true) : c ∈ digitsS.cps.toList := by
  simp only [digB, Bool.and_eq_true, Nat.ble_eq] at h
  have e := dig_at (c - 48) (by omega)
  rw [show 48 + (c - 48) = c by omega] at e
  exact List.mem_of_getElem? e
theorem low_eq (c : Nat) : decide (c ∈ lettersS.cps.toList) = lowB c := by
  have all : ∀ c ∈ lettersS.cps.toList, lowB c = true := by decide +kernel
  cases h : lowB c with
  | true => exact decide_eq_true (low_in h)
  | false => exact decide_eq_false fun m => by rw [all c m] at h; cases h
theorem dig_eq (c : Nat) : decide (c ∈ digitsS.cps.toList) = digB c := by
  have all : ∀ c ∈ digitsS.cps.toList, digB c = true := by decide +kernel
  cases h : digB c with
  | true => exact decide_eq_true (dig_in h)
  | false => exact decide_eq_false fun m => by rw [all c m] at h; cases h
theorem slenB {l : List Nat} (h : l.length ≤ 100000) : (S l).length ≤ sizeLine := by
  rw [SX.S_len, sizeLine_eq]
  omega
theorem nameB_cons (a : Nat) (r : List Nat) (h : (a :: r).length ≤ 8) : nameB (a :: r) = (lowB a && (a :: r).all signB) := by
  have hr : Nat.ble r.length 7 = true := Nat.ble_eq.mpr (by simp only [List.length_cons] at h; omega)
  rw [nameB, hr, Bool.true_and, List.all_cons]
  cases c : lowB a with
  | true => rw [show signB a = true by unfold signB; rw [c]; rfl, Bool.true_and, Bool.true_and]
  | false => rfl
/-- any text, or what is none -/
def spIsName (K : PySem.W.Frag) : Sp := fun vs H Q _ => ∃ v : V, vs = [v] ∧ ((∃ l : List Nat, v = .str (S l) ∧ l.length ≤ 10000 ∧ ∀ H', Same H H' → Q (.bl (nameB l)) H') ∨ (NoS K H v ∧ Q (.bl false) H))
section
variable {P : Program} {w : World} {K : PySem.W.Frag} {mg : Str → Option Value} {base : Heap} {f : Addr} {fd : FuncData}
theorem and_go {ta tb : TE} {σ : St} {H : Hp} {Q : VK} (h : ta σ H fun x H1 => ∃ c, x = .bl c ∧ if c = true then tb σ H1 Q else Q (.bl false) H1) : tAndV ta tb σ H Q := h
theorem c_is_name (T : Bt mg) (mstr : mg "str" = none) (CF : ChF mg) (F : FnP K "is_name" s_is_name f fd) (hm : mg "is_name" = some (.ref f)) : Cal P w K mg base 1 "is_name" (spIsName K) := by
  have hnd := sc_is_name.nd
  obtain ⟨tl, hl⟩ := CF.mL
  obtain ⟨td, hdg⟩ := CF.mD
  obtain ⟨tm, hmx⟩ := CF.mM
  refine cal_mk F hm sc_is_name (fun _ _ _ _ _ _ us hl => match us, hl with | [_], _ => rfl) (fun vs H Q E h => ?_) (fun cdv A outer s H vs Q E hr h => ?_)
  · obtain ⟨v, rfl, _⟩ := h
    rfl
  · obtain ⟨v, rfl, h⟩ := h
    refine ⟨_, (pss_cons (ps_if (PW.pt (pw_or (pt_not (pt_val (pe_callB call_isi (by rfl) T.m_isinstance (by decide +kernel) (pa_cons (pv 0) (pa_cons (pe_bltn (v := .ty "str") (by rfl) mstr (by decide +kernel) rfl) pa_nil))))) (pw_or1 (pt_not (pt_chain op_le op_le pe_int (pe_callB call_len_str (by rfl) T.m_len (by decide +kernel) (pa_cons (pv 0) pa_nil)) (pe_glob (v := .int 8) (by rfl) hmx ⟨_, rfl⟩))))))
      (pss_one (ps_ret pe_bl))
      pss_nil)
      (pss_one (ps_ret (pe_and (pe_cmpR op_in_sign (pe_ix ix_str (pv 0) pe_int (fun _ _ => rfl)) (pe_glob (v := .str lettersS) (by rfl) hl ⟨_, rfl⟩) (by rfl)) (pe_one (pe_callB (cr_all (by rfl)) (by rfl) T.m_all (by decide +kernel) (pa_cons (pe_lc (own := [("sign", 1)]) (tt := tYes) (by rfl) hnd (pi_str (pv 0)) (blkOk_by (own := [("sign", 1)]) (N := N_is_name) (sc := defScope s_is_name) (by decide +kernel)) (fun _ _ _ _ _ => (pg_name (i := 1) hnd rfl (by first | exact Or.inl rfl | exact Or.inr rfl))) (fun _ _ _ _ _ => pts_nil) (fun _ _ _ _ _ => (pe_or (pe_cmpR op_in_sign (pv 1) (pe_glob (v := .str lettersS) (by rfl) hl ⟨_, rfl⟩) (by rfl)) (pe_one (pe_cmpR op_in_sign (pv 1) (pe_glob (v := .str digitsS) (by rfl) hdg ⟨_, rfl⟩) (by rfl)))))) pa_nil))))))), ?_⟩
    rcases h with ⟨l, rfl, l4, q⟩ | ⟨hb, q⟩
    · have sl := slenB (l := l) (by omega)
      refine ⟨_, rfl, _, _, _, _, _, rfl, .ty _, .base (.str _), (by rfl : PySem.W.kitOne K (.type "str") (.type "str") = some true), _, rfl, iteF ?_⟩
      refine ⟨_, rfl, _, rfl, sl, _, _, rfl, rfl, _, rfl, ?_⟩
      rw [SX.S_len]
      by_cases c1 : 1 ≤ l.length
      · rw [decide_eq_true (show (1 : Int) ≤ (l.length : Nat) by omega)]
        refine iteT ⟨_, _, rfl, rfl, _, rfl, ?_⟩
        show if (!decide (((l.length : Nat) : Int) ≤ 8)) = true then _ else _
        by_cases c8 : l.length ≤ 8
        · rw [decide_eq_true (show ((l.length : Nat) : Int) ≤ 8 by omega)]
          refine iteF ?_
          dsimp only [tNext]
          obtain ⟨a, r, rfl⟩ : ∃ a r, l = a :: r := by
            cases l with
            | nil => exact absurd c1 (by decide)
            | cons a r => exact ⟨a, r, rfl⟩
          refine ret_go ?_
          refine and_go ?_
          refine ⟨_, rfl, S (a :: r), 0, a, rfl, rfl, sl, atI_nat (j := 0) rfl, a, _, rfl, rfl, _, rfl, ?_⟩
          rw [low_eq]
          cases ca : lowB a with
          | false =>
            refine iteF ?_
            have := q H (Same.refl _)
            rw [nameB_cons a r c8, ca] at this
            exact this
          | true =>
            refine iteT (cb_one ⟨_, rfl, S (a :: r), rfl, fun D nD => ?_⟩)
            refine lc_it walk_str (fun i G => Same H G ∧ G D = some (.lst (((a :: r).take i).map fun c => .bl (signB c)))) ⟨same_new nD, upd_same⟩ (fun _ _ _ _ => trivial) ?_ ?_
            · rintro i x G G' hi ⟨sg, eg⟩ ⟨rfl, c, hc, rfl⟩
              have hc' : (a :: r)[i]? = some c := by simpa using hc
              have li : i < (a :: r).length := (List.getElem?_eq_some_iff.mp hc').1
              refine ⟨rfl, ?_⟩
              unfold tYes
              dsimp only
              rw [if_pos rfl]
              have fin : ∃ acc, G' D = some (.lst acc) ∧ acc.length < sizeLine ∧ (Same H (upd G' D (.lst (acc ++ [V.bl (signB c)]))) ∧ upd G' D (.lst (acc ++ [V.bl (signB c)])) D = some (.lst (((a :: r).take (i + 1)).map fun c => .bl (signB c)))) :=
                ⟨_, eg, by rw [List.length_map, List.length_take, sizeLine_eq]; omega, same_pt nD sg, by rw [upd_same, List.take_add_one, hc', List.map_append]; rfl⟩
              refine ⟨_, rfl, c, _, rfl, rfl, _, rfl, ?_⟩
              rw [low_eq]
              cases c1 : lowB c with
              | true =>
                rw [show signB c = true by unfold signB; rw [c1]; rfl] at fin
                exact iteT fin
              | false =>
                rw [show signB c = digB c by unfold signB digB; rw [c1]; rfl] at fin
                refine iteF ⟨_, rfl, c, _, rfl, rfl, ?_⟩
                rw [dig_eq]
                exact fin
            · rintro G ⟨sg, eg⟩
              rw [show (S (a :: r)).cps.size = (a :: r).length from by simp, List.take_length] at eg
              refine ⟨D, (a :: r).map signB, rfl, SqL.of (by rw [eg, List.map_map]; rfl), ?_⟩
              have := q G sg
              rw [nameB_cons a r c8, ca, Bool.true_and] at this
              rw [List.all_map]
              exact this
        · rw [decide_eq_false (show ¬ ((l.length : Nat) : Int) ≤ 8 by omega)]
          refine iteT ?_
          have := q H (Same.refl _)
          rw [show nameB l = false from by
            cases e : nameB l with
            | false => rfl
            | true => exact absurd (nameB_len e).2 c8] at this
          exact this
      · rw [decide_eq_false (show ¬ (1 : Int) ≤ (l.length : Nat) by omega)]
        refine iteF ⟨_, rfl, iteT ?_⟩
        have := q H (Same.refl _)
        rw [show l = [] from List.eq_nil_of_length_eq_zero (by omega)] at this
        exact this
    · obtain ⟨T0, ty, k⟩ := hb.ex
      exact ⟨_, rfl, _, _, _, _, _, rfl, .ty _, ty, k, _, rfl, iteT (iteT q)⟩
end
end L2.K15
set_option Elab.async false
set_option linter.all false
set_option maxRecDepth 100000
set_option maxHeartbeats 4000000
/-! if and for in a generator's body -/
namespace L2.Tb
open PySem PySem.Spec PyProof.Rows
section
variable {X : Cx} {test : Expr} {body orelse : List Stmt} {pos : Pos} {tc : TT} {tb to : TGn}
def tGIf (c : TT) (tb to : TGn) : TGn := fun D ys σ H => c σ H fun b H1 => if b = true then tb D ys σ H1 else to D ys σ H1
theorem gs_if (hc : PT X test tc) (hb : GSs X body tb) (ho : GSs X orelse to) : GS X (.If test body orelse pos) (tGIf tc tb to) := by
  refine ⟨fun A S ip R n ys s₀ c fs K J gd lv s σ H D g hn k hI ht => ?_⟩
  obtain ⟨acc, cc, r, I⟩ := id hI
  show Seg _ _ _ _ _ _ _ (.at pos fun _ => (isTrue test X.env (eval test X.env) >>= fun b => if b then execs body X.env else execs orelse X.env).wrap K J gd lv) _ _
  refine seg_at (seg_bind_wrap ?_)
  rw [g.over]
  refine wpAny_mono (hc.run _ s σ H _ I ht) (fun b s' hb' => ?_) fun x s' hx => k.exc n s₀ x s' hx
  obtain ⟨H2, I2, q2⟩ := hb'
  cases b with
  | true =>
    rw [if_pos rfl] at q2
    exact hb.run A S ip R n ys s₀ c fs K J gd lv s' σ H2 D g hn k ⟨acc, cc, r, I2⟩ q2
  | false =>
    rw [if_neg Bool.false_ne_true] at q2
    exact ho.run A S ip R n ys s₀ c fs K J gd lv s' σ H2 D g hn k ⟨acc, cc, r, I2⟩ q2
end
section
variable {X : Cx} {tg iter : Expr} {body : List Stmt} {pos : Pos} {wi : TI} {gt : TG} {tb : TGn}
def tGFor (wi : TI) (g : TG) (tb : TGn) : TGn := fun D ys σ H => wi σ H fun J H1 => ∃ W : Nat → Nat → List V → St → Hp → Prop, (∃ m, W 0 m ys σ H1) ∧ ∀ i m ys σ H, W i m ys σ H →
  (J.stop i H ∧ D.nx ys σ H) ∨ (J.go i H ∧ ∃ N : List V → St → Hp → Prop, (∀ ys' σ' H', N ys' σ' H' → ∃ m', m' < m ∧ W (i + 1) m' ys' σ' H') ∧ ∀ x H', J.yld i H x H' → g x σ H' fun σ2 H2 => tb { D with nx := N, ct := N, bk := D.nx } ys σ2 H2)
theorem fp_move {S : Addr} {o o' : Obj} {ip : List (Addr × Obj)} {H H' : Hp} {b : Addr} (h : FpOk X ((S, o) :: ip) H b) (n : H' b = none) : FpOk X ((S, o') :: ip) H' b := by
  obtain ⟨_, f1, f2, f3, f4, f5⟩ := h
  refine ⟨n, f1, f2, f3, f4, fun p hp => ?_⟩
  rcases List.mem_append.mp hp with hp | hp
  · exact f5 p (List.mem_append_left _ hp)
  · rcases List.mem_cons.mp hp with rfl | hp
    · exact f5 (S, o) (List.mem_append_right _ List.mem_cons_self)
    · exact f5 p (List.mem_append_right _ (List.mem_cons_of_mem _ hp))
theorem gs_for (hp : PassesOwn (model X.prog X.w) X.A X.env X.xe) (hc : X.calm = true) (hi : PI X tg iter wi) (hg : PG X tg gt) (hb : GSs X body tb) (hs : ∀ x, foldedSetIterable iter X.env x = pure x := by intro _; rfl) : GS X (.For tg iter body [] pos) (tGFor wi gt tb) := by
  refine ⟨fun A S ip R n ys s₀ c fs K J gd lv s σ H D g hn k hI ht => ?_⟩
  obtain ⟨acc0, cc0, r0, I0⟩ := id hI
  show Seg _ _ _ _ _ _ _ (.at pos fun _ => (eval iter X.env >>= fun v => foldedSetIterable iter X.env v >>= fun x => standAt iter.pos >>= fun _ => holding [x] (pyIter x) >>= fun itv => runOwn (.forLoop tg itv body [] X.env) X.env).wrap K J gd lv) _ _
  refine seg_at (seg_bind_wrap ?_)
  rw [g.over]
  refine wpAny_mono (hi.run _ s σ H _ I0 ht) (fun v s1 h1 => ?_) fun x s' hx => k.exc n s₀ x s' hx
  refine seg_bind_wrap ?_
  rw [g.over]
  refine wpAny_of_eq (hs v) ?_
  refine seg_bind_wrap ?_
  rw [g.over]
  refine wpAny_standAt (seg_bind_wrap ?_)
  rw [g.over]
  refine wpAny_holding (wpAny_mono h1 (fun itv s2 h2 => ?_) fun x s' hx => k.exc n s₀ x s' hx)
  obtain ⟨it, fp, tn, Jt, H2, e, I2, T, st2, f2, W, ⟨m0, w0⟩, turn⟩ := h2
  subst e
  refine seg_call fun p => ?_
  have gl := fun (kk : Result → Sem PySem.Fin) => gc_loop (k := kk) (c' := .forLoop tg (.ref it) body [] X.env) (l := lv []) (kp := []) (p := p) g rfl rfl
  have note : ∀ (n : Nat) (s₀ : Shared) (x : Value) (s' : Shared), X.xe x s' → Seg (model X.prog X.w) A R (GY X S) n s₀ (.forLoop tg (.ref it) body [] X.env)
      ((do noteFrame x X.env; theTreesLotGoes x : Sem Unit).bind fun _ => (.raise x : Sem PySem.Fin))
      (.ret (fun r => ((match r with | .ok f => (.pure f : Sem Flow) | .error e => .raise e).onRaise (cameBack X.env)).wrap K J gd lv) none (gd false) (lv []) c p [] :: fs) s' := fun n s₀ x s' hx => by
    rw [Sem.bind_eq_wrap]
    refine seg_wrap ?_
    rw [(gl _).over]
    refine wpAny_bind (wpAny_mono (hp x s' hx) (fun _ s'' hcb => wpAny_theTreesLotGoes ?_) fun y s'' hcb => ?_)
    · exact seg_leaf (.error x) (seg_cameBack g k hcb)
    · exact seg_leaf (.error y) (seg_cameBack g k hcb)
  have loop : ∀ (m n i : Nat) (ys : List V) (s₀ s : Shared) (σ : St) (H : Hp), n + ys.length = sizeLine → W i m ys σ H → GI X S ip ys σ H s → tn i s.heap → (∀ b ∈ fp, H b = none) →
      Seg (model X.prog X.w) A R (GY X S) n s₀ (.forLoop tg (.ref it) body [] X.env) ((model X.prog X.w).den (.forLoop tg (.ref it) body [] X.env))
        (.ret (fun r => ((match r with | .ok f => (.pure f : Sem Flow) | .error e => .raise e).onRaise (cameBack X.env)).wrap K J gd lv) none (gd false) (lv []) c p [] :: fs) s := by
    intro m
    induction m using Nat.strongRecOn with
    | ind m ih =>
      intro n i ys s₀ s3 σ3 H3 hn w3 hI3 st3 fr3
      obtain ⟨acc, cc, r, I3⟩ := hI3
      have stat : ∀ {acc : Array Value} {cc : Nat} {H' : Hp}, (∀ b ∈ fp, H' b = none) → ∀ b ∈ fp, FpOk X ((S, lstObj acc cc) :: ip) H' b := fun hn b hb => fp_move (f2 b hb) (hn b hb)
      show Seg _ _ _ _ _ _ _ ((forTurn tg (.ref it) body [] X.env).onRaise fun x => do noteFrame x X.env; theTreesLotGoes x) _ _
      unfold forTurn
      rw [Sem.onRaise_eq_wrap]
      refine seg_bind_wrap ?_
      rw [(gl _).over]
      refine wpAny_standAt (seg_bind_wrap ?_)
      rw [(gl _).over]
      refine wpAny_onRaise ?_
      rcases turn i m ys σ3 H3 w3 with ⟨stop, qn⟩ | ⟨go, N, hN, step⟩
      · refine wpAny_mono (T.done X rfl rfl rfl hc i _ s3 σ3 H3 X.xe I3 (stat fr3) st3 stop) (fun r4 s4 hr => ?_) fun x s' hx => wpAny_standAt (note n s₀ x s' hx)
        obtain ⟨hr, I4⟩ := hr
        subst hr
        show Seg _ _ _ _ _ _ _ (.pure (.again (.block [] X.env))) _ _
        refine seg_again rfl ?_
        exact seg_leaf (.ok .next) (k.ok n ys s₀ s4 .next hn ⟨σ3, H3, ⟨acc, cc, r, I4⟩, qn⟩)
      · refine wpAny_mono (T.item X rfl rfl rfl hc i _ s3 σ3 H3 X.xe I3 (stat fr3) st3 go) (fun r4 s4 hr => ?_) fun x s' hx => wpAny_standAt (note n s₀ x s' hx)
        obtain ⟨u, hr, h4⟩ := hr
        subst hr
        show Seg _ _ _ _ _ _ _ (((letOwnedTupleGo tg (.ref it) u) >>= fun _ => assign tg X.env u >>= fun _ => execs body X.env >>= fun f => match f with
          | .next | .cont => again (.forLoop tg (.ref it) body [] X.env)
          | .brk => pure (.done .next)
          | .ret v => pure (.done (.ret v))).wrap _ _ _ _) _ _
        refine seg_bind_wrap ?_
        rw [(gl _).over]
        refine wpAny_mono h4 (fun _ s5 h5 => ?_) fun x s' hx => note n s₀ x s' hx
        obtain ⟨x, H5, I5, r5, y5, st5, fr5⟩ := h5
        have I5' := I5.pinned (stat fr5) (T.obj _ _ st5)
        refine seg_bind_wrap ?_
        rw [(gl _).over]
        refine wpAny_mono (hg.run _ s5 σ3 H5 x u _ I5' r5 (step x H5 y5)) (fun _ s6 h6 => ?_) fun x s' hx => note n s₀ x s' hx
        obtain ⟨σ6, H6, I6, q6⟩ := h6
        rw [Sem.bind_eq_wrap', Sem.wrap_wrap]
        have gip : ∀ q ∈ ip ++ pinsAt fp s5.heap, q.1 ≠ S := fun q hq => (List.mem_append.mp hq).elim (g.ip q) fun z y => by
          obtain ⟨hb, _⟩ := of_pinsAt z
          obtain ⟨_, _, _, _, _, f6⟩ := f2 q.1 hb
          exact f6 _ (List.mem_append_right _ List.mem_cons_self) y.symm
        have unp : ∀ {ys' : List V} {σ7 : St} {H7 : Hp} {s7 : Shared}, GI X S (ip ++ pinsAt fp s5.heap) ys' σ7 H7 s7 → GI X S ip ys' σ7 H7 s7 ∧ tn (i + 1) s7.heap ∧ ∀ b ∈ fp, H7 b = none := fun {ys' σ7 H7 s7} ⟨acc7, cc7, r7, I7⟩ =>
          ⟨⟨acc7, cc7, r7, Inv.unpinned (pins := (S, lstObj acc7 cc7) :: ip) I7⟩,
            T.keep _ _ _ st5 fun b hb o e => (I7.pin (b, o) (List.mem_append_right _ (List.mem_cons_of_mem _ (List.mem_append_right _ (mem_pinsAt hb e))))).1, fun b hb => by
              obtain ⟨o, e, d⟩ := T.obj _ _ st5 b hb
              exact (I7.pin (b, o) (List.mem_append_right _ (List.mem_cons_of_mem _ (List.mem_append_right _ (mem_pinsAt hb e))))).2.1⟩
        refine hb.run A S (ip ++ pinsAt fp s5.heap) R n ys s₀ _ _ _ _ _ _ s6 σ6 H6 { D with nx := N, ct := N, bk := D.nx } ⟨g.pn, gip, g.apart, (gl _).over, (gl _).split, (gl _).guard, rfl⟩ hn ⟨fun n' ys' s₀' s7 f hn' hs' => ?_, fun n' s₀' x s7 hx => note n' s₀' x s7 hx⟩ ⟨acc, cc, r, I6⟩ q6
        cases f with
        | next =>
          obtain ⟨σ7, H7, I7, n7⟩ := hs'
          obtain ⟨u1, u2, u3⟩ := unp I7
          obtain ⟨m', hm, w7⟩ := hN ys' σ7 H7 n7
          exact seg_again rfl (ih m' hm n' (i + 1) ys' s₀' s7 σ7 H7 hn' w7 u1 u2 u3)
        | cont =>
          obtain ⟨σ7, H7, I7, n7⟩ := hs'
          obtain ⟨u1, u2, u3⟩ := unp I7
          obtain ⟨m', hm, w7⟩ := hN ys' σ7 H7 n7
          exact seg_again rfl (ih m' hm n' (i + 1) ys' s₀' s7 σ7 H7 hn' w7 u1 u2 u3)
        | brk =>
          obtain ⟨σ7, H7, I7, n7⟩ := hs'
          exact seg_leaf (.ok .next) (k.ok n' ys' s₀' s7 .next hn' ⟨σ7, H7, (unp I7).1, n7⟩)
        | ret v =>
          obtain ⟨x7, σ7, H7, I7, r7, q7⟩ := hs'
          exact seg_leaf (.ok (.ret v)) (k.ok n' ys' s₀' s7 (.ret v) hn' ⟨x7, σ7, H7, (unp I7).1, r7, q7⟩)
  exact loop m0 n 0 ys s₀ s2 σ H2 hn w0 ⟨acc0, cc0, r0, I2⟩ st2 fun b hb => (f2 b hb).1
end
end L2.Tb
set_option Elab.async false
set_option linter.all false
set_option maxRecDepth 100000
set_option maxHeartbeats 4000000
/-! a generator method called with keywords; ~x by an own __invert__; math.lcm -/
namespace L2.Tb
open PySem PySem.Spec PyProof.Rows
def rLcm : List V → Hp → VK → Prop := fun vs H Q => ∃ a b : Nat, vs = [.int (a : Int), .int (b : Int)] ∧ a < 2 ^ 60 ∧ b < 2 ^ 60 ∧ Q (.int ((Nat.lcm a b : Nat) : Int)) H
theorem cr_lcm {X : Cx} : CallR X (.builtin "math.lcm") rLcm := by
  intro pins s σ H vs us Q I r h
  obtain ⟨a, b, rfl, ha, hb, q⟩ := h
  obtain ⟨t, u, rfl⟩ := Vals.int2 r
  exact PySem.W.mc_lcm (by omega) (by omega) fun _ => ⟨.int _, H, I.tok _, ⟨_, rfl⟩, by
    rw [Int.natAbs_natCast, Int.natAbs_natCast]
    exact q⟩
section
variable {X : Cx} {C f : Addr} {fd : FuncData} {ps : List Str} {sp : Sp} {k : Nat}
def rOwnInv (C : Addr) (sp : Sp) : V → Hp → VK → Prop := fun x H Q => ∃ (a dx : Addr) (fs : List (Str × V)), x = .ref a ∧ H a = some (.ins C dx fs) ∧ sp [.ref a] H Q E0
theorem un_ownInv {CX : CXT} (F : FnOk X.prog X.w X.K X.mg X.base CX k f fd ps sp) (hr : Room k X.A) (hs : PySem.W.findIn X.K (.ref C) "__invert__" = some (some (.ref f))) (hf : PySem.W.isFn X.K (.ref f) = true) (hb : Binds X.K fd ps []) (hx : Passes CX X E0) : UnR X (unaryOp .Invert) (rOwnInv C sp) := by
  intro pins s σ H x v Q I rx h
  obtain ⟨a, dx, fs, rfl, ea, h⟩ := h
  obtain rfl : v = Value.ref a := rx
  obtain ⟨mA, O, _⟩ := ins_get I.hok ea
  obtain ⟨od, J, _⟩ := O.look
  obtain ⟨m, hF⟩ := I.fr
  have hl := F.len _ _ _ _ h
  refine PySem.W.ksp_inv hF I.ok.mod.kin J hs hf (wpAny_call (codeAny_mono (F.run X.A X.stack s H ⟨[.ref a], []⟩ [.ref a] [.ref a] _ E0 hr I.env0 (by
    have z := hb s [.ref a] I.kIn (by simpa using hl)
    simpa using z) (.cons rfl .nil) h) fun r s' hq => ?_))
  match r, hq with
  | .error e, hq => exact hx pins σ H s e s' I hq
  | .ok (.ret u), hq => exact I.after hq
end
section
variable {X : Cx} {k : Nat} {f C : Addr} {fd : FuncData} {ps ks : List Str} {sp : SpG} {o : Expr} {m : Str} {apos pos : Pos} {ta : TE} {tk : TA} {kws : List Keyword}
def tMethGK (C : Addr) (m : Str) (sp : SpG) (E : XK) (ta : TE) (tk : TA) : TGen := fun σ H cont => ta σ H fun x H1 => ∃ a dx fs, x = .ref a ∧ H1 a = some (.ins C dx fs) ∧ fs.lookup m = none ∧ tk σ H1 fun zs H2 => sp (.ref a :: zs) H2 cont E
theorem pgen_methK {E : XK} {pl : Sem Bool} (he : PE X o ta) (c : Cls X.K C) (hm : Meth X.K C m f) (F : GFn X.prog X.w X.K X.mg X.base k f fd ps sp) (hr : Room k X.A) (hkw : PK X kws tk) (hl : ps.length = ks.length + 1)
    (hb : ∀ (sh : Shared) (a : Addr) (zs : List Value), zs.length = ks.length → BindsTo sh fd ⟨[.ref a], ks.zip zs⟩ (ps.zip (Value.ref a :: zs)))
    (hall : (backToKw pos (keywordEach kws X.env)).all (·.1.isSome) = true := by rfl) (hks : (backToKw pos (keywordEach kws X.env)).filterMap (·.1) = ks := by rfl)
    (hpl : ((backTo pos (starEach [] X.env)).any (·.1) || (backToKw pos (keywordEach kws X.env)).any (·.1.isNone)) = false := by rfl)
    (ht : eval (.Call (.Attribute o m apos) [] kws pos) X.env = (do
      let ov ← eval o X.env
      standAt apos.atName
      let (f, first) ← holding [ov] (getMethod ov m pl)
      callWith pos f first (backTo pos (starEach [] X.env)) (backToKw pos (keywordEach kws X.env))) := by rfl) :
    PGen X k (.Call (.Attribute o m apos) [] kws pos) (tMethGK C m sp E ta tk) E := by
  refine ⟨fun pins s σ H cont I h => PySem.W.methodCall_KW (pl := pl) (thn (he.run pins s σ H _ I h) fun u s1 hh => ?_) ht⟩
  obtain ⟨x, H1, I1, rx, a, dx, fs, ex, ea, lk, q⟩ := hh
  subst ex
  obtain rfl : u = Value.ref a := rx
  refine getmeth_ok I1 ea c hm lk (PySem.W.callWith_KW0 (h₀ := X.base) (first := [.ref a]) I.ok.mod.kin hm.kp hall (thn (hkw.run pos _ s1 σ H1 _ I1 q) fun ws s2 hh => ?_) hpl)
  obtain ⟨zs, H2, I2, rz, q2⟩ := hh
  refine ⟨I2.kIn, ?_⟩
  rw [hks]
  have hw : ws.length = ks.length := by
    have z := F.len _ _ _ _ q2
    rw [List.length_cons, hl] at z
    rw [← rz.length]
    omega
  refine wpAny_call (codeAny_mono (F.run X.A X.stack s2 H2 ⟨[.ref a], ks.zip ws⟩ (.ref a :: ws) (.ref a :: zs) cont E hr I2.env0 (hb s2 a ws hw) (.cons rfl rz) q2) fun r s3 hq => ?_)
  cases r with
  | error e => exact False.elim hq
  | ok fl =>
    cases fl with
    | ret u => exact ⟨H2, s2, [], I2, .nil, hq⟩
    | next => exact False.elim hq
    | brk => exact False.elim hq
    | cont => exact False.elim hq
end
end L2.Tb
set_option Elab.async false
set_option linter.all false
set_option maxRecDepth 100000
set_option maxHeartbeats 4000000
/-! for i, x in enumerate(t), t a tuple -/
namespace L2.Tb
open PySem PySem.Spec PyProof.Rows
set_option maxHeartbeats 4000000 in
theorem meets_enum_B1 {v : Value} {o : Obj} {H : Heap → Prop} (B : PySem.Begins v o H) :
    Meets (Builtin.«enumerate.__new__» ⟨[.type "enumerate", v], []⟩) (fun _ R s => H s.heap ∧
      R (.ok (.ret (.ref (s.heap.push o).objs.size))) { s with heap := (s.heap.push o).push { cls := .type "enumerate", data := .fields #[.none, .bool false, .ref s.heap.objs.size, rawInt 0, .none, .none] } }) :=
  .of_wp fun prog w A R s h => by
    obtain ⟨hp, g, d, tk, os⟩ := s
    obtain ⟨h1, h2⟩ := h
    have hsub := sub_enumerate
    have itr : ∀ {A' : Around} {E : Value → Shared → Prop} {Q : Value → Shared → Prop}, Q (.ref hp.objs.size) ⟨hp.push o, g, d, tk, os⟩ → wpAny (model prog w) A' (pyIter v) Q E ⟨hp, g, d, tk, os⟩ := fun q => B.iter prog w _ _ ⟨hp, g, d, tk, os⟩ _ h1 q
    wp_walk using itr
    refine wpAny_stack_any fun st => wpAny_pure ?_
    split
    · rename_i c _ _ _ _ _
      cases (c == Value.type "enumerate")
      · wp_walk using itr
        exact ⟨_, rfl, h2⟩
      · wp_walk using itr
        exact ⟨_, rfl, h2⟩
    · wp_walk using itr
      exact ⟨_, rfl, h2⟩
section
variable {prog : Program} {w : World} {A : Around} {E : Value → Shared → Prop} {s : Shared}
theorem enum_B1 {v : Value} {o : Obj} {H : Heap → Prop} {Q : Value → Shared → Prop} (B : PySem.Begins v o H) (h1 : H s.heap)
    (h : ∀ h', IsEnum h' (s.heap.objs.size + 1) s.heap.objs.size 0 .none → h'.get? s.heap.objs.size = some o → h'.objs.size = s.heap.objs.size + 2 →
      (∀ b o, s.heap.get? b = some o → h'.get? b = some o) → Q (.ref (s.heap.objs.size + 1)) { s with heap := h' }) :
    wpAny (model prog w) A (call (.type "enumerate") [v]) Q E s := by
  refine callType_new F.called_enumerate (by decide) (F.typeCall_enumerate_1 _) (F.newCall_enumerate_1 _) (fun obj => F.args_object_init_2 obj _) F.entry_enumerate_new (meets_enum_B1 B) ⟨h1, ?_⟩
  have hz : (s.heap.push o).objs.size = s.heap.objs.size + 1 := Heap.size_push ..
  show _ ∧ _
  rw [hz]
  have he : IsEnum ((s.heap.push o).push { cls := .type "enumerate", data := .fields #[.none, .bool false, .ref s.heap.objs.size, rawInt 0, .none, .none] }) (s.heap.objs.size + 1) s.heap.objs.size 0 .none := by
    have := Heap.get?_push_size (s.heap.push o) (o := { cls := .type "enumerate", data := .fields #[.none, .bool false, .ref s.heap.objs.size, rawInt 0, .none, .none] }) rfl
    rw [hz] at this
    exact this
  exact ⟨⟨_, he, rfl⟩, h _ he (Heap.get?_push_of_some _ (Heap.get?_push_size _ B.free)) (by rw [Heap.size_push, hz]) fun b o x => Heap.get?_push_of_some _ (Heap.get?_push_of_some _ x)⟩
end
/-- the tuple at a, each item in a new pair -/
def IteT (K : PySem.W.Frag) (a : Addr) : It :=
  ⟨fun i H => ∃ (xs : List V) (x : V), SqT K H a xs ∧ xs[i]? = some x, fun i H v H' => ∃ T x, v = .ref T ∧ H T = none ∧ H' = upd H T (.tup [.int (i : Nat), x]) ∧ ∀ xs, SqT K H a xs → xs[i]? = some x, fun i H => ∃ xs : List V, SqT K H a xs ∧ xs.length = i⟩
theorem turn_enumT {P : Program} {w : World} {K : PySem.W.Frag} {elts : List Expr} {kk : Nat} {tpos : Pos} (a e it : Addr) :
    Turn P w K (.Tuple elts kk tpos) (IteT K a) [e, it] e (fun i h => (∃ old, IsEnum h e it ((i : Nat) : Int) old) ∧ h.IsTupleIter it a i ∧ e ≠ it ∧ a ≠ it ∧ a ≠ e) where
  mem := by simp
  obj := fun i h st b hb => by
    obtain ⟨⟨old, he⟩, ⟨o, ho, hc, hd⟩, _⟩ := st
    have e' : b = e ∨ b = it := by simpa using hb
    rcases e' with z | z
    · rw [z]; exact ⟨_, he, fun v q => nomatch q⟩
    · rw [z]; exact ⟨o, ho, fun v q => by rw [hd] at q; cases q⟩
  keep := fun i h h' st k => let ⟨⟨old, he⟩, hi, hne⟩ := st; ⟨⟨old, k e (by simp) _ he⟩, hi.at fun o q => k it (by simp) o q, hne⟩
  item := by
    intro X hP hw hK hc i pins s σ H E I hf st hg
    subst hP hw hK
    obtain ⟨⟨old, he⟩, hit, hne, hai, hae⟩ := st
    obtain ⟨xs, x, hq, hx⟩ := hg
    obtain ⟨its, rv, p, hz⟩ := I.tuple hq
    obtain ⟨u, hu, ru⟩ := rv.get hx
    have hel : e < s.heap.objs.size := Heap.lt_size he
    have hil : it < s.heap.objs.size := by obtain ⟨_, q, _⟩ := hit; exact Heap.lt_size q
    have hlt : i < its.toArray.size := by
      have := (List.getElem?_eq_some_iff.mp hu).1
      simpa using this
    have hed : X.A.in1.handled = none := I.ok.hd hc
    refine wpAny_pyNext_enum_itemD (Draws.tuple hed it a hai its.toArray) he ⟨hit, p⟩ hlt hne (by simp [hne, Ne.symm hae]) fun y h' tk hy ho hs' hT hsz hk => ?_
    obtain ⟨hit', hp'⟩ := hs'
    have hyu : y = u := by
      have : its.toArray[i]? = some u := by simpa using hu
      rw [this] at hy
      exact (Option.some.inj hy).symm
    subst hyu
    refine ⟨_, rfl, wpAny_letOwnedTupleGo_enum (s := { s with heap := h', toks := tk + 1 }) ho fun h'' he' sb => ?_⟩
    have hT2 : h''.get? s.heap.objs.size = some { cls := .type "tuple", data := .seq #[.int i tk, y] } := (sb.2 _ (Nat.ne_of_gt hel)).trans hT
    have new : ObjOk X.prog X.w (upd H s.heap.objs.size (.tup [.int (i : Nat), x])) h'' s.heap.objs.size (.tup [.int (i : Nat), x]) :=
      ⟨by show 2 ≤ sizeLine; decide, [.int i tk, y], .cons ⟨_, rfl⟩ (.cons ru .nil), ⟨_, hT2, rfl, _, rfl⟩⟩
    have I1 : Inv X pins σ (upd H s.heap.objs.size (.tup [.int (i : Nat), x])) { s with heap := h'', toks := tk + 1 } :=
      I.turnedNew (ch := [e, it]) (fun b ob hb q => (sb.2 b (fun z => hb (by simp [z]))).trans (hk b ob (fun z => hb (by simp [z])) (fun z => hb (by simp [z])) q)) hf (Nat.le_refl _) new
    refine ⟨.ref s.heap.objs.size, _, I1, rfl, ⟨_, x, rfl, I.hok.fresh (Nat.le_refl _), rfl, fun ys hy => by rw [I.tuple_inj hy hq]; exact hx⟩, ⟨⟨y, ?_⟩, hit'.at fun o q => (sb.2 it (Ne.symm hne)).trans q, hne, hai, hae⟩, fun b hb => ?_⟩
    · have e1 : ((i + 1 : Nat) : Int) = (i : Int) + 1 := by omega
      rw [e1]; exact he'
    · have hb' : b < s.heap.objs.size := by
        have e' : b = e ∨ b = it := by simpa using hb
        rcases e' with z | z
        · rw [z]; exact hel
        · rw [z]; exact hil
      rw [upd_ne (Nat.ne_of_lt hb')]
      exact (hf b hb).1
  done := by
    intro X hP hw hK hc i pins s σ H E I hf st hg
    subst hP hw hK
    obtain ⟨⟨old, he⟩, hit, hne, hai, hae⟩ := st
    obtain ⟨xs, hq, hx⟩ := hg
    obtain ⟨its, rv, p, hz⟩ := I.tuple hq
    obtain ⟨f0, f1, f2, f3, f4, f5⟩ := hf it (by simp)
    have hl := rv.length
    have hs : i = its.toArray.size := by simp; omega
    have hed : X.A.in1.handled = none := I.ok.hd hc
    have hit2 : s.heap.IsTupleIter it a its.toArray.size := by rw [← hs]; exact hit
    exact wpAny_pyNext_enum_endD (Draws.tuple hed it a hai its.toArray) he ⟨hit2, p⟩ fun h' eb => ⟨rfl, I.turned (t' := s.toks) (fun b o hb q => eb b o hb q) f0 f1 f3 f4 f5⟩
  self := fun A i s Q E st q => by
    obtain ⟨⟨old, he⟩, _⟩ := st
    exact wpAny_pyIter_enum he q
def iEnumT (K : PySem.W.Frag) (ta : TA) : TI := fun σ H R => ta σ H fun vs H1 => ∃ a xs, vs = [.ref a] ∧ SqT K H1 a xs ∧ R (IteT K a) H1
theorem pi_enumT {X : Cx} {e : Expr} {ta : TA} {p pos tpos : Pos} {elts : List Expr} {kk : Nat} (hg : Gl X "enumerate") (hm : X.mg "enumerate" = none) (ha : PA X [e] ta) (hs : starEach [e] X.env = [(false, eval e X.env)] := by rfl) :
    PI X (.Tuple elts kk tpos) (.Call (.Name "enumerate" p) [e] [] pos) (iEnumT X.K ta) := by
  refine ⟨fun pins s σ H R I h => ?_⟩
  refine Call_ (ld_blt I hg hm boot_enumerate (PyProof.Rows.callWith_type1 (thn (ha.run pos pins s σ H _ I h) fun us s1 hh => ?_) hs rfl))
  obtain ⟨vs, H1, I1, r1, a, xs, ex, hq, q⟩ := hh
  subst ex
  cases r1 with
  | cons r rr =>
    cases rr
    cases r
    obtain ⟨its, rv, p', hz⟩ := I1.tuple hq
    have hal : a < s1.heap.objs.size := by obtain ⟨_, q, _⟩ := p'; exact Heap.lt_size q
    refine enum_B1 (PySem.begins_tuple a its.toArray) p' fun h' he hit hsz hk => wpAny_pyIter_enum he ?_
    have I2 : Inv X pins σ H1 { s1 with heap := h' } := I1.kept (t' := s1.toks) hk
    refine ⟨s1.heap.objs.size + 1, [s1.heap.objs.size + 1, s1.heap.objs.size], _, _, H1, rfl, I2, turn_enumT a (s1.heap.objs.size + 1) s1.heap.objs.size, ⟨⟨.none, he⟩, ⟨_, hit, rfl, rfl⟩, Nat.succ_ne_self _, Nat.ne_of_lt hal, Nat.ne_of_lt (Nat.lt_succ_of_lt hal)⟩, fun b hb => ?_, q⟩
    have e' : b = s1.heap.objs.size + 1 ∨ b = s1.heap.objs.size := by simpa using hb
    have hle : s1.heap.objs.size ≤ b := by
      rcases e' with z | z
      · rw [z]; exact Nat.le_add_right _ _
      · rw [z]; exact Nat.le_refl _
    exact I1.fpOk hle (I1.hok.fresh hle)
/-- over the tuple, in a for -/
theorem for_enumT {K : PySem.W.Frag} {a : Addr} {xs : List V} {g : TG} {tb : TS} {D : Ends} {σ : St} {H : Hp} (Pv : Nat → St → Hp → Prop) (h0 : Pv 0 σ H) (hl : ∀ i σ H, i ≤ xs.length → Pv i σ H → SqT K H a xs)
    (hs : ∀ i x σ H T, xs[i]? = some x → Pv i σ H → H T = none → g (.ref T) σ (upd H T (.tup [.int (i : Nat), x])) fun σ2 H2 => tb { D with nx := Pv (i + 1), ct := Pv (i + 1), bk := D.nx } σ2 H2) (hd : ∀ σ H, Pv xs.length σ H → D.nx σ H) :
    ∃ W : Nat → Nat → St → Hp → Prop, (∃ m, W 0 m σ H) ∧ ∀ i m σ H, W i m σ H →
      ((IteT K a).stop i H ∧ D.nx σ H) ∨ ((IteT K a).go i H ∧ ∃ N : St → Hp → Prop, (∀ σ' H', N σ' H' → ∃ m', m' < m ∧ W (i + 1) m' σ' H') ∧ ∀ x H', (IteT K a).yld i H x H' → g x σ H' fun σ2 H2 => tb { D with nx := N, ct := N, bk := D.nx } σ2 H2) := by
  refine ⟨fun i m σ H => m = xs.length - i ∧ i ≤ xs.length ∧ Pv i σ H, ⟨xs.length, by simp, Nat.zero_le _, h0⟩, ?_⟩
  rintro i m σ H ⟨rfl, hi, p⟩
  have q := hl i σ H hi p
  by_cases hlt : i < xs.length
  · refine .inr ⟨⟨xs, xs[i], q, by simp [hlt]⟩, Pv (i + 1), fun σ' H' p' => ⟨xs.length - (i + 1), by omega, rfl, hlt, p'⟩, fun x H' y => ?_⟩
    obtain ⟨T, z, rfl, nT, rfl, hz⟩ := y
    exact hs i z σ H T (hz xs q) p nT
  · have e : i = xs.length := by omega
    subst e
    exact .inl ⟨⟨xs, q, rfl⟩, hd σ H p⟩
end L2.Tb
set_option Elab.async false
set_option linter.all false
set_option maxRecDepth 100000
set_option maxHeartbeats 4000000
/-! a def of the module that may raise, called by its name -/
namespace L2.Tb
open PySem PySem.Spec PyProof.Rows
structure CalX (P : Program) (w : World) (K : PySem.W.Frag) (mg : Str → Option Value) (base : Heap) (k : Nat) (x : Str) (sp : Sp) : Prop where
  ex : ∃ (f : Addr) (fd : FuncData) (ps : List Str), FnOk P w K mg base (L2.CX P w) k f fd ps sp ∧ mg x = some (.ref f) ∧ PySem.W.keepIn K (.ref f) = true ∧ Binds K fd ps []
section
variable {P : Program} {w : World} {K : PySem.W.Frag} {mg : Str → Option Value} {base : Heap} {x : Str} {st : Stmt} {f : Addr} {fd : FuncData} {N ps : List Str} {k : Nat} {sp : Sp}
theorem calX_of (F : FnP K x st f fd) (hm : mg x = some (.ref f)) (hb : ∀ (kV doc pm : Value) (an : Option Addr) (cdv ct : Value) (us : List Value), us.length = ps.length → bindArgs (PySem.W.fnOf x x (defArgs st) (defBody st) (defScope st) .none kV doc pm an cdv ct) ⟨us, []⟩ = pure (ps.zip us))
    (h : FnOk P w K mg base (L2.CX P w) k f fd ps sp) : CalX P w K mg base k x sp := ⟨f, fd, ps, h, hm, F.kp, F.bindsN hb⟩
theorem CalX.imp {sp' : Sp} (c : CalX P w K mg base k x sp) (h : ∀ vs H Q E, sp' vs H Q E → sp vs H Q E) : CalX P w K mg base k x sp' := by
  obtain ⟨f, fd, ps, F, a, b, d⟩ := c.ex
  exact ⟨f, fd, ps, F.imp h, a, b, d⟩
end
section
variable {X : Cx} {k j : Nat} {x : Str} {sp : Sp} {p pos : Pos} {e : Expr} {es : List Expr} {t : TA} {E : XK}
theorem pe_calX (c : CalX X.prog X.w X.K X.mg X.base k x sp) (hr : Room j X.A) (hk : k ≤ j) (hg : Gl X x) (hx : Passes (L2.CX X.prog X.w) X E) (ha : PA X (e :: es) t)
    (hdb : (x == ("__debug__" : Str)) = false := by decide) (he : starEach (e :: es) X.env = (false, eval e X.env) :: starEach es X.env := by rfl) (hpl : (backTo pos (starEach es X.env)).any (·.1) = false := by rfl) :
    PE X (.Call (.Name x p) (e :: es) [] pos) (tCall sp [] E t) := by
  obtain ⟨f, fd, ps, F, hm, kp, b⟩ := c.ex
  exact pe_call F (hr.mono hk) hg hm kp b .nil hx ha hdb he hpl
end
/-- not there before -/
theorem none_back {H H1 : Hp} {a : Addr} (s : Same H H1) (h : H1 a = none) : H a = none := by
  cases e : H a with
  | none => rfl
  | some o =>
    rw [s _ _ e] at h
    cases h
theorem sqt_keep {K : PySem.W.Frag} {H H' : Hp} {a : Addr} {xs : List V} (h : SqT K H a xs) (s : Same H H') : SqT K H' a xs := by
  rcases h with (h | ⟨o, h⟩) | h
  · exact .inl (.inl (s _ _ h))
  · exact .inl (.inr ⟨o, s _ _ h⟩)
  · exact .inr h
end L2.Tb
set_option Elab.async false
set_option linter.all false
set_option maxRecDepth 100000
set_option maxHeartbeats 4000000
/-! len(x) by an own __len__; the truth of x by an own __len__ or __bool__ -/
namespace L2.Tb
open PySem PySem.Spec PyProof.Rows
section
variable {prog : Program} {w : World} {A : Around} {E : Value → Shared → Prop} {s : Shared} {K : PySem.W.Frag} {x C f : Addr} {ox : Obj} {od : Option Obj}
theorem lenO_body {Q : Value → Shared → Prop} (X : K.In s.heap) (I : PySem.W.InstAt s.heap x ox C od) (hs : PySem.W.findIn K (.ref C) "__len__" = some (some (.ref f))) (hf : PySem.W.isFn K (.ref f) = true)
    (h : wpAny (model prog w) A (call (.ref f) [.ref x]) (PySem.W.LenBack Q) E s) : wpAny (model prog w) A (Builtin.«len» ⟨[.ref x], []⟩) (fun fin s' => ∃ r, fin = .done (.ret r) ∧ Q r s') E s := by
  unfold Builtin.«len»
  refine wpAny_bind (m := oneArg "len" _) (wpAny_pure ?_)
  refine wpAny_bind (m := callSpecial? (.ref x) (Str.ofString "__len__")) (PySem.W.special_fn X I hs (beq_iff_eq.mp hf) (wpAny_mono h (fun r s' hr => ?_) fun _ _ y => y))
  cases r <;> first | exact hr.elim | skip
  rename_i n u
  obtain ⟨⟨h0, h1⟩, hq⟩ := hr
  refine wpAny_bind (wpAny_holding (wpAny_pure ?_))
  refine wpAny_bind (wpAny_letGo ?_)
  show wpAny _ _ (if n < 0 then _ else _) _ _ _
  rw [if_neg (by omega)]
  show wpAny _ _ (if n ≥ 2 ^ 63 then _ else _) _ _ _
  rw [if_neg (by omega)]
  exact wpAny_bind (wpAny_mkInt (wpAny_pure ⟨_, rfl, hq⟩))
theorem lenO_truthy {Q : Bool → Shared → Prop} (X : K.In s.heap) (I : PySem.W.InstAt s.heap x ox C od) (hs : PySem.W.findIn K (.ref C) "__len__" = some (some (.ref f))) (hb : PySem.W.findIn K (.ref C) "__bool__" = some none) (hf : PySem.W.isFn K (.ref f) = true)
    (h : wpAny (model prog w) A.in1 (call (.ref f) [.ref x]) (PySem.W.LenBack fun r s' => ∃ n t, r = .int n t ∧ Q (n != 0) s') E s) : wpAny (model prog w) A (truthy (.ref x)) Q E s := by
  have key : wpAny (model prog w) A (runValue (.builtin "len" ⟨[.ref x], []⟩)) (fun r s' => ∃ n t, r = .int n t ∧ Q (n != 0) s') E s := by
    refine wpAny_runValue (codeAny_builtin entry_len ?_)
    rw [Around.under_plainId plain_len _]
    exact wpAny_mono (lenO_body X I hs hf h) (fun fin s' h' => by obtain ⟨r, rfl, hq⟩ := h'; exact hq) fun _ _ e => e
  have hsp : ∀ {Q' : Option Value → Shared → Prop}, Q' (some (.ref f)) s → wpAny (model prog w) A (specialOf (.ref x) "__len__") Q' E s := fun q => by
    unfold specialOf
    exact wpAny_bind (I.type.here ((PySem.W.looks_findIn X hs).here q))
  unfold truthy
  refine wpAny_bind (m := callSpecial? (.ref x) (Str.ofString "__bool__")) (wpAny_bind (wpAny_bind (I.type.here ((PySem.W.looks_findIn X hb).here (wpAny_pure ?_)))))
  refine wpAny_bind (hsp ?_)
  show wpAny _ _ (if (some (Value.ref f)).isNone = true then _ else _) _ _ _
  rw [if_neg (by simp)]
  exact wpAny_bind (wpAny_mono key (fun r s' h' => by obtain ⟨n, t, rfl, hq⟩ := h'; exact wpAny_pure hq) fun _ _ e => e)
end
section
variable {X : Cx} {C f : Addr} {fd : FuncData} {ps : List Str} {sp : Sp} {k : Nat}
def rLenOwn (C : Addr) (sp : Sp) : List V → Hp → VK → Prop := fun xs H Q => ∃ (a dx : Addr) (fs : List (Str × V)), xs = [.ref a] ∧ H a = some (.ins C dx fs) ∧ sp [.ref a] H (fun v H' => ∃ n : Int, v = .int n ∧ 0 ≤ n ∧ n < 2 ^ 63 ∧ Q (.int n) H') E0
theorem call_lenOwn (F : FnOk X.prog X.w X.K X.mg X.base L2.CX0 k f fd ps sp) (hr : Room (k + 1) X.A) (hs : PySem.W.findIn X.K (.ref C) "__len__" = some (some (.ref f))) (hf : PySem.W.isFn X.K (.ref f) = true) (hb : Binds X.K fd ps []) : CallR X (.builtin "len") (rLenOwn C sp) := by
  intro pins s σ H xs us Q I r h
  obtain ⟨a, dx, fs, rfl, ea, h⟩ := h
  rw [Vals.ref1 r]
  obtain ⟨mA, O, _⟩ := ins_get I.hok ea
  obtain ⟨od, J, _⟩ := O.look
  obtain ⟨m, hF⟩ := I.fr
  have hl := F.len _ _ _ _ h
  refine PySem.W.len_K hF I.ok.mod.kin J hs hf (wpAny_call (codeAny_mono (F.run X.A.in1 X.stack s H ⟨[.ref a], []⟩ [.ref a] [.ref a] _ E0 hr.in1 I.env0.in1 (by
    have z := hb s [.ref a] I.kIn (by simpa using hl)
    simpa using z) (.cons rfl .nil) h) fun r s' hq => ?_))
  match r, hq with
  | .error e, hq => exact hq.elim
  | .ok (.ret u), hq =>
    obtain ⟨v, H', I', rv, n, ev, h0, h1, q⟩ := I.after hq
    rw [ev] at rv
    obtain ⟨t, rfl⟩ := (show ∃ t, u = Value.int n t from rv)
    exact ⟨⟨h0, h1⟩, .int n, H', I'.tok _, ⟨_, rfl⟩, q⟩
def rTruLen (C : Addr) (sp : Sp) : V → Hp → (Bool → Hp → Prop) → Prop := fun x H Q => ∃ (a dx : Addr) (fs : List (Str × V)), x = .ref a ∧ H a = some (.ins C dx fs) ∧ sp [.ref a] H (fun v H' => ∃ n : Int, v = .int n ∧ 0 ≤ n ∧ n < 2 ^ 63 ∧ Q (n != 0) H') E0
theorem tru_lenOwn (F : FnOk X.prog X.w X.K X.mg X.base L2.CX0 k f fd ps sp) (hr : Room (k + 1) X.A) (hs : PySem.W.findIn X.K (.ref C) "__len__" = some (some (.ref f))) (hbo : PySem.W.findIn X.K (.ref C) "__bool__" = some none) (hf : PySem.W.isFn X.K (.ref f) = true) (hb : Binds X.K fd ps []) : TruR X (rTruLen C sp) := by
  intro pins s σ H x v Q I r h
  obtain ⟨a, dx, fs, rfl, ea, h⟩ := h
  obtain rfl : v = Value.ref a := r
  obtain ⟨mA, O, _⟩ := ins_get I.hok ea
  obtain ⟨od, J, _⟩ := O.look
  have hl := F.len _ _ _ _ h
  refine lenO_truthy I.kIn J hs hbo hf (wpAny_call (codeAny_mono (F.run X.A.in1 X.stack s H ⟨[.ref a], []⟩ [.ref a] [.ref a] _ E0 hr.in1 I.env0.in1 (by
    have z := hb s [.ref a] I.kIn (by simpa using hl)
    simpa using z) (.cons rfl .nil) h) fun r s' hq => ?_))
  match r, hq with
  | .error e, hq => exact hq.elim
  | .ok (.ret u), hq =>
    obtain ⟨v, H', I', rv, n, ev, h0, h1, q⟩ := I.after hq
    rw [ev] at rv
    obtain ⟨t, rfl⟩ := (show ∃ t, u = Value.int n t from rv)
    exact ⟨⟨h0, h1⟩, n, _, rfl, H', I'.tok _, q⟩
def rTruBool (C : Addr) (sp : Sp) : V → Hp → (Bool → Hp → Prop) → Prop := fun x H Q => ∃ (a dx : Addr) (fs : List (Str × V)), x = .ref a ∧ H a = some (.ins C dx fs) ∧ sp [.ref a] H (fun v H' => ∃ b, v = .bl b ∧ Q b H') E0
theorem tru_boolOwn (F : FnOk X.prog X.w X.K X.mg X.base L2.CX0 k f fd ps sp) (hr : Room k X.A) (hs : PySem.W.findIn X.K (.ref C) "__bool__" = some (some (.ref f))) (hf : PySem.W.isFn X.K (.ref f) = true) (hb : Binds X.K fd ps []) : TruR X (rTruBool C sp) := by
  intro pins s σ H x v Q I r h
  obtain ⟨a, dx, fs, rfl, ea, h⟩ := h
  obtain rfl : v = Value.ref a := r
  obtain ⟨mA, O, _⟩ := ins_get I.hok ea
  obtain ⟨od, J, _⟩ := O.look
  obtain ⟨m, hF⟩ := I.fr
  have hl := F.len _ _ _ _ h
  refine PySem.W.truthy_K hF I.ok.mod.kin J hs hf (wpAny_call (codeAny_mono (F.run X.A X.stack s H ⟨[.ref a], []⟩ [.ref a] [.ref a] _ E0 hr I.env0 (by
    have z := hb s [.ref a] I.kIn (by simpa using hl)
    simpa using z) (.cons rfl .nil) h) fun r s' hq => ?_))
  match r, hq with
  | .error e, hq => exact hq.elim
  | .ok (.ret u), hq =>
    obtain ⟨v, H', I', rv, b, ev, q⟩ := I.after hq
    rw [ev] at rv
    obtain rfl : u = Value.bool b := rv
    exact ⟨H', I', q⟩
/-- not x, by a rule for the truth -/
theorem pe_notR {a : Expr} {ta : TE} {r : V → Hp → (Bool → Hp → Prop) → Prop} {pos : Pos} (ha : PE X a ta) (hr : TruR X r) : PE X (.UnaryOp .Not a pos) (fun σ H Q => ta σ H fun x H' => r x H' fun b H2 => Q (.bl (!b)) H2) := by
  refine ⟨fun pins s σ H Q I h => ?_⟩
  refine UnaryOp_ (thn (ha.run pins s σ H _ I h) fun v s1 ⟨x, H1, I1, r1, q1⟩ => ?_)
  exact not_of (thn (hr pins s1 σ H1 x v _ I1 r1 q1) fun c s2 ⟨H2, I2, q2⟩ => ⟨.bl (!c), H2, I2, rfl, q2⟩)
end
end L2.Tb
set_option Elab.async false
set_option linter.all false
set_option maxRecDepth 100000
set_option maxHeartbeats 4000000
/-! sorted(xs), xs a list of tuples (or of lists) of ints, each of any length -/
namespace L2.Tb
open PySem PySem.Spec PyProof.Rows PySem.W
theorem eachMap {α β : Type} {R : α → β → Prop} (f : β → α) : ∀ ks : List β, (∀ p ∈ ks, R (f p) p) → EachIs R (ks.map f) ks
  | [], _ => .nil
  | k :: ks, h => .cons (h k List.mem_cons_self) (eachMap f ks fun p hp => h p (List.mem_cons_of_mem _ hp))
theorem eachMap_back {α β : Type} {f : β → α} : ∀ {l : List α} {ks : List β}, EachIs (fun v p => v = f p) l ks → l = ks.map f
  | _, _, .nil => rfl
  | _, _, .cons h t => by rw [List.map_cons, ← eachMap_back t, h]
theorem readsAll_ints_of {h : Heap} : ∀ {vs : List Value} {ns : List Int}, IntsAre vs ns → ReadsAll h vs (ns.map .int) []
  | _, _, .nil => .nil
  | _, _, .cons n t r => .cons (as := []) (.int n t) (readsAll_ints_of r)
theorem readsAll_vals {h : Heap} : ∀ {ns : List Int} {vs : List Value}, Vals (ns.map V.int) vs → ReadsAll h vs (ns.map .int) []
  | [], _, r => by
    cases r
    exact .nil
  | n :: ns, _, r => by
    cases r with
    | cons a b =>
      obtain ⟨t, rfl⟩ := a
      exact .cons (as := []) (.int n t) (readsAll_vals b)
theorem alike_tup (xs ys : List Int) : alike (.tuple (xs.map .int)) (.tuple (ys.map .int)) = true := by
  simpa [alike] using alike_ints xs ys
theorem alike_lst (xs ys : List Int) : alike (.list (xs.map .int)) (.list (ys.map .int)) = true := by
  simpa [alike] using alike_ints xs ys
theorem dataLe_tups {β : Type} (x : β → List Int) : dataLe false (fun b => .tuple ((x b).map .int)) = fun p q => decide (x p ≤ x q) := by
  rw [← dataLe_rows]
  funext p q
  show (!dataLt (.tuple _) (.tuple _)) = (!dataLt (.list _) (.list _))
  rw [dataLt_list, dataLt_tuple]
section
variable {P : Program} {w : World} {A : Around} {s : Shared}
/-- all tuples, some may be empty: at most one -/
theorem sortsAt_one {vs : List Value} {ds : List PyData} (e : EachIs (fun v d => ∃ as, Reads s.heap v d as) vs ds) (hal : AllAlike ds) (ht : ∀ d ∈ ds, ∃ xs, d = .tuple xs) (one : vs.length ≤ 1) (hu : ∀ d, d ∈ ds → A.units + d.depth < cLine) : SortsAt P w A s (dataKind s.heap ds) vs := by
  have room : ∀ {d d' : PyData}, d ∈ ds → A.units + min d.depth d'.depth < cLine := fun {d d'} hd => Nat.lt_of_le_of_lt (Nat.add_le_add_left (Nat.min_le_left _ _) _) (hu d hd)
  refine ⟨fun v hv => ?_, tuples' false, ?_, fun h2 => absurd h2 (by omega)⟩
  · obtain ⟨d, hd, as, r⟩ := e.left v hv
    exact ⟨_, dataKind_some hal hd r⟩
  · intro E x y a b Q ha hb hq
    obtain ⟨d, as, hd, ra, rfl⟩ := dataKind_inv ha
    obtain ⟨d', as', hd', rb, rfl⟩ := dataKind_inv hb
    have hdd := hal d hd d' hd'
    have hroom := room (d' := d') hd
    obtain ⟨r1, rfl⟩ := ht d hd
    obtain ⟨r2, rfl⟩ := ht d' hd'
    have hq' : Q (dataLt (.tuple r1) (.tuple r2)) s := hq
    rw [dataLt_tuple] at hq'
    cases ra with
    | @tuple l o xs n _ _ h1 h2 h3 h4 =>
      cases rb with
      | @tuple l' o' xs' n' _ _ k1 k2 k3 k4 =>
        have n1 : xs.size = r1.length := by simpa using SeqAt.ReadsAll.length _ _ _ h4
        have n2 : xs'.size = r2.length := by simpa using SeqAt.ReadsAll.length _ _ _ k4
        refine kat_lt h1 h3 k1 k3 (katLex_alike r1 r2 0 _ _ _ _ h4 k4 (by simpa [alike] using hdd) (by have q := SeqAt.room_in hroom; omega) (fun hb => by cases hb) (by rw [n1, n2]) hq')
end
theorem depth_tup (xs : List Int) : (PyData.tuple (xs.map .int)).depth = 1 := by
  have := depth_ints xs
  simp [PyData.depth, this]
theorem depth_lst (xs : List Int) : (PyData.list (xs.map .int)).depth = 1 := by
  have := depth_ints xs
  simp [PyData.depth, this]
/-- by the lists' order -/
def byLe {α : Type} (p q : α × List Int) : Bool := decide (p.2 ≤ q.2)
def rSortR (K : PySem.W.Frag) : List V → Hp → VK → Prop := fun vs H Q => ∃ (a : Addr) (ks : List (Addr × List Int)), vs = [.ref a] ∧ SqL K H a (ks.map fun p => V.ref p.1) ∧ ks.length ≤ sizeLine ∧
  (((∀ p ∈ ks, SqT K H p.1 (p.2.map V.int)) ∧ (ks.length ≤ 1 ∨ ∀ p ∈ ks, p.2 ≠ [])) ∨ ∀ p ∈ ks, SqL K H p.1 (p.2.map V.int)) ∧
  ∀ (p : Addr), H p = none → Q (.ref p) (upd H p (.lst ((ks.mergeSort byLe).map fun q => V.ref q.1)))
theorem cr_sortR {X : Cx} (hu : X.A.units + 64 < cLine) : CallR X (.builtin "sorted") (rSortR X.K) := by
  intro pins s σ H vs us Q I r h
  obtain ⟨a, ks, rfl, hs, few, tp, q⟩ := h
  obtain ⟨its, rv, pl, _⟩ := I.list hs
  rw [Vals.ref1 r]
  have ei : its = ks.map fun p => Value.ref p.1 := refs_of_vals rv
  have fin : ∀ out : List Value, EachIs (fun v (p : Addr × List Int) => v = Value.ref p.1) out (ks.mergeSort byLe) → ∃ (v : V) (H' : Hp), Inv X pins σ H' { s with heap := sortedAll s.heap its out.toArray } ∧ RelV v (Value.ref (s.heap.objs.size + 1)) ∧ Q v H' := fun out e => by
    have e := eachMap_back e
    obtain ⟨ep, at_⟩ := PyProof.Rows.sortedAll_at s.heap its out.toArray
    refine ⟨.ref _, upd H (s.heap.objs.size + 1) (.lst ((ks.mergeSort byLe).map fun q => V.ref q.1)), I.laid (t' := s.toks) (fun _ _ => PyProof.Rows.sortedAll_old) (Nat.le_succ _) ⟨?_, out, ep, ?_, at_⟩, rfl, q _ (I.hok.fresh (Nat.le_succ _))⟩
    · rw [List.length_map, List.length_mergeSort]
      exact few
    · rw [e]
      exact vals_of_refs _
  have lk : ks.length ≤ sizeLine := few
  rcases tp with ⟨tp, ne⟩ | tp
  · have rd : ∀ p ∈ ks, ∃ as, Reads s.heap (.ref p.1) (.tuple (p.2.map .int)) as := fun p hp => by
      obtain ⟨b, items, e, ⟨ob, g1, g2, m, g3⟩, ia⟩ := tupI_raw I (tp p hp)
      injection e with e
      subst e
      exact ⟨_, .tuple g1 g2 g3 (readsAll_ints_of ia)⟩
    rcases ne with one | ne
    · have er : EachIs (fun v (b : Addr × List Int) => ∃ as, Reads (sortingHeap (copyHeap s.heap its) (s.heap.objs.size + 1) its) v (.tuple (b.2.map .int)) as) its ks := by
        rw [ei]
        refine eachMap _ ks fun p hp => ?_
        obtain ⟨as, z⟩ := rd p hp
        exact ⟨as, PyProof.Rows.Reads.keeps (fun _ _ => sorting_copy_old) z⟩
      have hal : AllAlike (ks.map fun b : Addr × List Int => PyData.tuple (b.2.map .int)) := AllAlike.of fun b b' => alike_tup b.2 b'.2
      refine sorted_vals (κ := dataKind (sortingHeap (copyHeap s.heap its) (s.heap.objs.size + 1) its) (ks.map fun b => PyData.tuple (b.2.map .int))) pl.isList (sortsAt_one (s := { s with heap := sortingHeap (copyHeap s.heap its) (s.heap.objs.size + 1) its }) (each_map (R := fun v d => ∃ as, Reads (sortingHeap (copyHeap s.heap its) (s.heap.objs.size + 1) its) v d as) (fun b : Addr × List Int => PyData.tuple (b.2.map .int)) er) hal (fun d hd => ?_) (by rw [ei, List.length_map]; exact one) fun d hd => ?_) (by rw [ei, List.length_map]; exact lk) (fin _ ?_)
      · obtain ⟨p, _, rfl⟩ := List.mem_map.mp hd
        exact ⟨_, rfl⟩
      · obtain ⟨p, _, rfl⟩ := List.mem_map.mp hd
        rw [depth_tup]
        show X.A.units + 1 + 1 + 1 < _
        omega
      · have z := sortVals_data (R := fun v (p : Addr × List Int) => v = Value.ref p.1) (enc := fun b : Addr × List Int => PyData.tuple (b.2.map .int)) false (by rw [ei]; exact eachMap _ ks fun _ _ => rfl) er hal
        rw [dataLe_tups] at z
        exact z
    · refine sorted_data (R := fun v (p : Addr × List Int) => v = Value.ref p.1) (bs := ks) (enc := fun b => PyData.tuple (b.2.map .int)) pl.isList (by rw [ei]; exact eachMap _ ks fun _ _ => rfl) (by rw [ei]; exact eachMap _ ks rd) (AllAlike.of fun b b' => alike_tup b.2 b'.2) (.inl fun d hd => ?_) lk (fun b _ => by rw [depth_tup]; omega) fun out _ e => ?_
      · obtain ⟨p, hp, rfl⟩ := List.mem_map.mp hd
        cases e : p.2 with
        | nil => exact absurd e (ne p hp)
        | cons x r => exact ⟨.int x, r.map .int, rfl⟩
      · rw [dataLe_tups] at e
        exact fin out e
  · have rd : ∀ p ∈ ks, ∃ as, Reads s.heap (.ref p.1) (.list (p.2.map .int)) as := fun p hp => by
      obtain ⟨its2, rv2, pl2, _⟩ := I.list (tp p hp)
      obtain ⟨o, g1, g2, m, g3⟩ := pl2.isList
      exact ⟨_, .list g1 g2 g3 (readsAll_vals rv2)⟩
    refine sorted_data (R := fun v (p : Addr × List Int) => v = Value.ref p.1) (bs := ks) (enc := fun b => PyData.list (b.2.map .int)) pl.isList (by rw [ei]; exact eachMap _ ks fun _ _ => rfl) (by rw [ei]; exact eachMap _ ks rd) (AllAlike.of fun b b' => alike_lst b.2 b'.2) (.inr fun d hd => ?_) lk (fun b _ => by rw [depth_lst]; omega) fun out _ e => ?_
    · obtain ⟨p, _, rfl⟩ := List.mem_map.mp hd
      exact ⟨nofun, nofun⟩
    · rw [dataLe_rows] at e
      exact fin out e
end L2.Tb
set_option Elab.async false
set_option linter.all false
set_option maxRecDepth 100000
set_option maxHeartbeats 4000000
/-! {x} in an f-string, x an instance with an own __str__; x in t, t a tuple of instances with an own __eq__; sorted of tuples (int, text) -/
namespace L2.Tb
open PySem PySem.Spec PyProof.Rows
theorem refs_of_valsG {α : Type} {g : α → Addr} : ∀ {ks : List α} {us : List Value}, Vals (ks.map fun p => V.ref (g p)) us → us = ks.map fun p => Value.ref (g p)
  | [], _, h => by cases h; rfl
  | k :: ks, _, h => by
    cases h with
    | @cons _ v _ _ r t =>
      obtain rfl : v = Value.ref (g k) := r
      rw [refs_of_valsG t]
      rfl
theorem vals_of_refsG {α : Type} (g : α → Addr) : ∀ ks : List α, Vals (ks.map fun p => V.ref (g p)) (ks.map fun p => Value.ref (g p))
  | [] => .nil
  | _ :: ks => .cons rfl (vals_of_refsG g ks)
section
variable {X : Cx} {C f : Addr} {fd : FuncData} {ps : List Str} {sp : Sp} {k : Nat}
def tFmtOwn (C : Addr) (sp : Sp) (te : TE) : TE := fun σ H Q => te σ H fun x H1 => ∃ (a dx : Addr) (fs : List (Str × V)), x = .ref a ∧ H1 a = some (.ins C dx fs) ∧ sp [.ref a] H1 (fun v H' => ∃ z, v = .str z ∧ Q (.str z) H') E0
theorem pe_fmtOwn {e : Expr} {te : TE} {pos : Pos} (F : FnOk X.prog X.w X.K X.mg X.base L2.CX0 k f fd ps sp) (hr : Room (k + 1) X.A) (hfm : PySem.W.findIn X.K (.ref C) "__format__" = some (some (.builtin "object.__format__"))) (hm : PySem.W.mroIn X.K C (.type "object") = some true)
    (hs : PySem.W.findIn X.K (.ref C) "__str__" = some (some (.ref f))) (hf : PySem.W.isFn X.K (.ref f) = true) (hb : Binds X.K fd ps []) (he : PE X e te) : PE X (.FormattedValue e (-1) none pos) (tFmtOwn C sp te) := by
  refine ⟨fun pins s σ H Q I h => ?_⟩
  refine wpAny_FormattedValue_plain (thn (he.run pins s σ H _ I h) fun v s1 hv => ?_)
  obtain ⟨x, H1, I1, r1, a, dx, fs, rfl, ea, h⟩ := hv
  obtain rfl : v = Value.ref a := r1
  have I2 : Inv X pins σ H1 { s1 with toks := s1.toks + 1 } := I1.tok _
  obtain ⟨mA, O, _⟩ := ins_get I1.hok ea
  obtain ⟨od, J, _⟩ := O.look
  have hl := F.len _ _ _ _ h
  refine PySem.W.kfo_fieldS (hr.in1.units0) I1.kIn J hfm hm hs hf (wpAny_call (codeAny_mono (F.run X.A.in1 X.stack _ H1 ⟨[.ref a], []⟩ [.ref a] [.ref a] _ E0 hr.in1 I2.env0.in1 (by
    have z := hb { s1 with toks := s1.toks + 1 } [.ref a] I2.kIn (by simpa using hl)
    simpa using z) (.cons rfl .nil) h) fun r s' hq => ?_))
  match r, hq with
  | .error e, hq => exact hq.elim
  | .ok (.ret u), hq =>
    obtain ⟨v, H', I', rv, z, ev, q⟩ := I2.after hq
    rw [ev] at rv
    obtain ⟨t, rfl⟩ := relV_str rv
    exact ⟨.str z, H', I', ⟨t, rfl⟩, q⟩
end
section
open PySem.SeqAt
open AutoSeq1 (wpAny_loadPart')
open MeetsSeq MeetsSeq2 MeetsSeq3 SeqRoads2
variable {prog : Program} {w : World} {A : Around} {R : Result → Shared → Prop}
theorem tuple_containsG (l : Addr) (items : Array Value) (n : Nat) (dd : Option Addr) (sl : Array (Option Value)) (x : Value) (e : Value → Bool) (J : Shared → Prop)
    (turn : ∀ y, y ∈ items → ∀ s, J s → wpAny (model prog w) A.in1 (eqBool y x) (fun r s' => r = e y ∧ J s') (fun e s' => R (.error e) s') s) (fin : ∀ s, J s → R (.ok (.ret (.bool (items.any e)))) s) {s : Shared}
    (hl : s.heap.get? l = some { cls := .type "tuple", dict := dd, data := .seq items n, slots := sl }) (h : J s) : wpAny (model prog w) A.in1 (Builtin.«tuple.__contains__» ⟨[.ref l, x], []⟩) (GQ.FinOf prog w A R) (fun e s' => R (.error e) s') s := by
  obtain ⟨hp, g, d, tk, os⟩ := s
  have h0 := h
  wp_walk using wpAny_loadPart' hl, wpAny_forIn_array _ (fun rest b s' => b.1 = none ∧ (∀ y, y ∈ rest → y ∈ items) ∧ (rest.any e = items.any e) ∧ J s') _
  case turn =>
    rintro y rest b s' ⟨hb, hmem, hR, hJ⟩
    refine wpAny_bind (wpAny_mono (turn y (hmem y (List.mem_cons_self ..)) s' hJ) (fun r s2 q2 => ?_) fun _ _ x => x)
    obtain ⟨hr, q2⟩ := q2
    subst hr
    rw [List.any_cons] at hR
    cases hy : e y with
    | true =>
      rw [hy, Bool.true_or] at hR
      wp_walk
      have := fin s2 q2
      rw [← hR] at this
      exact this
    | false =>
      rw [hy, Bool.false_or] at hR
      wp_walk
      exact ⟨rfl, fun z hz => hmem z (List.mem_cons_of_mem _ hz), hR, q2⟩
  case fin =>
    rintro ⟨b1, b2⟩ s' ⟨hb, -, hR, hJ⟩
    simp only at hb
    subst hb
    wp_walk
    have := fin s' hJ
    rw [← hR] at this
    exact this
  case h =>
    exact ⟨rfl, fun y hy => by simpa using hy, by simp, h0⟩
theorem in_tupleG {E : Value → Shared → Prop} {s : Shared} {l : Addr} {items : Array Value} {x : Value} {Q : Value → Shared → Prop} (e : Value → Bool) (J : Shared → Prop) (hl : s.heap.IsTuple l items)
    (turn : ∀ y, y ∈ items → ∀ s, J s → wpAny (model prog w) A.in1 (eqBool y x) (fun r s' => r = e y ∧ J s') E s) (fin : ∀ s, J s → Q (.bool (items.any e)) s) (h : J s) : wpAny (model prog w) A (compareOp .In x (.ref l)) Q E s := by
  obtain ⟨⟨cls, dd, data, sl⟩, ho, hc, n, hd⟩ := id hl
  simp only at hc hd
  subst hc hd
  show wpAny _ A (do return .bool (← contains (.ref l) x)) Q E s
  refine wpAny_bind (wpAny_contains_slot (T := "tuple") ⟨_, ho, rfl⟩ F.slot_tuple_contains (wpAny_mono (GQ.call_here F.slot_tuple_contains ⟨_, ho, rfl⟩ F.entry_tuple_contains (F.args_tuple_contains_2 _ _) (Q := fun v s' => ∃ b, v = .bool b ∧ Q (.bool b) s') (tuple_containsG (R := wants (fun v s' => ∃ b, v = .bool b ∧ Q (.bool b) s') E) l items n dd sl x e J turn (fun s' q => ⟨_, rfl, fin s' q⟩) ho h)) (fun v s' hv => ?_) fun _ _ e => e))
  obtain ⟨b, rfl, hq⟩ := hv
  exact wpAny_truthy_bool (wpAny_pure hq)
end
section
variable {X : Cx} {C f : Addr} {fd : FuncData} {ps : List Str} {sp : Sp} {k : Nat}
/-- x in t, t a tuple of instances of the class at C; e: which of them equal x -/
def rInOwnT (K : PySem.W.Frag) (C : Addr) (sp : Sp) : R2 := fun x y H Q => ∃ (a ax dx : Addr) (fx : List (Str × V)) (bs : List Addr) (e : Addr → Bool), y = .ref a ∧ SqT K H a (bs.map V.ref) ∧ x = .ref ax ∧ H ax = some (.ins C dx fx) ∧
  (∀ b ∈ bs, ∃ dz fz, H b = some (.ins C dz fz)) ∧ (ax ∈ bs → e ax = true) ∧ (∀ b ∈ bs, ∀ G, Same H G → sp [.ref b, .ref ax] G (fun v G' => v = .bl (e b) ∧ Same H G') E0) ∧ ∀ H', Same H H' → Q (.bl (bs.any e)) H'
theorem op_inOwnT (F : FnOk X.prog X.w X.K X.mg X.base L2.CX0 k f fd ps sp) (hr : Room (k + 1) X.A) (hs : PySem.W.findIn X.K (.ref C) "__eq__" = some (some (.ref f))) (hf : PySem.W.isFn X.K (.ref f) = true) (hb : Binds X.K fd ps []) : OpR X (compareOp .In) (rInOwnT X.K C sp) := by
  intro pins s σ H x y v u Q I rx ry h
  obtain ⟨a, ax, dx, fx, bs, e, rfl, hS, rfl, eax, hins, hsame, heq, q⟩ := h
  obtain rfl : v = Value.ref ax := rx
  obtain rfl : u = Value.ref a := ry
  obtain ⟨its, rv, ht, _⟩ := I.tuple hS
  have ei : its = bs.map Value.ref := refs_of_valsG (g := id) rv
  let e' : Value → Bool := fun z => match z with | .ref b => e b | _ => false
  refine in_tupleG e' (fun s' => ∃ H', Inv X pins σ H' s' ∧ Same H H') ht (fun y hy s' hJ => ?_) (fun s' hJ => ?_) ⟨H, I, Same.refl _⟩
  · obtain ⟨H1, I1, s1⟩ := hJ
    have hy2 : y ∈ its := by simpa using hy
    rw [ei] at hy2
    obtain ⟨b, hbm, rfl⟩ := List.mem_map.mp hy2
    by_cases c : b = ax
    · subst c
      exact SeqAt.EqAt.same (A := X.A.in1) (s := s') (.ref b) X.prog X.w X.xe _ ⟨(hsame hbm).symm, H1, I1, s1⟩
    · refine GQ.eqBool_refG c ?_
      obtain ⟨dz, fz, eb⟩ := hins b hbm
      obtain ⟨mA, O, _⟩ := ins_get I1.hok (s1 _ _ eb)
      obtain ⟨mB, O', _⟩ := ins_get I1.hok (s1 _ _ eax)
      obtain ⟨od, J, _⟩ := O.look
      obtain ⟨od', J', _⟩ := O'.look
      obtain ⟨m, hF⟩ := I1.fr
      have hsp := heq b hbm H1 s1
      have hl := F.len _ _ _ _ hsp
      refine PySem.W.cmp_K (op := .Eq) (tb := .ref C) (hr.in1.units0) hF I1.ok.mod.kin J J'.type (by simp [PySem.W.notFirst]) hs hf (wpAny_call (codeAny_mono (F.run X.A.in1 X.stack s' H1 ⟨[.ref b, .ref ax], []⟩ [.ref b, .ref ax] [.ref b, .ref ax] _ E0 hr.in1 I1.env0.in1 (by
        have z := hb s' [.ref b, .ref ax] I1.kIn (by simpa using hl)
        simpa using z) (.cons rfl (.cons rfl .nil)) hsp) fun r s2 hq => ?_))
      match r, hq with
      | .error e, hq => exact hq.elim
      | .ok (.ret u2), hq =>
        obtain ⟨v2, H', I', rv2, ev, sm⟩ := I1.after hq
        rw [ev] at rv2
        obtain rfl : u2 = Value.bool (e b) := rv2
        exact ⟨e b, rfl, rfl, H', I', sm⟩
  · obtain ⟨H1, I1, s1⟩ := hJ
    refine ⟨.bl (bs.any e), H1, I1, ?_, q H1 s1⟩
    show _ = _
    rw [← Array.any_toList, ei, List.any_map]
    rfl
end
/-! sorted of a list of tuples of an int and a text -/
section
open PySem.W
def isD (p : Int × Str) : PyData := .tuple [.int p.1, .str p.2]
def isLe (p q : Addr × Int × Str) : Bool := PySem.W.dataLe false (fun b : Addr × Int × Str => isD b.2) p q
def rSortIS (K : PySem.W.Frag) : List V → Hp → VK → Prop := fun vs H Q => ∃ (a : Addr) (ks : List (Addr × Int × Str)), vs = [.ref a] ∧ SqL K H a (ks.map fun p => V.ref p.1) ∧ ks.length ≤ sizeLine ∧
  (∀ p ∈ ks, SqT K H p.1 [.int p.2.1, .str p.2.2]) ∧ ∀ (p : Addr), H p = none → Q (.ref p) (upd H p (.lst ((ks.mergeSort isLe).map fun q => V.ref q.1)))
theorem alike_is (p q : Int × Str) : PySem.W.alike (isD p) (isD q) = true := by
  simp [isD, PySem.W.alike, PySem.W.alikeAll]
theorem call_sortIS {X : Cx} (hu : X.A.units + 64 < cLine) : CallR X (.builtin "sorted") (rSortIS X.K) := by
  intro pins s σ H vs us Q I r h
  obtain ⟨a, ks, rfl, hs, few, tp, q⟩ := h
  obtain ⟨its, rv, pl, _⟩ := I.list hs
  rw [Vals.ref1 r]
  have ei : its = ks.map fun p => Value.ref p.1 := refs_of_valsG rv
  have fin : ∀ out : List Value, EachIs (fun v (p : Addr × Int × Str) => v = Value.ref p.1) out (ks.mergeSort isLe) → ∃ (v : V) (H' : Hp), Inv X pins σ H' { s with heap := sortedAll s.heap its out.toArray } ∧ RelV v (Value.ref (s.heap.objs.size + 1)) ∧ Q v H' := fun out e => by
    have e := eachMap_back e
    obtain ⟨ep, at_⟩ := PyProof.Rows.sortedAll_at s.heap its out.toArray
    refine ⟨.ref _, upd H (s.heap.objs.size + 1) (.lst ((ks.mergeSort isLe).map fun q => V.ref q.1)), I.laid (t' := s.toks) (fun _ _ => PyProof.Rows.sortedAll_old) (Nat.le_succ _) ⟨?_, out, ep, ?_, at_⟩, rfl, q _ (I.hok.fresh (Nat.le_succ _))⟩
    · rw [List.length_map, List.length_mergeSort]
      exact few
    · rw [e]
      exact vals_of_refsG _ _
  have rd : ∀ p ∈ ks, ∃ as, Reads s.heap (.ref p.1) (isD p.2) as := fun p hp => by
    obtain ⟨its2, rv2, ⟨ob, g1, g2, m, g3⟩, _⟩ := I.tuple (tp p hp)
    cases rv2 with
    | @cons _ v1 _ _ r1 t1 =>
      cases t1 with
      | @cons _ v2 _ _ r2 t2 =>
        cases t2
        obtain ⟨t, rfl⟩ := (show ∃ t, v1 = Value.int p.2.1 t from r1)
        obtain ⟨t', rfl⟩ := (show ∃ t, v2 = Value.str p.2.2 t from r2)
        exact ⟨_, .tuple g1 g2 g3 (.cons (as := []) (.int _ _) (.cons (as := []) (.str _ _) .nil))⟩
  refine PySem.W.sorted_data (R := fun v (p : Addr × Int × Str) => v = Value.ref p.1) (bs := ks) (enc := fun b => isD b.2) pl.isList (by rw [ei]; exact eachMap _ ks fun _ _ => rfl) (by rw [ei]; exact eachMap _ ks rd) (PySem.W.AllAlike.of fun b b' => alike_is b.2 b'.2) (.inl fun d hd => ?_) few (fun b _ => ?_) fun out _ e => ?_
  · obtain ⟨p, hp, rfl⟩ := List.mem_map.mp hd
    exact ⟨_, _, rfl⟩
  · have : (isD b.2).depth ≤ 1 := by simp [isD, PyData.depth, PyData.depthAll]
    omega
  · exact fin out e
end
end L2.Tb
set_option Elab.async false
set_option linter.all false
set_option maxRecDepth 100000
set_option maxHeartbeats 8000000
namespace L2.K15
open PySem PySem.Spec PyProof.Rows L2.Tb
open SX (S)
/-! ### formulas -/
inductive Fm where
  | lt (n : List Nat)
  | op (s : Nat) (l r : Fm)
deriving DecidableEq
def sgL : Nat → List Nat
  | 0 => [42]
  | 1 => [47, 47]
  | _ => [62, 62]
theorem sgL_len (s : Nat) : (sgL s).length ≤ 2 := by
  unfold sgL
  split <;> decide
def Fm.txt : Fm → List Nat
  | .lt n => n
  | .op s l r => [40] ++ l.txt ++ [32] ++ sgL s ++ [32] ++ r.txt ++ [41]
def Fm.ops : Fm → Nat
  | .lt _ => 0
  | .op _ l r => l.ops + 1 + r.ops
def Fm.dep : Fm → Nat
  | .lt _ => 0
  | .op _ l r => max l.dep r.dep + 1
def Fm.sgs : Fm → List (List Nat)
  | .lt _ => []
  | .op s l r => l.sgs ++ [sgL s] ++ r.sgs
def Fm.ok : Fm → Bool
  | .lt n => nameB n
  | .op s l r => decide (s < 3) && (l.ok && r.ok)
theorem Fm.ok_op {s : Nat} {l r : Fm} (h : (Fm.op s l r).ok = true) : s < 3 ∧ l.ok = true ∧ r.ok = true := by
  simp only [Fm.ok, Bool.and_eq_true, decide_eq_true_eq] at h
  exact h
theorem Fm.ok_mk {s : Nat} {l r : Fm} (hs : s < 3) (h1 : l.ok = true) (h2 : r.ok = true) : (Fm.op s l r).ok = true := by
  simp only [Fm.ok, Bool.and_eq_true, decide_eq_true_eq]
  exact ⟨hs, h1, h2⟩
theorem Fm.sgs_len : ∀ f : Fm, f.sgs.length = f.ops
  | .lt _ => rfl
  | .op s l r => by
    have h1 := Fm.sgs_len l
    have h2 := Fm.sgs_len r
    simp only [Fm.sgs, Fm.ops, List.length_append, List.length_singleton, h1, h2]
theorem Fm.dep_ops : ∀ f : Fm, f.dep ≤ f.ops
  | .lt _ => Nat.le_refl _
  | .op s l r => by
    have h1 := Fm.dep_ops l
    have h2 := Fm.dep_ops r
    simp only [Fm.dep, Fm.ops]
    omega
theorem Fm.txt_len : ∀ f : Fm, f.ok = true → f.txt.length ≤ 8 * (f.ops + 1) + 6 * f.ops
  | .lt n, h => by
    have := (nameB_len h).2
    simp only [Fm.txt, Fm.ops]
    omega
  | .op s l r, h => by
    obtain ⟨_, hl, hr⟩ := Fm.ok_op h
    have h1 := Fm.txt_len l hl
    have h2 := Fm.txt_len r hr
    have h3 := sgL_len s
    simp only [Fm.txt, Fm.ops, List.length_append, List.length_singleton]
    omega
theorem Fm.txt_pos : ∀ f : Fm, f.ok = true → f.txt ≠ []
  | .lt n, h => fun e => by
    have h1 := (nameB_len h).1
    have e2 : n = [] := e
    rw [e2] at h1
    exact absurd h1 (by decide)
  | .op s l r, _ => by simp [Fm.txt]
/-- how often a sign stands in a text -/
def cnt (c : Nat) (l : List Nat) : Nat := l.countP (· == c)
theorem name_no40 {n : List Nat} (h : nameB n = true) : cnt 40 n = 0 := by
  unfold cnt
  rw [List.countP_eq_zero]
  intro c hc
  cases n with
  | nil => cases hc
  | cons a r =>
    simp only [nameB, lowB, Bool.and_eq_true, Nat.ble_eq] at h
    have key : 48 ≤ c := by
      rcases List.mem_cons.mp hc with rfl | hc
      · omega
      · have := List.all_eq_true.mp h.2.2 c hc
        simp only [signB, lowB, Bool.or_eq_true, Bool.and_eq_true, Nat.ble_eq] at this
        omega
    simp only [beq_iff_eq]
    omega
theorem Fm.cnt_ops : ∀ f : Fm, f.ok = true → cnt 40 f.txt = f.ops
  | .lt n, h => name_no40 h
  | .op s l r, h => by
    obtain ⟨hs, hl, hr⟩ := Fm.ok_op h
    have h1 := Fm.cnt_ops l hl
    have h2 := Fm.cnt_ops r hr
    have h3 : cnt 40 (sgL s) = 0 := by
      unfold sgL
      split <;> decide
    unfold cnt at h1 h2 h3 ⊢
    simp only [Fm.txt, Fm.ops, List.countP_append, h1, h2, h3]
    simp [List.countP_cons]
    omega
/-! each once by its text, in order -/
section
variable {α β : Type}
def insK (t : α → List Nat) (l : List α) (q : α) : List α := if (l.any fun x => decide (t x = t q)) = true then l.map (fun x => if t x = t q then q else x) else l ++ [q]
def ddK (t : α → List Nat) (z : List α) : List α := z.foldl (insK t) []
theorem insK_map {t : β → List Nat} {g : α → β} (l : List α) (q : α) : (insK (fun x => t (g x)) l q).map g = insK t (l.map g) (g q) := by
  unfold insK
  rw [List.any_map]
  by_cases c : (l.any fun x => decide (t (g x) = t (g q))) = true
  · rw [if_pos c, if_pos (show (l.any ((fun x => decide (t x = t (g q))) ∘ g)) = true from c), List.map_map, List.map_map]
    refine List.map_congr_left fun x _ => ?_
    simp only [Function.comp]
    by_cases e : t (g x) = t (g q)
    · rw [if_pos e, if_pos e]
    · rw [if_neg e, if_neg e]
  · rw [if_neg c, if_neg (show ¬ (l.any ((fun x => decide (t x = t (g q))) ∘ g)) = true from c), List.map_append]
    rfl
theorem ddK_map {t : β → List Nat} {g : α → β} (z : List α) : (ddK (fun x => t (g x)) z).map g = ddK t (z.map g) := by
  have go : ∀ (z l : List α), (z.foldl (insK fun x => t (g x)) l).map g = (z.map g).foldl (insK t) (l.map g) := by
    intro z
    induction z with
    | nil => intro l; rfl
    | cons q z ih =>
      intro l
      rw [List.foldl_cons, List.map_cons, List.foldl_cons, ih, insK_map]
  exact go z []
theorem mem_insK {t : α → List Nat} {l : List α} {q x : α} (h : x ∈ insK t l q) : x = q ∨ x ∈ l := by
  unfold insK at h
  split at h
  · obtain ⟨y, hy, rfl⟩ := List.mem_map.mp h
    by_cases e : t y = t q
    · exact .inl (if_pos e)
    · exact .inr (by rw [if_neg e]; exact hy)
  · rcases List.mem_append.mp h with h | h
    · exact .inr h
    · exact .inl (List.mem_singleton.mp h)
theorem txt_insK {t : α → List Nat} {l : List α} {q y : α} (h : y = q ∨ y ∈ l) : ∃ x ∈ insK t l q, t x = t y := by
  unfold insK
  by_cases c : (l.any fun x => decide (t x = t q)) = true
  · rw [if_pos c]
    have hq : ∃ x ∈ l.map (fun x => if t x = t q then q else x), t x = t q := by
      obtain ⟨x, hx, e⟩ := List.any_eq_true.mp c
      exact ⟨q, List.mem_map.mpr ⟨x, hx, if_pos (of_decide_eq_true e)⟩, rfl⟩
    rcases h with rfl | h
    · exact hq
    · by_cases e : t y = t q
      · obtain ⟨x, a, b⟩ := hq
        exact ⟨x, a, b.trans e.symm⟩
      · exact ⟨y, List.mem_map.mpr ⟨y, h, if_neg e⟩, rfl⟩
  · rw [if_neg c]
    rcases h with rfl | h
    · exact ⟨y, List.mem_append_right _ List.mem_cons_self, rfl⟩
    · exact ⟨y, List.mem_append_left _ h, rfl⟩
theorem nd_insK {t : α → List Nat} {l : List α} {q : α} (h : (l.map t).Nodup) : ((insK t l q).map t).Nodup := by
  unfold insK
  by_cases c : (l.any fun x => decide (t x = t q)) = true
  · rw [if_pos c, List.map_map]
    have e : (t ∘ fun x => if t x = t q then q else x) = t := by
      funext x
      simp only [Function.comp]
      by_cases e : t x = t q
      · rw [if_pos e, e]
      · rw [if_neg e]
    rw [e]
    exact h
  · rw [if_neg c, List.map_append]
    refine List.nodup_append.mpr ⟨h, by simp, fun a ha b hb => ?_⟩
    simp only [List.map_cons, List.map_nil, List.mem_singleton] at hb
    subst hb
    obtain ⟨x, hx, rfl⟩ := List.mem_map.mp ha
    exact fun e => c (List.any_eq_true.mpr ⟨x, hx, decide_eq_true e⟩)
theorem len_insK {t : α → List Nat} {l : List α} {q : α} : (insK t l q).length ≤ l.length + 1 := by
  unfold insK
  split
  · rw [List.length_map]
    omega
  · rw [List.length_append, List.length_singleton]
    exact Nat.le_refl _
theorem foldK {t : α → List Nat} : ∀ (z l : List α), (l.map t).Nodup → (((z.foldl (insK t) l).map t).Nodup ∧ (z.foldl (insK t) l).length ≤ l.length + z.length ∧ (∀ x ∈ z.foldl (insK t) l, x ∈ l ∨ x ∈ z) ∧ ∀ y, y ∈ l ∨ y ∈ z → ∃ x ∈ z.foldl (insK t) l, t x = t y)
  | [], l, h => ⟨h, Nat.le_refl _, fun x hx => .inl hx, fun y hy => ⟨y, hy.elim id (fun z => by cases z), rfl⟩⟩
  | q :: z, l, h => by
    obtain ⟨h1, h2, h3, h4⟩ := foldK z (insK t l q) (nd_insK h)
    refine ⟨h1, ?_, fun x hx => ?_, fun y hy => ?_⟩
    · have := len_insK (t := t) (l := l) (q := q)
      rw [List.foldl_cons, List.length_cons]
      omega
    · rcases h3 x hx with a | a
      · rcases mem_insK a with rfl | a
        · exact .inr List.mem_cons_self
        · exact .inl a
      · exact .inr (List.mem_cons_of_mem _ a)
    · rcases hy with hy | hy
      · obtain ⟨x, a, b⟩ := txt_insK (t := t) (q := q) (.inr hy)
        obtain ⟨x2, a2, b2⟩ := h4 x (.inl a)
        exact ⟨x2, a2, b2.trans b⟩
      · rcases List.mem_cons.mp hy with rfl | hy
        · obtain ⟨x, a, b⟩ := txt_insK (t := t) (l := l) (q := y) (.inl rfl)
          obtain ⟨x2, a2, b2⟩ := h4 x (.inl a)
          exact ⟨x2, a2, b2.trans b⟩
        · exact h4 y (.inr hy)
theorem ddK_nd (t : α → List Nat) (z : List α) : ((ddK t z).map t).Nodup := (foldK z [] List.nodup_nil).1
theorem ddK_len (t : α → List Nat) (z : List α) : (ddK t z).length ≤ z.length := by
  have := (foldK (t := t) z [] List.nodup_nil).2.1
  rw [List.length_nil, Nat.zero_add] at this
  exact this
theorem ddK_mem {t : α → List Nat} {z : List α} {x : α} (h : x ∈ ddK t z) : x ∈ z := ((foldK z [] List.nodup_nil).2.2.1 x h).elim (fun z => by cases z) id
theorem ddK_txt {t : α → List Nat} {z : List α} {y : α} (h : y ∈ z) : ∃ x ∈ ddK t z, t x = t y := (foldK z [] List.nodup_nil).2.2.2 y (.inr h)
theorem ddK_snoc (t : α → List Nat) (z : List α) (q : α) : ddK t (z ++ [q]) = insK t (ddK t z) q := by
  unfold ddK
  rw [List.foldl_append]
  rfl
end
def keyLe (p q : Int × Str) : Bool := PySem.W.dataLe false isD p q
def Fm.key (f : Fm) : Int × Str := ((f.ops : Int), S f.txt)
def fmLe (f g : Fm) : Bool := keyLe f.key g.key
def ordF (z : List Fm) : List Fm := (ddK Fm.txt z).mergeSort fmLe
def innF : Fm → List Fm
  | .lt _ => []
  | .op s l r => ordF ((innF l ++ [l]) ++ (innF r ++ [r]))
def partsF (f : Fm) : List Fm := innF f ++ [f]
/-- all formulas within a formula, as often as they are written -/
def subsF : Fm → List Fm
  | .lt n => [.lt n]
  | .op s l r => [.op s l r] ++ subsF l ++ subsF r
theorem ordF_mem {z : List Fm} {x : Fm} (h : x ∈ ordF z) : x ∈ z := ddK_mem ((List.mergeSort_perm _ _).mem_iff.mp h)
theorem ordF_txt {z : List Fm} {y : Fm} (h : y ∈ z) : ∃ x ∈ ordF z, x.txt = y.txt := by
  obtain ⟨x, a, b⟩ := ddK_txt (t := Fm.txt) h
  exact ⟨x, (List.mergeSort_perm _ _).mem_iff.mpr a, b⟩
theorem ordF_len (z : List Fm) : (ordF z).length ≤ z.length := by
  unfold ordF
  rw [List.length_mergeSort]
  exact ddK_len _ _
theorem innF_len : ∀ f : Fm, (innF f).length ≤ 2 * f.ops
  | .lt _ => Nat.le_refl _
  | .op s l r => by
    have h1 := innF_len l
    have h2 := innF_len r
    refine Nat.le_trans (ordF_len _) ?_
    simp only [List.length_append, List.length_singleton, Fm.ops]
    omega
theorem subsF_self (f : Fm) : f ∈ subsF f := by cases f <;> simp [subsF]
theorem partsF_subs : ∀ (f g : Fm), g ∈ partsF f → g ∈ subsF f
  | .lt n, g, h => by
    simp only [partsF, innF, List.nil_append, List.mem_singleton] at h
    rw [h]
    exact subsF_self _
  | .op s l r, g, h => by
    rcases List.mem_append.mp h with h | h
    · have := ordF_mem h
      simp only [subsF, List.mem_append]
      rcases List.mem_append.mp this with a | a
      · exact .inl (.inr (partsF_subs l g a))
      · exact .inr (partsF_subs r g a)
    · rw [List.mem_singleton.mp h]
      exact subsF_self _
theorem subs_parts : ∀ (f g : Fm), g ∈ subsF f → ∃ x ∈ partsF f, x.txt = g.txt
  | .lt n, g, h => by
    simp only [subsF, List.mem_singleton] at h
    exact ⟨.lt n, by simp [partsF], by rw [h]⟩
  | .op s l r, g, h => by
    simp only [subsF, List.mem_append, List.mem_singleton] at h
    have up : ∀ x ∈ partsF l ++ partsF r, x.txt = g.txt → ∃ x ∈ partsF (.op s l r), x.txt = g.txt := fun x hx e => by
      obtain ⟨y, a, b⟩ := ordF_txt hx
      exact ⟨y, List.mem_append_left _ a, b.trans e⟩
    rcases h with (h | h) | h
    · exact ⟨.op s l r, by simp [partsF], by rw [h]⟩
    · obtain ⟨x, a, b⟩ := subs_parts l g h
      exact up x (List.mem_append_left _ a) b
    · obtain ⟨x, a, b⟩ := subs_parts r g h
      exact up x (List.mem_append_right _ a) b
theorem subs_ok : ∀ (f g : Fm), f.ok = true → g ∈ subsF f → g.ok = true ∧ g.ops ≤ f.ops
  | .lt n, g, h, hg => by
    simp only [subsF, List.mem_singleton] at hg
    rw [hg]
    exact ⟨h, Nat.le_refl _⟩
  | .op s l r, g, h, hg => by
    obtain ⟨hs, hl, hr⟩ := Fm.ok_op h
    simp only [subsF, List.mem_append, List.mem_singleton] at hg
    rcases hg with (hg | hg) | hg
    · rw [hg]
      exact ⟨h, Nat.le_refl _⟩
    · obtain ⟨a, b⟩ := subs_ok l g hl hg
      exact ⟨a, by simp only [Fm.ops]; omega⟩
    · obtain ⟨a, b⟩ := subs_ok r g hr hg
      exact ⟨a, by simp only [Fm.ops]; omega⟩
theorem parts_ok {f g : Fm} (h : f.ok = true) (hg : g ∈ partsF f) : g.ok = true ∧ g.ops ≤ f.ops := subs_ok f g h (partsF_subs f g hg)
/-! put -/
def putW (w : List Nat) (g : Fm) : Fm → Fm
  | .lt n => if n = w then g else .lt n
  | .op s l r => .op s (putW w g l) (putW w g r)
theorem putW_ok {w : List Nat} {g : Fm} (hg : g.ok = true) : ∀ f : Fm, f.ok = true → (putW w g f).ok = true
  | .lt n, h => by
    unfold putW
    split
    · exact hg
    · exact h
  | .op s l r, h => by
    obtain ⟨hs, hl, hr⟩ := Fm.ok_op h
    exact Fm.ok_mk hs (putW_ok hg l hl) (putW_ok hg r hr)
theorem putW_subs {w : List Nat} {g : Fm} : ∀ f : Fm, putW w g f ≠ f → g ∈ subsF (putW w g f)
  | .lt n, h => by
    unfold putW at h ⊢
    split at h
    · rw [if_pos ‹_›]
      exact subsF_self _
    · exact absurd rfl h
  | .op s l r, h => by
    simp only [putW, subsF, List.mem_append]
    by_cases c : putW w g l = l
    · have : putW w g r ≠ r := fun e => h (by simp only [putW, c, e])
      exact .inr (putW_subs r this)
    · exact .inl (.inr (putW_subs l c))
theorem putW_dep {w : List Nat} {g : Fm} : ∀ f : Fm, (putW w g f).dep ≤ f.dep + g.dep
  | .lt n => by
    unfold putW
    split
    · simp only [Fm.dep]; omega
    · simp only [Fm.dep]; omega
  | .op s l r => by
    have h1 := putW_dep (w := w) (g := g) l
    have h2 := putW_dep (w := w) (g := g) r
    simp only [putW, Fm.dep]
    omega
end L2.K15
set_option Elab.async false
set_option linter.all false
set_option maxRecDepth 100000
set_option maxHeartbeats 8000000
namespace L2.K15
open PySem PySem.Spec PyProof.Rows L2.Tb
open SX (S)
abbrev s_fsign : Stmt := inClass (top 29) 2
abbrev N_fsign : List Str := ["self"]
theorem sc_fsign : FnScope N_fsign ["self"] (defScope s_fsign) := ⟨rfl, rfl, rfl, by decide +kernel, rfl, by decide +kernel, by decide +kernel⟩
abbrev s_fname : Stmt := inClass (top 29) 3
abbrev N_fname : List Str := ["self"]
theorem sc_fname : FnScope N_fname ["self"] (defScope s_fname) := ⟨rfl, rfl, rfl, by decide +kernel, rfl, by decide +kernel, by decide +kernel⟩
abbrev s_fleft : Stmt := inClass (top 29) 4
abbrev N_fleft : List Str := ["self"]
theorem sc_fleft : FnScope N_fleft ["self"] (defScope s_fleft) := ⟨rfl, rfl, rfl, by decide +kernel, rfl, by decide +kernel, by decide +kernel⟩
abbrev s_fright : Stmt := inClass (top 29) 5
abbrev N_fright : List Str := ["self"]
theorem sc_fright : FnScope N_fright ["self"] (defScope s_fright) := ⟨rfl, rfl, rfl, by decide +kernel, rfl, by decide +kernel, by decide +kernel⟩
abbrev s_fparts : Stmt := inClass (top 29) 7
abbrev N_fparts : List Str := ["self"]
theorem sc_fparts : FnScope N_fparts ["self"] (defScope s_fparts) := ⟨rfl, rfl, rfl, by decide +kernel, rfl, by decide +kernel, by decide +kernel⟩
abbrev s_flen : Stmt := inClass (top 29) 13
abbrev N_flen : List Str := ["self"]
theorem sc_flen : FnScope N_flen ["self"] (defScope s_flen) := ⟨rfl, rfl, rfl, by decide +kernel, rfl, by decide +kernel, by decide +kernel⟩
abbrev s_feq : Stmt := inClass (top 29) 15
abbrev N_feq : List Str := ["self", "other"]
theorem sc_feq : FnScope N_feq ["self", "other"] (defScope s_feq) := ⟨rfl, rfl, rfl, by decide +kernel, rfl, by decide +kernel, by decide +kernel⟩
abbrev s_fstr : Stmt := inClass (top 29) 16
abbrev N_fstr : List Str := ["self"]
theorem sc_fstr : FnScope N_fstr ["self"] (defScope s_fstr) := ⟨rfl, rfl, rfl, by decide +kernel, rfl, by decide +kernel, by decide +kernel⟩
abbrev s_fcont : Stmt := inClass (top 29) 12
abbrev N_fcont : List Str := ["self", "value"]
theorem sc_fcont : FnScope N_fcont ["self", "value"] (defScope s_fcont) := ⟨rfl, rfl, rfl, by decide +kernel, rfl, by decide +kernel, by decide +kernel⟩
/-! ### formulas in the heap -/
def fmF (sg : Str) (nm lv rv : V) (tx : Str) (sgs inn : Addr) : List (Str × V) := [("_sign", .str sg), ("_name", nm), ("_left", lv), ("_right", rv), ("_text", .str tx), ("_signs", .ref sgs), ("_inner", .ref inn)]
/-- a formula stands at a -/
inductive FmAt (FC : Addr) (H : Hp) : Addr → Fm → Prop where
  | lt {a dx sg inn : Addr} {n : List Nat} : H a = some (.ins FC dx (fmF (S []) (.str (S n)) .non .non (S n) sg inn)) → H sg = some (.tup []) → H inn = some (.tup []) → FmAt FC H a (.lt n)
  | op {a dx la ra sg inn : Addr} {s : Nat} {l r : Fm} {ps : List Addr} : H a = some (.ins FC dx (fmF (S (sgL s)) .non (.ref la) (.ref ra) (S (Fm.op s l r).txt) sg inn)) → FmAt FC H la l → FmAt FC H ra r → H sg = some (.tup ((Fm.op s l r).sgs.map nmV)) →
      H inn = some (.tup (ps.map V.ref)) → ps.length = (innF (.op s l r)).length → (∀ (i : Nat) (p : Addr) (g : Fm), ps[i]? = some p → (innF (.op s l r))[i]? = some g → FmAt FC H p g) → FmAt FC H a (.op s l r)
/-- what formulas are made of -/
def FoO (o : HO) : Prop := (∃ C dx fs, o = .ins C dx fs ∧ fs ≠ []) ∨ ∃ xs, o = .tup xs
theorem FmAt.mono {FC : Addr} {H H' : Hp} (k : ∀ b o, FoO o → H b = some o → H' b = some o) : ∀ {a : Addr} {f : Fm}, FmAt FC H a f → FmAt FC H' a f := by
  intro a f h
  have ki : ∀ {b C dx : Addr} {x : Str × V} {fs : List (Str × V)}, H b = some (.ins C dx (x :: fs)) → H' b = some (.ins C dx (x :: fs)) := fun e => k _ _ (.inl ⟨_, _, _, rfl, fun z => by cases z⟩) e
  have kt : ∀ {b : Addr} {xs : List V}, H b = some (.tup xs) → H' b = some (.tup xs) := fun e => k _ _ (.inr ⟨_, rfl⟩) e
  induction h with
  | lt e1 e2 e3 => exact .lt (ki e1) (kt e2) (kt e3)
  | op e1 _ _ e4 e5 e6 _ i1 i2 i3 => exact .op (ki e1) i1 i2 (kt e4) (kt e5) e6 i3
theorem FmAt.same {FC : Addr} {H H' : Hp} {a : Addr} {f : Fm} (h : FmAt FC H a f) (s : Same H H') : FmAt FC H' a f := h.mono fun b o _ e => s b o e
theorem foo_tbl {o : HO} (h : FoO o) : ∀ ps, o ≠ .tbl ps := by
  rcases h with ⟨_, _, _, rfl, _⟩ | ⟨_, rfl⟩ <;> exact fun ps z => by cases z
theorem FmAt.N {FC : Addr} {H H' : Hp} {a : Addr} {f : Fm} (h : FmAt FC H a f) (s : LamX.ExtN H H') : FmAt FC H' a f := h.mono fun b o n e => s b o e (foo_tbl n)
/-- all but the object at p, which is a list -/
theorem FmAt.B {FC : Addr} {H H' : Hp} {a p : Addr} {f : Fm} (h : FmAt FC H a f) (s : SameB p H H') (hp : ∃ xs, H p = some (.lst xs)) : FmAt FC H' a f := by
  obtain ⟨xs, ep⟩ := hp
  refine h.mono fun b o n e => s b o (fun z => ?_) e
  rw [z, ep] at e
  cases e
  rcases n with ⟨_, _, _, z, _⟩ | ⟨_, z⟩ <;> cases z
/-- all but the object at p, an instance without attributes -/
theorem FmAt.I {FC : Addr} {H H' : Hp} {a p : Addr} {f : Fm} (h : FmAt FC H a f) (s : ∀ b o, b ≠ p → H b = some o → H' b = some o) (hp : ∃ C dx, H p = some (.ins C dx [])) : FmAt FC H' a f := by
  obtain ⟨C, dx, ep⟩ := hp
  refine h.mono fun b o n e => s b o (fun z => ?_) e
  rw [z, ep] at e
  cases e
  rcases n with ⟨_, _, _, z, n⟩ | ⟨_, z⟩
  · cases z
    exact n rfl
  · cases z
/-- all but the object at p, an instance with few attributes -/
theorem FmAt.P {FC : Addr} {H H' : Hp} {a p : Addr} {f : Fm} (h : FmAt FC H a f) (s : ∀ b o, b ≠ p → H b = some o → H' b = some o) (hp : ∃ C dx fs, H p = some (.ins C dx fs) ∧ fs.length ≤ 6) : FmAt FC H' a f := by
  obtain ⟨C, dx, fs, ep, l6⟩ := hp
  have ki : ∀ {b C dx : Addr} {x : List (Str × V)}, x.length = 7 → H b = some (.ins C dx x) → H' b = some (.ins C dx x) := fun {b _ _ x} l7 e => s b _ (fun z => by
    rw [z, ep] at e
    cases e
    omega) e
  have kt : ∀ {b : Addr} {xs : List V}, H b = some (.tup xs) → H' b = some (.tup xs) := fun {b _} e => s b _ (fun z => by
    rw [z, ep] at e
    cases e) e
  induction h with
  | lt e1 e2 e3 => exact .lt (ki rfl e1) (kt e2) (kt e3)
  | op e1 _ _ e4 e5 e6 _ i1 i2 i3 => exact .op (ki rfl e1) i1 i2 (kt e4) (kt e5) e6 i3
def Fm.sg : Fm → Str
  | .lt _ => S []
  | .op s _ _ => S (sgL s)
def Fm.nm : Fm → V
  | .lt n => .str (S n)
  | .op _ _ _ => .non
/-- what a formula's object shows -/
structure FmO (FC : Addr) (H : Hp) (a : Addr) (f : Fm) : Prop where
  ex : ∃ (dx sg inn : Addr) (lv rv : V) (ps : List Addr), H a = some (.ins FC dx (fmF f.sg f.nm lv rv (S f.txt) sg inn)) ∧ H sg = some (.tup (f.sgs.map nmV)) ∧ H inn = some (.tup (ps.map V.ref)) ∧ Paired (FmAt FC H) ps (innF f) ∧
    (match f with | .lt _ => lv = .non ∧ rv = .non | .op _ l r => ∃ la ra, lv = .ref la ∧ rv = .ref ra ∧ FmAt FC H la l ∧ FmAt FC H ra r)
theorem paired_ix {α β : Type} {R : α → β → Prop} : ∀ {xs : List α} {ys : List β}, xs.length = ys.length → (∀ (i : Nat) x y, xs[i]? = some x → ys[i]? = some y → R x y) → Paired R xs ys
  | [], [], _, _ => .nil
  | x :: xs, y :: ys, h, k => .cons (k 0 x y rfl rfl) (paired_ix (by simpa using h) fun i a b h1 h2 => k (i + 1) a b (by simpa using h1) (by simpa using h2))
  | [], _ :: _, h, _ => by cases h
  | _ :: _, [], h, _ => by cases h
theorem paired_get2 {α β : Type} {R : α → β → Prop} : ∀ {xs : List α} {ys : List β}, Paired R xs ys → ∀ (i : Nat) x y, xs[i]? = some x → ys[i]? = some y → R x y
  | _, _, .nil, i, x, y, h, _ => by cases h
  | _, _, .cons a _, 0, x, y, h1, h2 => by
    cases h1
    cases h2
    exact a
  | _, _, .cons _ t, i + 1, x, y, h1, h2 => paired_get2 t i x y (by simpa using h1) (by simpa using h2)
theorem FmAt.o {FC : Addr} {H : Hp} {a : Addr} {f : Fm} (h : FmAt FC H a f) : FmO FC H a f := by
  cases h with
  | lt e1 e2 e3 => exact ⟨_, _, _, _, _, [], e1, e2, e3, .nil, rfl, rfl⟩
  | op e1 h1 h2 e4 e5 e6 e7 => exact ⟨_, _, _, _, _, _, e1, e4, e5, paired_ix e6 e7, _, _, rfl, rfl, h1, h2⟩
theorem FmAt.ins {FC : Addr} {H : Hp} {a : Addr} {f : Fm} (h : FmAt FC H a f) : ∃ dx fs, H a = some (.ins FC dx fs) := by
  obtain ⟨dx, sg, inn, lv, rv, ps, e, _⟩ := h.o.ex
  exact ⟨dx, _, e⟩
/-- the class Formula -/
structure FoF (K : PySem.W.Frag) (mg : Str → Option Value) (FC : Addr) : Prop where
  mgF : mg "Formula" = some (.ref FC)
  cls : Cls K FC
  n1 : NoAttr K FC "_sign"
  n2 : NoAttr K FC "_name"
  n3 : NoAttr K FC "_left"
  n4 : NoAttr K FC "_right"
  n5 : NoAttr K FC "_text"
  n6 : NoAttr K FC "_signs"
  n7 : NoAttr K FC "_inner"
  ex : InsC K FC
  self : PySem.W.kitOne K (.ref FC) (.ref FC) = some true
/-- what is no formula -/
def NoF (K : PySem.W.Frag) (FC : Addr) (H : Hp) (v : V) : Prop := ∃ t, TyX K H v t ∧ PySem.W.kitOne K t (.ref FC) = some false
theorem FmAt.ty {K : PySem.W.Frag} {mg : Str → Option Value} {FC : Addr} {H : Hp} {a : Addr} {f : Fm} (h : FmAt FC H a f) (FF : FoF K mg FC) : TyX K H (.ref a) (.ref FC) := by
  obtain ⟨dx, fs, e⟩ := h.ins
  exact .base (.ins e FF.cls FF.ex.ha FF.ex.hn FF.ex.ht FF.ex.hm)
/-! ### how methods stand -/
def PrpM (P : Program) (w : World) (K : PySem.W.Frag) (mg : Str → Option Value) (base : Heap) (C : Addr) (x : Str) (k : Nat) (sp : Sp) : Prop := ∃ p g fd, PropOf K C x p g ∧ FnOk P w K mg base L2.CX0 k g fd ["self"] sp ∧ Binds K fd ["self"] []
def SpcM (P : Program) (w : World) (K : PySem.W.Frag) (mg : Str → Option Value) (base : Heap) (CX : CXT) (C : Addr) (x : Str) (ps : List Str) (k : Nat) (sp : Sp) : Prop := ∃ f fd, PySem.W.findIn K (.ref C) x = some (some (.ref f)) ∧ PySem.W.isFn K (.ref f) = true ∧ FnOk P w K mg base CX k f fd ps sp ∧ Binds K fd ps []
/-! ### promises -/
def spFsign (FC : Addr) : Sp := fun vs H Q _ => ∃ (a : Addr) (f : Fm), vs = [.ref a] ∧ FmAt FC H a f ∧ Q (.str f.sg) H
def spFname (FC : Addr) : Sp := fun vs H Q _ => ∃ (a : Addr) (f : Fm), vs = [.ref a] ∧ FmAt FC H a f ∧ Q f.nm H
def spFleft (FC : Addr) : Sp := fun vs H Q _ => ∃ (a : Addr) (f : Fm), vs = [.ref a] ∧ FmAt FC H a f ∧ (match f with | .lt _ => Q .non H | .op _ l _ => ∀ b, FmAt FC H b l → Q (.ref b) H)
def spFright (FC : Addr) : Sp := fun vs H Q _ => ∃ (a : Addr) (f : Fm), vs = [.ref a] ∧ FmAt FC H a f ∧ (match f with | .lt _ => Q .non H | .op _ _ r => ∀ b, FmAt FC H b r → Q (.ref b) H)
def spFparts (FC : Addr) : Sp := fun vs H Q _ => ∃ (a : Addr) (f : Fm), vs = [.ref a] ∧ FmAt FC H a f ∧ f.ops ≤ 100 ∧ ∀ (T : Addr) (ps : List Addr) (H' : Hp), Same H H' → H' T = some (.tup (ps.map V.ref)) → Paired (FmAt FC H') ps (partsF f) → Q (.ref T) H'
def spFlen (FC : Addr) : Sp := fun vs H Q _ => ∃ (a : Addr) (f : Fm), vs = [.ref a] ∧ FmAt FC H a f ∧ Q (.int (f.ops : Nat)) H
def spFstr (FC : Addr) : Sp := fun vs H Q _ => ∃ (a : Addr) (f : Fm), vs = [.ref a] ∧ FmAt FC H a f ∧ Q (.str (S f.txt)) H
def spFeq (K : PySem.W.Frag) (FC : Addr) : Sp := fun vs H Q _ => ∃ (a : Addr) (f : Fm) (y : V), vs = [.ref a, y] ∧ FmAt FC H a f ∧ ((∃ (c : Addr) (g : Fm), y = .ref c ∧ FmAt FC H c g ∧ Q (.bl (decide (f.txt = g.txt))) H) ∨ (NoF K FC H y ∧ Q (.bl false) H))
def spFcont (K : PySem.W.Frag) (FC : Addr) : Sp := fun vs H Q _ => ∃ (a : Addr) (f : Fm) (y : V), vs = [.ref a, y] ∧ FmAt FC H a f ∧ f.ops ≤ 100 ∧ ((∃ (c : Addr) (g : Fm), y = .ref c ∧ FmAt FC H c g ∧ ∀ H', Same H H' → Q (.bl ((partsF f).any fun p => decide (p.txt = g.txt))) H') ∨ (NoF K FC H y ∧ Q (.bl false) H))
theorem dec_str {a b : List Nat} : decide (V.str (S a) = V.str (S b)) = decide (a = b) := decide_eq_decide.mpr ⟨fun h => SX.S_inj (by injection h), fun h => by rw [h]⟩
section
variable {P : Program} {w : World} {K : PySem.W.Frag} {mg : Str → Option Value} {base : Heap} {f : Addr} {fd : FuncData} {FC : Addr}
theorem c_fsign (FF : FoF K mg FC) (F : FunD K "sign" "Formula.sign" (defArgs s_fsign) (defBody s_fsign) (defScope s_fsign) [] [] f fd) : FnOk P w K mg base L2.CX0 1 f fd ["self"] (spFsign FC) := by
  have hnd := sc_fsign.nd
  refine F.ok sc_fsign (fun vs H Q E h => ?_) (fun cdv A outer s H vs Q E hr h => ?_)
  · obtain ⟨a, g, rfl, _⟩ := h
    rfl
  · obtain ⟨a, g, rfl, hg, q⟩ := h
    obtain ⟨dx, sg, inn, lv, rv, ps, e, _⟩ := hg.o.ex
    exact ⟨_, (pss_one (ps_ret (pe_fld (pv 0) (by rfl)))), _, rfl, a, FC, dx, _, _, rfl, e, FF.cls, FF.n1, rfl, q⟩
theorem c_fname (FF : FoF K mg FC) (F : FunD K "name" "Formula.name" (defArgs s_fname) (defBody s_fname) (defScope s_fname) [] [] f fd) : FnOk P w K mg base L2.CX0 1 f fd ["self"] (spFname FC) := by
  have hnd := sc_fname.nd
  refine F.ok sc_fname (fun vs H Q E h => ?_) (fun cdv A outer s H vs Q E hr h => ?_)
  · obtain ⟨a, g, rfl, _⟩ := h
    rfl
  · obtain ⟨a, g, rfl, hg, q⟩ := h
    obtain ⟨dx, sg, inn, lv, rv, ps, e, _⟩ := hg.o.ex
    exact ⟨_, (pss_one (ps_ret (pe_fld (pv 0) (by rfl)))), _, rfl, a, FC, dx, _, _, rfl, e, FF.cls, FF.n2, rfl, q⟩
theorem c_fleft (FF : FoF K mg FC) (F : FunD K "left" "Formula.left" (defArgs s_fleft) (defBody s_fleft) (defScope s_fleft) [] [] f fd) : FnOk P w K mg base L2.CX0 1 f fd ["self"] (spFleft FC) := by
  have hnd := sc_fleft.nd
  refine F.ok sc_fleft (fun vs H Q E h => ?_) (fun cdv A outer s H vs Q E hr h => ?_)
  · obtain ⟨a, g, rfl, _⟩ := h
    rfl
  · obtain ⟨a, g, rfl, hg, q⟩ := h
    cases hg with
    | lt e1 e2 e3 => exact ⟨_, (pss_one (ps_ret (pe_fld (pv 0) (by rfl)))), _, rfl, a, FC, _, _, _, rfl, e1, FF.cls, FF.n3, rfl, q⟩
    | op e1 h1 h2 e4 e5 e6 e7 => exact ⟨_, (pss_one (ps_ret (pe_fld (pv 0) (by rfl)))), _, rfl, a, FC, _, _, _, rfl, e1, FF.cls, FF.n3, rfl, q _ h1⟩
theorem c_fright (FF : FoF K mg FC) (F : FunD K "right" "Formula.right" (defArgs s_fright) (defBody s_fright) (defScope s_fright) [] [] f fd) : FnOk P w K mg base L2.CX0 1 f fd ["self"] (spFright FC) := by
  have hnd := sc_fright.nd
  refine F.ok sc_fright (fun vs H Q E h => ?_) (fun cdv A outer s H vs Q E hr h => ?_)
  · obtain ⟨a, g, rfl, _⟩ := h
    rfl
  · obtain ⟨a, g, rfl, hg, q⟩ := h
    cases hg with
    | lt e1 e2 e3 => exact ⟨_, (pss_one (ps_ret (pe_fld (pv 0) (by rfl)))), _, rfl, a, FC, _, _, _, rfl, e1, FF.cls, FF.n4, rfl, q⟩
    | op e1 h1 h2 e4 e5 e6 e7 => exact ⟨_, (pss_one (ps_ret (pe_fld (pv 0) (by rfl)))), _, rfl, a, FC, _, _, _, rfl, e1, FF.cls, FF.n4, rfl, q _ h2⟩
theorem c_fparts (FF : FoF K mg FC) (F : FunD K "parts" "Formula.parts" (defArgs s_fparts) (defBody s_fparts) (defScope s_fparts) [] [] f fd) : FnOk P w K mg base L2.CX0 1 f fd ["self"] (spFparts FC) := by
  have hnd := sc_fparts.nd
  refine F.ok sc_fparts (fun vs H Q E h => ?_) (fun cdv A outer s H vs Q E hr h => ?_)
  · obtain ⟨a, g, rfl, _⟩ := h
    rfl
  · obtain ⟨a, g, rfl, hg, l8, q⟩ := h
    obtain ⟨dx, sg, inn, lv, rv, ps, e, _, e3, pp, _⟩ := hg.o.ex
    refine ⟨_, (pss_one (ps_ret (pe_op (show OpR _ (binaryOp .Add) (rCatA K) from op_catA) (pe_fld (pv 0) (by rfl)) (pe_tup (pa_cons (pv 0) pa_nil))))), ?_⟩
    refine ⟨_, rfl, a, FC, dx, _, _, rfl, e, FF.cls, FF.n7, rfl, _, rfl, by show 1 ≤ sizeLine; decide, fun T nT => ?_⟩
    have s1 := same_new (o := .tup [V.ref a]) nT
    have lp : ps.length ≤ 200 := by
      have := innF_len g
      rw [pp.length]
      omega
    refine ⟨inn, T, ps.map V.ref, [.ref a], rfl, rfl, SqT.of (s1 _ _ e3), SqT.of upd_same, ?_, fun z => ?_, fun _ z => (by cases z), fun _ _ T2 nT2 => ?_⟩
    · rw [List.length_map, sizeLine_eq]
      simp only [List.length_singleton]
      omega
    · have z2 : ps = [] := List.map_eq_nil_iff.mp z
      subst z2
      refine q T [a] _ s1 upd_same ?_
      have e0 : innF g = [] := by
        cases hi : innF g with
        | nil => rfl
        | cons x y =>
          rw [hi] at pp
          cases pp
      unfold partsF
      rw [e0]
      exact .cons (hg.same s1) .nil
    · have s2 := s1.trans (same_new (o := .tup (ps.map V.ref ++ [.ref a])) nT2)
      refine q T2 (ps ++ [a]) _ s2 (by rw [upd_same, List.map_append]; rfl) ?_
      exact paired_app (paired_imp (fun _ _ z => FmAt.same z s2) pp) (.cons (hg.same s2) .nil)
theorem c_flen (T : Bt mg) (FF : FoF K mg FC) (F : FunD K "__len__" "Formula.__len__" (defArgs s_flen) (defBody s_flen) (defScope s_flen) [] [] f fd) : FnOk P w K mg base L2.CX0 1 f fd ["self"] (spFlen FC) := by
  have hnd := sc_flen.nd
  refine F.ok sc_flen (fun vs H Q E h => ?_) (fun cdv A outer s H vs Q E hr h => ?_)
  · obtain ⟨a, g, rfl, _⟩ := h
    rfl
  · obtain ⟨a, g, rfl, hg, q⟩ := h
    obtain ⟨dx, sg, inn, lv, rv, ps, e, e2, e3, pp, _⟩ := hg.o.ex
    refine ⟨_, (pss_one (ps_ret (pe_callB call_len_seq (by rfl) T.m_len (by decide +kernel) (pa_cons (pe_fld (pv 0) (by rfl)) pa_nil)))), _, rfl, a, FC, dx, _, _, rfl, e, FF.cls, FF.n6, rfl, sg, _, rfl, .inr (SqT.of e2), ?_⟩
    rw [List.length_map, Fm.sgs_len]
    exact q
theorem c_fstr (mstr : mg "str" = none) (FF : FoF K mg FC) (F : FunD K "__str__" "Formula.__str__" (defArgs s_fstr) (defBody s_fstr) (defScope s_fstr) [] [] f fd) : FnOk P w K mg base L2.CX0 1 f fd ["self"] (spFstr FC) := by
  have hnd := sc_fstr.nd
  refine F.ok sc_fstr (fun vs H Q E h => ?_) (fun cdv A outer s H vs Q E hr h => ?_)
  · obtain ⟨a, g, rfl, _⟩ := h
    rfl
  · obtain ⟨a, g, rfl, hg, q⟩ := h
    obtain ⟨dx, sg, inn, lv, rv, ps, e, e2, e3, pp, _⟩ := hg.o.ex
    exact ⟨_, (pss_one (ps_ret (pe_callTy SkE.call_str_str (by rfl) mstr (by decide +kernel) (pa_cons (pe_fld (pv 0) (by rfl)) pa_nil)))), _, rfl, a, FC, dx, _, _, rfl, e, FF.cls, FF.n5, rfl, _, rfl, q⟩
theorem c_feq (T : Bt mg) (FF : FoF K mg FC) (F : FunD K "__eq__" "Formula.__eq__" (defArgs s_feq) (defBody s_feq) (defScope s_feq) [] [] f fd) : FnOk P w K mg base L2.CX0 1 f fd ["self", "other"] (spFeq K FC) := by
  have hnd := sc_feq.nd
  refine F.ok sc_feq (fun vs H Q E h => ?_) (fun cdv A outer s H vs Q E hr h => ?_)
  · obtain ⟨a, g, y, rfl, _⟩ := h
    rfl
  · obtain ⟨a, g, y, rfl, hg, q⟩ := h
    obtain ⟨dx, sg, inn, lv, rv, ps, e, e2, e3, pp, _⟩ := hg.o.ex
    refine ⟨_, (pss_one (ps_ret (pe_and (pe_callB call_isi (by rfl) T.m_isinstance (by decide +kernel) (pa_cons (pv 1) (pa_cons (pe_glob (v := .ref FC) (by rfl) FF.mgF rfl) pa_nil))) (pe_one (pe_cmpR op_eq (pe_fld (pv 0) (by rfl)) (pe_fld (pv 1) (by rfl)) (nomark _)))))), ?_⟩
    rcases q with ⟨c, g2, rfl, hg2, q⟩ | ⟨⟨t, ty, kn⟩, q⟩
    · obtain ⟨dx2, sg2, inn2, lv2, rv2, ps2, k1, _⟩ := hg2.o.ex
      refine ⟨_, rfl, _, _, _, _, _, rfl, .own FC, hg2.ty FF, FF.self, true, rfl, iteT ?_⟩
      refine ⟨_, rfl, a, FC, dx, _, _, rfl, e, FF.cls, FF.n5, rfl, _, rfl, c, FC, dx2, _, _, rfl, k1, FF.cls, FF.n5, rfl, rfl, ?_⟩
      rw [dec_str]
      exact q
    · exact ⟨_, rfl, _, _, _, _, _, rfl, .own FC, ty, kn, false, rfl, iteF q⟩
theorem c_fcont (T : Bt mg) (FF : FoF K mg FC) (PP : PrpM P w K mg base FC "parts" 1 (spFparts FC)) (QQ : SpcM P w K mg base L2.CX0 FC "__eq__" ["self", "other"] 1 (spFeq K FC)) (F : FunD K "__contains__" "Formula.__contains__" (defArgs s_fcont) (defBody s_fcont) (defScope s_fcont) [] [] f fd) : FnOk P w K mg base L2.CX0 4 f fd ["self", "value"] (spFcont K FC) := by
  have hnd := sc_fcont.nd
  obtain ⟨p9, g9, fd9, PP9, FP9, BP9⟩ := PP
  obtain ⟨fe, fde, he, hef, Fe, Be⟩ := QQ
  refine F.ok sc_fcont (fun vs H Q E h => ?_) (fun cdv A outer s H vs Q E hr h => ?_)
  · obtain ⟨a, g, y, rfl, _⟩ := h
    rfl
  · obtain ⟨a, g, y, rfl, hg, l8, q⟩ := h
    obtain ⟨dx, fs, e⟩ := hg.ins
    refine ⟨_, (pss_one (ps_ret (pe_and (pe_callB call_isi (by rfl) T.m_isinstance (by decide +kernel) (pa_cons (pv 1) (pa_cons (pe_glob (v := .ref FC) (by rfl) FF.mgF rfl) pa_nil))) (pe_one (pe_cmpR (show OpR _ (compareOp .In) (rInOwnT K FC (spFeq K FC)) from op_inOwnT Fe (hr.mono (by omega)) he hef Be) (pv 1) (pe_prop (E := L2.E0) (pv 0) FF.cls PP9 FP9 (hr.mono (by omega)) BP9 .nil (fun _ _ _ _ _ _ _ h => h.elim) (by rfl)) (by rfl)))))), ?_⟩
    rcases q with ⟨c, g2, rfl, hg2, q⟩ | ⟨⟨t, ty, kn⟩, q⟩
    · refine ⟨_, rfl, _, _, _, _, _, rfl, .own FC, hg2.ty FF, FF.self, true, rfl, iteT ?_⟩
      refine ⟨_, rfl, _, rfl, a, dx, fs, rfl, e, a, g, rfl, hg, l8, fun T9 ps H1 s1 eT pp => ?_⟩
      obtain ⟨dc, fc, ec⟩ := (hg2.same s1).ins
      have at_ : ∀ b ∈ ps, ∃ x, x ∈ partsF g ∧ FmAt FC H1 b x := fun b hb => by
        obtain ⟨i, hi⟩ := List.getElem?_of_mem hb
        have li : i < ps.length := (List.getElem?_eq_some_iff.mp hi).1
        have li2 : i < (partsF g).length := by rw [← pp.length]; exact li
        exact ⟨_, List.getElem_mem li2, paired_get2 pp i b _ hi (List.getElem?_eq_getElem li2)⟩
      have hx : ∀ b : Addr, ∃ t : List Nat, ∀ x, FmAt FC H1 b x → x.txt = t := fun b => by
        by_cases c : ∃ x, FmAt FC H1 b x
        · obtain ⟨x, hx⟩ := c
          refine ⟨x.txt, fun y hy => ?_⟩
          obtain ⟨d1, _, _, _, _, _, k1, _⟩ := hx.o.ex
          obtain ⟨d2, _, _, _, _, _, k2, _⟩ := hy.o.ex
          rw [k1] at k2
          injection k2 with k2
          injection k2 with _ _ k2
          simp only [fmF, List.cons.injEq, Prod.mk.injEq, V.str.injEq, true_and, and_true] at k2
          exact (SX.S_inj k2.2.2.2.2.1).symm
        · exact ⟨[], fun x hx => absurd ⟨x, hx⟩ c⟩
      let tx : Addr → List Nat := fun b => (hx b).choose
      have htx : ∀ b x, FmAt FC H1 b x → x.txt = tx b := fun b => (hx b).choose_spec
      refine ⟨T9, c, dc, fc, ps, fun b => decide (tx b = g2.txt), rfl, SqT.of eT, rfl, ec, fun b hb => ?_, fun _ => ?_, fun b hb G sG => ?_, fun H' s' => ?_⟩
      · obtain ⟨x, _, hx⟩ := at_ b hb
        exact hx.ins
      · exact decide_eq_true (htx c g2 (hg2.same s1)).symm
      · obtain ⟨x, _, hx⟩ := at_ b hb
        refine ⟨b, x, .ref c, rfl, hx.same sG, .inl ⟨c, g2, rfl, (hg2.same s1).same sG, ?_, sG⟩⟩
        rw [htx b x hx]
      · have ea : (ps.any fun b => decide (tx b = g2.txt)) = (partsF g).any fun p => decide (p.txt = g2.txt) := by
          have go : ∀ {xs : List Addr} {ys : List Fm}, Paired (FmAt FC H1) xs ys → (xs.any fun b => decide (tx b = g2.txt)) = ys.any fun p => decide (p.txt = g2.txt) := fun {xs ys} p => by
            induction p with
            | nil => rfl
            | cons r _ ih => rw [List.any_cons, List.any_cons, ih, htx _ _ r]
          exact go pp
        rw [ea]
        exact q H' (s1.trans s')
    · exact ⟨_, rfl, _, _, _, _, _, rfl, .own FC, ty, kn, false, rfl, iteF q⟩
end
end L2.K15
set_option Elab.async false
set_option linter.all false
set_option maxRecDepth 100000
set_option maxHeartbeats 4000000
/-! name = {k: v for ..}, the name a local -/
namespace L2.Tb
open PySem PySem.Spec PyProof.Rows
section
variable {X : Cx}
theorem ps_setDc {i : Nat} {y : Str} {py : Pos} {kx vx tg iter : Expr} {ifs : List Expr} {scope : Scope} {own : List (Str × Nat)} {pos spos : Pos} {wi : TI} {g : TG} {tt : TT} {tk tv : TE} (hc : X.calm = true) (hN : X.N.Nodup) (hy : X.N[i]? = some y) (hyl : X.env.scope.names.lookup y = some .local)
    (hsw : swapsWith (.DictComp kx vx [⟨tg, iter, ifs, 0⟩] scope pos) (some (.Name y py)) spos.line X.env = pure true) (hi : PI X tg iter wi) (ok : BlkOk X.N X.env.scope scope own)
    (hg : ∀ (s : Shared) (H : Hp) (C : Addr) (cl : List (Str × Addr)) (fp : List Addr), PG (X.blk s H scope (compEnvC scope cl C X.env) fp) tg g) (ht : ∀ (s : Shared) (H : Hp) (C : Addr) (cl : List (Str × Addr)) (fp : List Addr), PTs (X.blk s H scope (compEnvC scope cl C X.env) fp) ifs tt)
    (hk : ∀ (s : Shared) (H : Hp) (C : Addr) (cl : List (Str × Addr)) (fp : List Addr), PE (X.blk s H scope (compEnvC scope cl C X.env) fp) kx tk)
    (he : ∀ (s : Shared) (H : Hp) (C : Addr) (cl : List (Str × Addr)) (fp : List Addr), PE (X.blk s H scope (compEnvC scope cl C X.env) fp) vx tv) (hs : ∀ x, foldedSetIterable iter X.env x = pure x := by intro _; rfl) :
    PS X (.Assign [.Name y py] (.DictComp kx vx [⟨tg, iter, ifs, 0⟩] scope pos) spos) (tAsg (tDc wi g tt tk tv (own.map (·.2))) (gName i)) := by
  refine ⟨fun pins s σ H D I h => ?_⟩
  rw [exec_Assign_Name_used _ _ _ _ hsw]
  refine wpAny_bind (wpAny_standAt (wpAny_bind ?_))
  show wpAny _ X.A (do let _ ← comprehension (.DictComp kx vx [⟨tg, iter, ifs, 0⟩] scope pos) scope X.env (firstIterPos [⟨tg, iter, ifs, 0⟩] pos) newDict false (eval iter X.env) (some (assign (.Name y py) X.env))) _ _ s
  have h : tDc wi g tt tk tv (own.map (·.2)) σ H (fun x H1 => gName i x σ H1 D.nx) := h
  refine wpAny_bind (thn (dc_core (Qf := fun _ s' => SP X pins D .next s') hc hN I hi ok hg ht hk he hs h fun L C s' m H' I' q hn f => ?_) fun _ s' hq => wpAny_pure (wpAny_pure hq))
  show wpAny _ _ (assign (.Name y py) X.env (.ref L)) _ _ _
  refine wpAny_assign_Name (store_ok2 (v := V.ref L) I' hN hy (.inl hyl) rfl (fun s2 I2 ⟨a, sb, ha⟩ => ?_) (.inr hyl))
  obtain ⟨f0, f1, f2, f3, f4, f5⟩ := f
  have haC : C ≠ a := by
    rcases ha with z | z
    · rw [z]; exact f1
    · exact fun e => f4 y a z e.symm
  refine ⟨m, hn.sameBut sb haC, fun h3 sb3 => ?_⟩
  exact ⟨_, H', I2.turned (t' := s2.toks) (fun b o hb e => (sb3.2 b hb).trans e) f0 f1 f3 f4 f5, q⟩
theorem sw_trueD {kx vx : Expr} {gs : List Comprehension} {scope : Scope} {pos py : Pos} {y : Str} {l : Nat} {env : Env} (hk : env.scope.kind = .function) (hy : env.scope.names.lookup y = some .local) (hl : (py.line == pos.line) = true)
    (ha : (scope.names.any fun (n, k) => n == y && (k == .local || k == .cell)) = false) : swapsWith (.DictComp kx vx gs scope pos) (some (.Name y py)) l env = pure true := by
  have ky : env.kindOf y = some .local := hy
  have hb : env.blockKind = .function := by unfold Env.blockKind; rw [hk]; rfl
  unfold swapsWith
  simp only [hb, ky, ha, Expr.pos, hl]
  rfl
end
end L2.Tb
set_option Elab.async false
set_option linter.all false
set_option maxRecDepth 100000
set_option maxHeartbeats 4000000
/-! == of two tuples of three dicts each; sorted of a dict with int keys, any number of them -/
namespace L2.Tb
open PySem PySem.Spec PyProof.Rows
open PySem.SeqAt PySem.AutoSeq1
section
variable {prog : Program} {w : World}
/-- two tuples, item by item -/
theorem tupEq_in (l b : Addr) (xs ys : Array Value) (n n2 : Nat) (dd dd2 : Option Addr) (sl sl2 : Array (Option Value)) (e : Nat → Bool) :
    MeetsIn prog w (Builtin.«tuple.__eq__» ⟨[.ref l, .ref b], []⟩)
      (fun A R s => (s.heap.get? l = some { cls := .type "tuple", dict := dd, data := .seq xs n, slots := sl } ∧ s.heap.get? b = some { cls := .type "tuple", dict := dd2, data := .seq ys n2, slots := sl2 }) ∧
        (∀ j (h1 : j < xs.size) (h2 : j < ys.size), EqP prog w A.in1 s xs[j] ys[j] (e j)) ∧ R (.ok (.ret (.bool ((List.range (min xs.size ys.size)).all e && xs.size == ys.size)))) s) := by
  rintro A R ⟨hp, g, d, tk, os⟩ ⟨⟨ha, hb⟩, he, fin⟩
  have sub := AutoSeq1.sub_tuple_tuple
  have len : (xs.toList.zip ys.toList).length = min xs.size ys.size := by simp
  wp_walk using wpAny_loadPart' ha, wpAny_loadPart' hb,
    wpAny_forIn_list _ (fun left got s' => (got.1 = none ∧ s' = ⟨hp, g, d, tk, os⟩) ∧ ∃ at_, left = (xs.toList.zip ys.toList).drop at_ ∧ R (.ok (.ret (.bool (((List.range (min xs.size ys.size)).drop at_).all e && xs.size == ys.size)))) ⟨hp, g, d, tk, os⟩) _
  case h => exact ⟨⟨rfl, rfl⟩, 0, rfl, by simpa using fin⟩
  case turn =>
    rintro ⟨u, v⟩ left got s' ⟨⟨g1, rfl⟩, at_, hleft, q⟩
    have lt : at_ < min xs.size ys.size := by
      rw [← len]
      refine Nat.lt_of_not_le fun ge => ?_
      rw [List.drop_of_length_le ge] at hleft
      cases hleft
    have ltz : at_ < (xs.toList.zip ys.toList).length := by rw [len]; exact lt
    have lx : at_ < xs.size := by omega
    have ly : at_ < ys.size := by omega
    rw [List.drop_eq_getElem_cons ltz] at hleft
    obtain ⟨huv, hrest⟩ := List.cons.inj hleft
    obtain rfl : u = xs[at_] := by simpa using congrArg Prod.fst huv
    obtain rfl : v = ys[at_] := by simpa using congrArg Prod.snd huv
    have cut : (List.range (min xs.size ys.size)).drop at_ = at_ :: (List.range (min xs.size ys.size)).drop (at_ + 1) := by
      simp [List.drop_eq_getElem_cons, lt]
    rw [cut, List.all_cons] at q
    refine wpAny_bind (he at_ lx ly _ _ ?_)
    cases c : e at_ with
    | false =>
      rw [c] at q
      wp_walk
      simpa using q
    | true =>
      rw [c] at q
      wp_walk
      exact ⟨⟨rfl, rfl⟩, at_ + 1, hrest, by simpa using q⟩
  case fin =>
    rintro ⟨g1, g2⟩ s' ⟨⟨hg, rfl⟩, at_, hleft, q⟩
    obtain rfl : g1 = none := hg
    have ge : min xs.size ys.size ≤ at_ := by
      rw [← len]
      refine Nat.le_of_not_lt fun lt => ?_
      rw [List.drop_eq_getElem_cons lt] at hleft
      cases hleft
    rw [List.drop_of_length_le (by simpa using ge)] at q
    wp_walk
    simpa [Builtin.Tuple.tupleCompareSizes] using q
/-- two tuples, whatever their items say here -/
theorem tupEq_run {A : Around} {s : Shared} {l b : Addr} {xs ys : Array Value} {e : Nat → Bool} (hl : s.heap.IsTuple l xs) (hb : s.heap.IsTuple b ys) (hu : A.units < cLine)
    (he : ∀ j (h1 : j < xs.size) (h2 : j < ys.size), EqP prog w A.in1 s xs[j] ys[j] (e j)) (E Q : Value → Shared → Prop) (h : Q (.bool ((List.range (min xs.size ys.size)).all e && xs.size == ys.size)) s) : wpAny (model prog w) A (richCompare .Eq (.ref l) (.ref b)) Q E s := by
  obtain ⟨⟨_, dd, _, sl⟩, ho, hc, n, hd⟩ := hl
  obtain ⟨⟨_, dd2, _, sl2⟩, ho2, hc2, n2, hd2⟩ := hb
  simp only at hc hd hc2 hd2
  subst hc hd hc2 hd2
  refine wpAny_richCompare_same_room (op := .Eq) ⟨_, ho, rfl⟩ ⟨_, ho2, rfl⟩ F.slot_tuple_eq ?_ hu
  exact call_meetsIn F.slot_tuple_eq ⟨_, ho, rfl⟩ F.entry_tuple_eq (F.args_tuple_eq_2 _ _) (tupEq_in l b xs ys n n2 dd dd2 sl sl2 e) ⟨⟨ho, ho2⟩, he, (fun x => nomatch x), h⟩
end
/-- equal dicts: as many keys, and each key of the one is there with the same value -/
def dEq (ks ls : List (Key × V)) : Bool := ks.length == ls.length && ks.all fun p => decide (valV ls p.1 = some p.2)
/-- all values ints -/
def IntVals (ks : List (Key × V)) : Prop := ∀ p ∈ ks, ∃ i : Int, p.2 = .int i
section
variable {X : Cx} {pins : List (Addr × Obj)} {σ : L2.St} {H : Hp} {s : Shared}
theorem dHits {P : Program} {A : Around} {w : World} {ls : List (Key × V)} {vb : List (Key × Value)} (rb : KV ls vb) (il : IntVals ls) : ∀ {ks : List (Key × V)} {va : List (Key × Value)}, KV ks va → IntVals ks → PySem.W.KeqHitsP P w A s vb va (ks.all fun p => decide (valV ls p.1 = some p.2)) := by
  intro ks va ra
  unfold KV at ra
  induction ra with
  | nil => exact fun _ => .nil
  | @cons p q ps qs h t ih =>
    intro ik
    obtain ⟨h1, h2⟩ := h
    obtain ⟨key, v⟩ := q
    obtain rfl : p.1 = key := h1
    obtain ⟨i, hi⟩ := ik p List.mem_cons_self
    have rest := ih fun p' hm => ik p' (List.mem_cons_of_mem _ hm)
    rw [List.all_cons]
    have ro := rb.val p.1
    cases e : valV ls p.1 with
    | none =>
      rw [e] at ro
      have hn : valueAt vb p.1 = none := by
        cases c : valueAt vb p.1 with
        | none => rfl
        | some y => rw [c] at ro; exact ro.elim
      rw [decide_eq_false (by simp), Bool.false_and]
      exact .miss hn
    | some u =>
      rw [e] at ro
      obtain ⟨y, hy, ry⟩ := RelO.some_of ro
      have hu : ∃ j : Int, u = .int j := by
        have : ∀ {ls : List (Key × V)}, IntVals ls → valV ls p.1 = some u → ∃ j : Int, u = .int j := by
          intro ls
          induction ls with
          | nil => intro _ e; cases e
          | cons x r ih =>
            intro hl e
            by_cases c : x.1 = p.1
            · obtain ⟨k, v⟩ := x
              obtain rfl : k = p.1 := c
              rw [valV_pos rfl] at e
              cases e
              exact hl _ List.mem_cons_self
            · obtain ⟨k, v⟩ := x
              rw [valV_neg c] at e
              exact ih (fun p' hm => hl p' (List.mem_cons_of_mem _ hm)) e
        exact this il e
      obtain ⟨j, rfl⟩ := hu
      rw [hi] at h2 ⊢
      obtain ⟨t1, rfl⟩ := h2
      obtain ⟨t2, rfl⟩ := ry
      have hd : decide ((some (V.int j)) = some (V.int i)) = (i == j) := by
        by_cases c : i = j
        · subst c; simp
        · simp [c, Ne.symm c]
      rw [hd]
      exact .hit hy (EqAt.int_int i t1 j t2).eqP rest
/-- two tuples of three dicts, keys of one model, values ints -/
def rEqT3 : R2 := fun x y H Q => ∃ (a b a0 a1 a2 b0 b1 b2 : Addr) (k0 k1 k2 l0 l1 l2 : List (Key × V)), x = .ref a ∧ y = .ref b ∧ H a = some (.tup [.ref a0, .ref a1, .ref a2]) ∧ H b = some (.tup [.ref b0, .ref b1, .ref b2]) ∧
  (H a0 = some (.dK k0) ∧ H a1 = some (.dK k1) ∧ H a2 = some (.dK k2)) ∧ (H b0 = some (.dK l0) ∧ H b1 = some (.dK l1) ∧ H b2 = some (.dK l2)) ∧ (IntVals k0 ∧ IntVals k1 ∧ IntVals k2) ∧ (IntVals l0 ∧ IntVals l1 ∧ IntVals l2) ∧
  (dEq k0 k0 = true ∧ dEq k1 k1 = true ∧ dEq k2 k2 = true) ∧ Q (.bl (dEq k0 l0 && (dEq k1 l1 && dEq k2 l2))) H
theorem dict_eqP (I : Inv X pins σ H s) {A : Around} (hu : A.units < cLine) {a b : Addr} {ks ls : List (Key × V)} (ha : H a = some (.dK ks)) (hb : H b = some (.dK ls)) (ik : IntVals ks) (il : IntVals ls) (self : dEq ks ks = true) : EqP X.prog X.w A s (.ref a) (.ref b) (dEq ks ls) := by
  by_cases hab : a = b
  · subst hab
    rw [ha] at hb
    cases hb
    rw [self]
    exact (EqAt.same _).eqP
  · refine eqP_refs hab fun E Q q => ?_
    obtain ⟨_, ya, va, ra, da⟩ := (show ObjOk X.prog X.w H s.heap a (.dK ks) from I.hok a _ ha)
    obtain ⟨_, yb, vb, rb, db⟩ := (show ObjOk X.prog X.w H s.heap b (.dK ls) from I.hok b _ hb)
    refine PySem.W.rcP_dicts (knd := mixKind X.prog X.w) ya yb da db hu (fun _ => dHits rb il ra ik) E Q ?_
    rw [← ra.length, ← rb.length]
    exact q
theorem refs3 {a b c : Addr} : ∀ {us : List Value}, Vals [V.ref a, .ref b, .ref c] us → us = [.ref a, .ref b, .ref c]
  | _, .cons h0 (.cons h1 (.cons h2 .nil)) => by
    cases (show _ = Value.ref a from h0)
    cases (show _ = Value.ref b from h1)
    cases (show _ = Value.ref c from h2)
    rfl
theorem op_eqT3 (hu : X.A.units + 64 < cLine) : OpR X (compareOp .Eq) rEqT3 := by
  intro pins s σ H x y v u Q I rx ry h
  obtain ⟨a, b, a0, a1, a2, b0, b1, b2, k0, k1, k2, l0, l1, l2, rfl, rfl, ea, eb, ⟨d0, d1, d2⟩, ⟨e0, e1, e2⟩, ⟨i0, i1, i2⟩, ⟨j0, j1, j2⟩, ⟨s0, s1, s2⟩, q⟩ := h
  cases (show v = Value.ref a from rx)
  cases (show u = Value.ref b from ry)
  obtain ⟨us, r1, p1, _⟩ := I.tuple (SqT.of ea)
  obtain ⟨ws, r2, p2, _⟩ := I.tuple (SqT.of eb)
  have eu : us = [.ref a0, .ref a1, .ref a2] := refs3 r1
  have ew : ws = [.ref b0, .ref b1, .ref b2] := refs3 r2
  subst eu
  subst ew
  have hin : X.A.in1.units < cLine := by
    show X.A.units + 1 < cLine
    omega
  refine tupEq_run (e := fun j => match j with | 0 => dEq k0 l0 | 1 => dEq k1 l1 | _ => dEq k2 l2) p1 p2 (by omega) (fun j h1 h2 => ?_) _ _ ⟨.bl (dEq k0 l0 && (dEq k1 l1 && dEq k2 l2)), H, I, ?_, q⟩
  · match j, h1 with
    | 0, _ => exact dict_eqP I hin d0 e0 i0 j0 s0
    | 1, _ => exact dict_eqP I hin d1 e1 i1 j1 s1
    | 2, _ => exact dict_eqP I hin d2 e2 i2 j2 s2
    | j + 3, h => exact absurd h (by show ¬ (j + 3 < 3); omega)
  · show Value.bool _ = Value.bool _
    congr 1
    show ((List.range 3).all _ && true) = _
    rw [Bool.and_true]
    show (dEq k0 l0 && (dEq k1 l1 && (dEq k2 l2 && true))) = _
    rw [Bool.and_true]
/-- sorted(d), d a dict with int keys, any number of them -/
def rSortDI : List V → Hp → VK → Prop := fun xs H Q => ∃ (a : Addr) (kvs : List (Key × V)) (ks : List Int), xs = [.ref a] ∧ Rd H a (.dK kvs) ∧ kvs.map (·.1) = ks.map Sum.inl ∧ ks.length ≤ 100000 ∧
  ∀ (ys : List Int) (p : Addr), ys.Perm ks → ys.Pairwise (· ≤ ·) → H p = none → Q (.ref p) (upd H p (.lst (ys.map V.int)))
theorem intsEach : ∀ {vs : List Value} {ns : List Int}, vs.length = ns.length → (∀ (j : Nat) (v : Value), vs[j]? = some v → ∃ (x : Int) (t : Tok), ns[j]? = some x ∧ v = .int x t) → IntsAre vs ns
  | [], [], _, _ => .nil
  | v :: vs, n :: ns, hl, h => by
    obtain ⟨x, t, e1, e2⟩ := h 0 v rfl
    obtain rfl : n = x := Option.some.inj e1
    subst e2
    refine .cons _ _ (intsEach (by simpa using hl) fun j u e => ?_)
    obtain ⟨x, t, a, b⟩ := h (j + 1) u (by simpa using e)
    exact ⟨x, t, by simpa using a, b⟩
  | [], _ :: _, hl, _ => by simp at hl
  | _ :: _, [], hl, _ => by simp at hl
theorem call_sortDI (hcalm : X.calm = true) : CallR X (.builtin "sorted") rSortDI := by
  intro pins s σ H xs us Q I r q
  obtain ⟨a, kvs, ks, rfl, hd, hks, few, q⟩ := q
  rw [Vals.ref1 r]
  obtain ⟨z, lo, vs, rel, dd⟩ := dk_rd I.hok hd
  obtain ⟨ep, hat⟩ := dd.dictAt
  have keys : vs.map (·.1) = ks.map Sum.inl := rel.keys.symm.trans hks
  have hl : vs.length = ks.length := by simpa using congrArg List.length keys
  have fit : vs.length ≤ sizeLine := by rw [hl, sizeLine_eq]; omega
  refine Calls.call_function_entry PyProof.Rows.kind_sorted PyProof.Rows.plain_sorted PyProof.Rows.entry_sorted (PyProof.Rows.args_sorted1 _) (show wpAny _ _ (Builtin.«sorted» _) _ _ _ from ?_)
  unfold Builtin.«sorted»
  refine wpAny_bind (m := checkCount "sorted" 1 1 _) (wpAny_pure (wpAny_bind ?_))
  refine (PySem.W.kdu_collect (A := X.A.in1) (PySem.W.kdl_dict (knd := mixKind X.prog X.w) (kvs := vs) (ep := ep) lo) (I.ok.hd hcalm) hat fit fun h1 tk acc keep got => ?_)
  have hal : acc.toList.length = ks.length := by rw [Array.length_toList, got.1, hl]
  have ia9 : IntsAre acc.toList ks := intsEach hal fun j v e => by
    obtain ⟨k, x, e1, e2⟩ := got.2 j v (by rw [← Array.getElem?_toList]; exact e)
    have e3 : (ks.map Sum.inl)[j]? = some k := by
      rw [← keys, List.getElem?_map, e1]
      rfl
    rw [List.getElem?_map] at e3
    obtain ⟨y, e4, rfl⟩ := Option.map_eq_some_iff.mp e3
    rcases keyIs_shape (show keyIs (Sum.inl y) v = true from e2) with ⟨i, t, ek, ev⟩ | ⟨z, t, ek, ev⟩
    · cases ek
      exact ⟨y, t, e4, ev⟩
    · cases ek
  have I1 : Inv X pins σ H { s with heap := h1, toks := tk } := I.kept keep
  refine wpAny_bind (wpAny_newList ?_ (by rw [hal, sizeLine_eq]; omega))
  have hoL : (h1.push (seqObj "list" acc.toList.toArray 0)).get? h1.objs.size = some (seqObj "list" acc.toList.toArray 0) := Heap.get?_push_size _ rfl
  show wpAny _ _ _ _ _ { s with heap := h1.push (seqObj "list" acc.toList.toArray 0), toks := tk }
  refine wpAny_bind (wpAny_holding (wpAny_call_entry PyProof.Rows.slot_list_sort ⟨_, hoL, rfl⟩ PyProof.Rows.entry_list_sort
    (SrtO.list_sort_ord (s := { s with heap := h1.push (seqObj "list" acc.toList.toArray 0), toks := tk }) SrtO.swo_int hoL (by rw [hal, sizeLine_eq]; omega) (fun h2 => SrtO.ints_sortable ia9 h2) fun out g1 g2 => ⟨_, rfl, ?_⟩) (PyProof.Rows.args_list_sort _)))
  obtain ⟨k1, k2, k3⟩ := SrtO.ints_out ia9 g1 g2
  obtain ⟨e', he'⟩ := PyProof.Rows.sortedHeap_at (vs := acc.toList) (out := out.toArray) hoL
  have hlen : ((out.map SrtO.iv).map V.int).length ≤ sizeLine := by
    rw [List.length_map, k2.length_eq, sizeLine_eq]
    omega
  refine wpAny_pure ⟨_, rfl, .ref h1.objs.size, upd H h1.objs.size (.lst ((out.map SrtO.iv).map V.int)), I1.laid (t' := tk) (fun b u e => ?_) (Nat.le_refl _) ⟨hlen, out, e', vals_of_ints k1, he'⟩, rfl, q _ _ k2 k3 (I1.hok.fresh (Nat.le_refl _))⟩
  have hb : b < h1.objs.size := Heap.lt_size e
  have old := PyProof.Rows.sortedHeap_old (a := h1.objs.size) (vs := acc.toList) (out := out.toArray) (Nat.ne_of_lt hb) (show b < (h1.push (seqObj "list" acc.toList.toArray 0)).objs.size by rw [size_push']; exact Nat.lt_succ_of_lt hb)
  exact old.trans (Heap.get?_push_of_some _ e)
end
end L2.Tb
set_option Elab.async false
set_option linter.all false
set_option maxRecDepth 100000
set_option maxHeartbeats 8000000
namespace L2.K15
open PySem PySem.Spec PyProof.Rows L2.Tb
open SX (S)
abbrev s_in_order : Stmt := top 33
abbrev N_in_order : List Str := ["parts", "part", "by_text", "text", "order", "_"]
theorem sc_in_order : FnScope N_in_order ["parts"] (defScope s_in_order) := ⟨rfl, rfl, rfl, by decide +kernel, rfl, by decide +kernel, by decide +kernel⟩
/-! ### each once, in order -/
def qtx (q : Addr × Fm) : List Nat := q.2.txt
def entK (q : Addr × Fm) : Key × V := (Sum.inr (S q.2.txt), V.ref q.1)
theorem key_dec {a b : List Nat} : decide ((Sum.inr (S a) : Key) = Sum.inr (S b)) = decide (a = b) := decide_eq_decide.mpr ⟨fun h => SX.S_inj (by injection h), fun h => by rw [h]⟩
theorem putK_ent (l : List (Addr × Fm)) (q : Addr × Fm) : putK (l.map entK) (Sum.inr (S q.2.txt)) (.ref q.1) = (insK qtx l q).map entK := by
  unfold putK insK
  have e : ((l.map entK).any fun kv => decide (kv.1 = (Sum.inr (S q.2.txt) : Key))) = l.any fun x => decide (qtx x = qtx q) := by
    rw [List.any_map]
    exact congrArg (fun f => l.any f) (funext fun x => key_dec)
  rw [e]
  by_cases c : (l.any fun x => decide (qtx x = qtx q)) = true
  · rw [if_pos c, if_pos c, List.map_map, List.map_map]
    refine List.map_congr_left fun x _ => ?_
    simp only [Function.comp]
    by_cases e : qtx x = qtx q
    · rw [if_pos e, if_pos (show (entK x).1 = (Sum.inr (S q.2.txt) : Key) from by unfold entK; rw [show x.2.txt = q.2.txt from e])]
      unfold entK
      rw [show x.2.txt = q.2.txt from e]
    · rw [if_neg e, if_neg (show ¬ ((entK x).1 = (Sum.inr (S q.2.txt) : Key)) from fun z => e (of_decide_eq_true ((key_dec (a := x.2.txt) (b := q.2.txt)).symm.trans (decide_eq_true z))))]
  · rw [if_neg c, if_neg c, List.map_append]
    rfl
theorem val_ent : ∀ {l : List (Addr × Fm)}, (l.map qtx).Nodup → ∀ q ∈ l, valV (l.map entK) (Sum.inr (S q.2.txt)) = some (.ref q.1)
  | [], _, q, h => by cases h
  | x :: l, nd, q, h => by
    obtain ⟨n1, n2⟩ := List.nodup_cons.mp nd
    have ih := fun hq => val_ent n2 q hq
    unfold valV at ih ⊢
    rw [List.map_cons, List.find?_cons]
    by_cases e : x.2.txt = q.2.txt
    · rw [show decide ((entK x).1 = (Sum.inr (S q.2.txt) : Key)) = true from decide_eq_true (by unfold entK; rw [e])]
      rcases List.mem_cons.mp h with rfl | h
      · rfl
      · exact absurd (List.mem_map.mpr ⟨q, h, e.symm⟩) n1
    · rw [show decide ((entK x).1 = (Sum.inr (S q.2.txt) : Key)) = false from (key_dec (a := x.2.txt) (b := q.2.txt)).trans (decide_eq_false e)]
      rcases List.mem_cons.mp h with rfl | h
      · exact absurd rfl e
      · exact ih h
def spOrder (FC : Addr) : Sp := fun vs H Q _ => ∃ (T : Addr) (ps : List Addr) (fs : List Fm), vs = [.ref T] ∧ H T = some (.tup (ps.map V.ref)) ∧ Paired (FmAt FC H) ps fs ∧ fs.length ≤ 1000 ∧ (∀ g ∈ fs, g.ops ≤ 1000) ∧
  ∀ (R : Addr) (qs : List Addr) (H' : Hp), Same H H' → H' R = some (.tup (qs.map V.ref)) → Paired (FmAt FC H') qs (ordF fs) → Q (.ref R) H'
theorem get_take {α : Type} {l : List α} {i : Nat} {x : α} (h : l[i]? = some x) : l.take (i + 1) = l.take i ++ [x] := by rw [List.take_add_one, h]; rfl
theorem paired_zipQ {α β : Type} {R : α → β → Prop} : ∀ {xs : List α} {ys : List β}, Paired R xs ys → (∀ q ∈ xs.zip ys, R q.1 q.2) ∧ (xs.zip ys).map (·.1) = xs ∧ (xs.zip ys).map (·.2) = ys ∧ (xs.zip ys).length = xs.length
  | _, _, .nil => ⟨fun q h => (by cases h), rfl, rfl, rfl⟩
  | _, _, .cons a t => by
    obtain ⟨h1, h2, h3, h4⟩ := paired_zipQ t
    refine ⟨fun q hq => ?_, by simp [h2], by simp [h3], by simp [h4]⟩
    rcases List.mem_cons.mp hq with rfl | hq
    · exact a
    · exact h1 q hq
section
variable {P : Program} {w : World} {K : PySem.W.Frag} {mg : Str → Option Value} {base : Heap} {f : Addr} {fd : FuncData} {FC : Addr}
theorem c_in_order (T : Bt mg) (mstr : mg "str" = none) (FF : FoF K mg FC) (SS : SpcM P w K mg base L2.CX0 FC "__str__" ["self"] 1 (spFstr FC)) (LL : SpcM P w K mg base L2.CX0 FC "__len__" ["self"] 1 (spFlen FC)) (F : FnP K "_in_order" s_in_order f fd) (hm : mg "_in_order" = some (.ref f)) : Cal P w K mg base 4 "_in_order" (spOrder FC) := by
  have hnd := sc_in_order.nd
  obtain ⟨fs_, fds, hs, hsf, Fs, Bs⟩ := SS
  obtain ⟨fl_, fdl, hl, hlf, Fl, Bl⟩ := LL
  refine cal_mk F hm sc_in_order (fun _ _ _ _ _ _ us hl => match us, hl with | [_], _ => rfl) (fun vs H Q E h => ?_) (fun cdv A outer s H vs Q E hr h => ?_)
  · obtain ⟨T0, ps, fs, rfl, _⟩ := h
    rfl
  · obtain ⟨T0, ps, fs, rfl, eT, pp, few, ops9, q⟩ := h
    obtain ⟨zR, z1, z2, zl⟩ := paired_zipQ pp
    have lps : ps.length = fs.length := pp.length
    generalize hz : ps.zip fs = z at zR z1 z2 zl
    refine ⟨_, (pss_cons (ps_set (i := 2) hnd rfl (by first | exact Or.inl rfl | exact Or.inr rfl) (pe_dc (own := [("part", 1)]) (g := gName 1) (tt := tYes) (by rfl) hnd (pi_tup (pv 0)) (blkOk_by (own := [("part", 1)]) (N := N_in_order) (sc := defScope s_in_order) (by decide +kernel)) (fun _ _ _ _ _ => (pg_name (i := 1) hnd rfl (by first | exact Or.inl rfl | exact Or.inr rfl))) (fun _ _ _ _ _ => pts_nil) (fun _ _ _ _ _ => (pe_callTy (show CallR _ (.type "str") (rStrOwn FC (spFstr FC)) from call_strOwn Fs (hr.mono (by omega)) hs hsf Bs) (by rfl) mstr (by decide +kernel) (pa_cons (pv 1) pa_nil))) (fun _ _ _ _ _ => pv 1)))
      (pss_cons (ps_set (i := 4) hnd rfl (by first | exact Or.inl rfl | exact Or.inr rfl) (pe_callB (show CallR _ (.builtin "sorted") (rSortIS K) from call_sortIS (Nat.lt_of_le_of_lt (Nat.add_le_add_left (by decide) _) hr.units)) (by rfl) T.m_sorted (by decide +kernel) (pa_cons (pe_lock (pe_lc (own := [("text", 3), ("part", 1)]) (tt := tYes) (g := (gTup K 2 (gCons (gName 3) (gCons (gName 1) gNil)))) (by rfl) hnd (pi_items (pv 2)) (blkOk_by (own := [("text", 3), ("part", 1)]) (N := N_in_order) (sc := defScope s_in_order) (by decide +kernel)) (fun _ _ _ _ _ => (pg_tup (by rfl) (pgs_cons (pg_name (i := 3) hnd rfl (by first | exact Or.inl rfl | exact Or.inr rfl)) (pgs_cons (pg_name (i := 1) hnd rfl (by first | exact Or.inl rfl | exact Or.inr rfl)) pgs_nil)))) (fun _ _ _ _ _ => pts_nil) (fun _ _ _ _ _ => (pe_tup (pa_cons (pe_callB (show CallR _ (.builtin "len") (rLenOwn FC (spFlen FC)) from call_lenOwn Fl (hr.mono (by omega)) hl hlf Bl) (by rfl) T.m_len (by decide +kernel) (pa_cons (pv 1) pa_nil)) (pa_cons (pv 3) pa_nil)))))) pa_nil)))
      (pss_one (ps_ret (pe_callTy call_tuple_of (by rfl) T.m_tuple (by decide +kernel) (pa_cons (pe_lc (own := [("_", 5), ("text", 3)]) (tt := tYes) (g := (gTup K 2 (gCons (gName 5) (gCons (gName 3) gNil)))) (by rfl) hnd (pi_list (pv 4)) (blkOk_by (own := [("_", 5), ("text", 3)]) (N := N_in_order) (sc := defScope s_in_order) (by decide +kernel)) (fun _ _ _ _ _ => (pg_tup (by rfl) (pgs_cons (pg_name (i := 5) hnd rfl (by first | exact Or.inl rfl | exact Or.inr rfl)) (pgs_cons (pg_name (i := 3) hnd rfl (by first | exact Or.inl rfl | exact Or.inr rfl)) pgs_nil)))) (fun _ _ _ _ _ => pts_nil) (fun _ _ _ _ _ => (pe_dget (Nat.lt_of_le_of_lt (Nat.add_le_add_left (by decide) _) hr.units) (pv 2) (pv 3) (fun _ _ => rfl)))) pa_nil)))))), ?_⟩
    refine ⟨_, rfl, T0, rfl, ⟨_, SqT.of eT⟩, fun D nD => dc_tup (xs := ps.map V.ref) (fun i G => Same H G ∧ G D = some (.dK ((ddK qtx (z.take i)).map entK))) ⟨same_new nD, upd_same⟩ (fun i G _ h => SqT.of (h.1 _ _ eT)) ?_ ?_⟩
    · rintro i x G hi ⟨sG, eG⟩
      rw [← z1, List.map_map, List.getElem?_map] at hi
      obtain ⟨qq, hq, rfl⟩ : ∃ qq, z[i]? = some qq ∧ x = V.ref qq.1 := by
        cases e : z[i]? with
        | none => rw [e] at hi; cases hi
        | some qq => rw [e] at hi; exact ⟨qq, rfl, (Option.some.inj hi).symm⟩
      have hf := (zR qq (List.mem_of_getElem? hq)).same sG
      obtain ⟨dx, fs2, e2⟩ := hf.ins
      refine ⟨rfl, ?_⟩
      unfold tYes
      dsimp only
      rw [if_pos rfl]
      refine ⟨_, rfl, qq.1, dx, fs2, rfl, e2, qq.1, qq.2, rfl, hf, _, rfl, ?_⟩
      refine ⟨_, rfl, _, Sum.inr (S qq.2.txt), rfl, eG, ?_, same_pt nD sG, ?_⟩
      · rw [List.length_map, sizeLine_eq]
        have h1 := ddK_len qtx (z.take i)
        have h2 : (z.take i).length ≤ z.length := by rw [List.length_take]; omega
        omega
      · rw [upd_same, putK_ent, get_take hq, ddK_snoc]
    · rintro H1 ⟨s1, e1⟩
      have lz : z.length ≤ 1000 := by omega
      rw [List.length_map, lps, show fs.length = z.length by omega, List.take_length] at e1
      have ndd := ddK_nd qtx z
      have memd : ∀ q' ∈ ddK qtx z, q' ∈ z := fun q' h => ddK_mem h
      have ldd : (ddK qtx z).length ≤ 1000 := Nat.le_trans (ddK_len _ _) lz
      have hmap : (ddK qtx z).map (·.2) = ddK Fm.txt fs := by
        rw [← z2]
        exact ddK_map (t := Fm.txt) (g := fun q : Addr × Fm => q.2) z
      generalize hd : ddK qtx z = dd at e1 ndd memd ldd hmap
      -- the pairs of lengths and texts
      refine gname_go ?_
      try dsimp only
      refine ⟨D, _, e1, trivial, fun od => ?_⟩
      have eF : (upd H1 D (.frz od (.dK (dd.map entK)))) D = some (.frz od (.dK (dd.map entK))) := upd_same
      have sF : ∀ b o, b ≠ D → H1 b = some o → (upd H1 D (.frz od (.dK (dd.map entK)))) b = some o := fun b o n e => by rw [upd_ne n]; exact e
      have nHD : ∀ b o, H b = some o → b ≠ D := fun b o e => ne_of_none e nD
      generalize upd H1 D (.frz od (.dK (dd.map entK))) = H2 at eF sF
      refine ⟨_, rfl, D, od, _, rfl, eF, fun L nL => ?_⟩
      have nLD : D ≠ L := ne_of_none eF nL
      refine lc_it (walk_items (d := D) (o := od) (kvs := dd.map entK)) (fun i G => ∃ ts : List Addr, Same H2 G ∧ G L = some (.lst (ts.map V.ref)) ∧ Paired (fun t (q' : Addr × Fm) => G t = some (.tup [.int (q'.2.ops : Nat), .str (S q'.2.txt)])) ts (dd.take i))
        ⟨[], same_new nL, upd_same, .nil⟩ (fun i G _ ⟨ts, sG, _, _⟩ => sG _ _ eF) ?_ ?_
      · rintro i x G1 G2 hi ⟨ts, sG, eL, pt⟩ ⟨T', u, v, rfl, nT, rfl, hu, hv⟩
        rw [List.length_map] at hi
        have hq : dd[i]? = some dd[i] := List.getElem?_eq_getElem hi
        generalize dd[i] = q' at hq
        dsimp only at hu hv
        rw [List.getElem?_map, hq] at hu hv
        obtain rfl : V.str (S q'.2.txt) = u := Option.some.inj hu
        obtain rfl : V.ref q'.1 = v := Option.some.inj hv
        have sT := same_new (o := .tup [V.str (S q'.2.txt), V.ref q'.1]) nT
        have hf : FmAt FC (upd G1 T' (.tup [V.str (S q'.2.txt), V.ref q'.1])) q'.1 q'.2 := (zR q' (memd q' (List.mem_of_getElem? hq))).mono fun b o _ e => sT _ _ (sG _ _ (sF _ _ (nHD _ _ e) (s1 _ _ e)))
        obtain ⟨dx, fs2, e2⟩ := hf.ins
        refine ⟨T', _, rfl, SqT.of upd_same, rfl, _, _, rfl, _, _, rfl, rfl, rfl, ?_⟩
        unfold tYes
        dsimp only
        rw [if_pos rfl]
        refine ⟨_, rfl, q'.1, dx, fs2, rfl, e2, q'.1, q'.2, rfl, hf, (q'.2.ops : Nat), rfl, Int.natCast_nonneg _, ?_, _, rfl, by show 2 ≤ sizeLine; decide, fun T2 nT2 => ?_⟩
        · have := ops9 q'.2 (by rw [← z2]; exact List.mem_map.mpr ⟨q', memd q' (List.mem_of_getElem? hq), rfl⟩)
          omega
        · have sT2 := sT.trans (same_new (o := .tup [.int (q'.2.ops : Nat), .str (S q'.2.txt)]) nT2)
          have nTL : T2 ≠ L := fun z => by
            rw [z, sT _ _ eL] at nT2
            cases nT2
          refine ⟨_, sT2 _ _ eL, by rw [List.length_map, pt.length, List.length_take, sizeLine_eq]; omega, ts ++ [T2], same_pt nL (sG.trans sT2), by rw [upd_same, List.map_append]; rfl, ?_⟩
          rw [get_take hq]
          refine paired_app (paired_imp (fun t q2 e => ?_) pt) (.cons (by rw [upd_ne nTL]; exact upd_same) .nil)
          rw [upd_ne (ne_of e eL (by intro z; cases z))]
          exact sT2 _ _ e
      · rintro G ⟨ts, sG, eL, pt⟩
        rw [List.length_map, List.take_length] at pt
        refine ⟨sG _ _ eF, ?_⟩
        have lts : ts.length = dd.length := pt.length
        obtain ⟨yR, y1, y2, yl⟩ := paired_zipQ pt
        generalize ts.zip dd = zs at yR y1 y2 yl
        have sH : Same H (upd G D (.dK (dd.map entK))) := fun b o e => by
          rw [upd_ne (nHD _ _ e)]
          exact sG _ _ (sF _ _ (nHD _ _ e) (s1 _ _ e))
        have eL2 : (upd G D (.dK (dd.map entK))) L = some (.lst (ts.map V.ref)) := by
          rw [upd_ne (Ne.symm nLD)]
          exact eL
        have eT2 : ∀ p ∈ zs, (upd G D (.dK (dd.map entK))) p.1 = some (.tup [.int (p.2.2.ops : Nat), .str (S p.2.2.txt)]) := fun p hp => by
          rw [upd_ne (ne_of (yR p hp) (sG _ _ eF) (by intro z; cases z))]
          exact yR p hp
        have eD2 : (upd G D (.dK (dd.map entK))) D = some (.dK (dd.map entK)) := upd_same
        generalize upd G D (.dK (dd.map entK)) = G2 at sH eL2 eT2 eD2
        have kse : (zs.map fun p => (p.1, p.2.2.key)).map (fun p => V.ref p.1) = ts.map V.ref := by rw [List.map_map, ← y1, List.map_map]; rfl
        refine ⟨L, zs.map fun p => (p.1, p.2.2.key), rfl, ?_, ?_, fun p hp => ?_, fun R0 nR0 => gname_go ?_⟩
        · rw [kse]
          exact SqL.of eL2
        · rw [List.length_map, yl, lts, sizeLine_eq]
          omega
        · obtain ⟨p', hp', rfl⟩ := List.mem_map.mp hp
          exact SqT.of (eT2 p' hp')
        try dsimp only
        have srt : (zs.map fun p => (p.1, p.2.2.key)).mergeSort isLe = (zs.mergeSort fun a b => fmLe a.2.2 b.2.2).map fun p => (p.1, p.2.2.key) := (List.map_mergeSort (r := fun a b => fmLe a.2.2 b.2.2) (s := isLe) (f := fun p : Addr × Addr × Fm => (p.1, p.2.2.key)) fun a _ b _ => rfl).symm
        rw [srt, List.map_map]
        have srt2 : (zs.mergeSort fun a b => fmLe a.2.2 b.2.2).map (·.2.2) = ordF fs := by
          rw [List.map_mergeSort (s := fmLe) (fun a _ b _ => rfl)]
          unfold ordF
          rw [← hmap, ← y2, List.map_map]
          rfl
        have mw : ∀ p ∈ zs.mergeSort (fun a b => fmLe a.2.2 b.2.2), p ∈ zs := fun p hp => (List.mergeSort_perm _ _).mem_iff.mp hp
        have lw : (zs.mergeSort fun a b => fmLe a.2.2 b.2.2).length = zs.length := List.length_mergeSort _
        generalize zs.mergeSort (fun a b => fmLe a.2.2 b.2.2) = W at srt2 mw lw
        have sR := same_new (o := .lst (W.map ((fun q => V.ref q.1) ∘ fun p => (p.1, p.2.2.key)))) nR0
        have eR := upd_same (H := G2) (a := R0) (o := .lst (W.map ((fun q => V.ref q.1) ∘ fun p => (p.1, p.2.2.key))))
        generalize upd G2 R0 (.lst (W.map ((fun q => V.ref q.1) ∘ fun p => (p.1, p.2.2.key)))) = G3 at sR eR
        -- the parts in this order
        refine ⟨_, rfl, R0, rfl, ⟨_, SqL.of eR⟩, fun L2 nL2 => ?_⟩
        refine lc_it (walk_list (K := K) (a := R0) (xs := W.map ((fun q => V.ref q.1) ∘ fun p => (p.1, p.2.2.key)))) (fun i X => Same G3 X ∧ X L2 = some (.lst ((W.take i).map fun p => V.ref p.2.1))) ⟨same_new nL2, upd_same⟩ (fun i X _ h => SqL.of (h.1 _ _ eR)) ?_ ?_
        · rintro i x X1 X2 hi ⟨sX, eX⟩ ⟨rfl, hx⟩
          rw [List.length_map] at hi
          have hq : W[i]? = some W[i] := List.getElem?_eq_getElem hi
          generalize W[i] = p at hq
          rw [List.getElem?_map, hq] at hx
          obtain rfl : V.ref p.1 = x := Option.some.inj hx
          have hp := mw p (List.mem_of_getElem? hq)
          have pd : p.2 ∈ dd := by rw [← y2]; exact List.mem_map.mpr ⟨p, hp, rfl⟩
          refine ⟨p.1, _, rfl, SqT.of (sX _ _ (sR _ _ (eT2 p hp))), rfl, _, _, rfl, _, _, rfl, rfl, rfl, ?_⟩
          unfold tYes
          dsimp only
          rw [if_pos rfl]
          refine ⟨_, rfl, _, rfl, D, .ref p.2.1, rfl, ?_, ?_⟩
          · have := DGet.k (k := Sum.inr (S p.2.2.txt)) (sX _ _ (sR _ _ eD2))
            rw [val_ent ndd p.2 pd] at this
            exact this
          · exact ⟨_, eX, by rw [List.length_map, List.length_take, sizeLine_eq]; omega, same_pt nL2 sX, by rw [upd_same, get_take hq, List.map_append]; rfl⟩
        · rintro X ⟨sX, eX⟩
          rw [List.length_map, List.take_length] at eX
          refine ⟨L2, _, rfl, .inl ⟨SqL.of eX, fun R nR => ?_⟩⟩
          have sE := ((sH.trans sR).trans sX).trans (same_new (o := .tup (W.map fun p => V.ref p.2.1)) nR)
          refine q R (W.map (·.2.1)) _ sE (by rw [upd_same, List.map_map]; rfl) ?_
          rw [← srt2]
          have go : ∀ l : List (Addr × Addr × Fm), (∀ p ∈ l, p ∈ W) → Paired (FmAt FC (upd X R (.tup (W.map fun p => V.ref p.2.1)))) (l.map (·.2.1)) (l.map (·.2.2)) := fun l => by
            induction l with
            | nil => exact fun _ => .nil
            | cons p l ih =>
              intro hl
              refine .cons ?_ (ih fun p hp => hl p (List.mem_cons_of_mem _ hp))
              have hp := mw p (hl p List.mem_cons_self)
              have pd : p.2 ∈ dd := by rw [← y2]; exact List.mem_map.mpr ⟨p, hp, rfl⟩
              exact (zR p.2 (memd p.2 pd)).same sE
          exact go W fun _ h => h
end
end L2.K15
set_option Elab.async false
set_option linter.all false
set_option maxRecDepth 100000
set_option maxHeartbeats 8000000
namespace L2.K15
open PySem PySem.Spec PyProof.Rows L2.Tb
open SX (S)
abbrev s_finit : Stmt := inClass (top 29) 0
abbrev N_finit : List Str := ["self", "sign", "name", "left", "right"]
theorem sc_finit : FnScope N_finit ["self", "sign", "name", "left", "right"] (defScope s_finit) := ⟨rfl, rfl, rfl, by decide +kernel, rfl, by decide +kernel, by decide +kernel⟩
theorem catA_go {K : PySem.W.Frag} {H : Hp} {a b : Addr} {xs ys : List V} {Q : VK} (ha : H a = some (.tup xs)) (hb : H b = some (.tup ys)) (hl : xs.length + ys.length ≤ 100000) (q : ∀ R H', Same H H' → H' R = some (.tup (xs ++ ys)) → Q (.ref R) H') : rCatA K (.ref a) (.ref b) H Q := by
  refine ⟨a, b, xs, ys, rfl, rfl, SqT.of ha, SqT.of hb, by rw [sizeLine_eq]; omega, fun e => ?_, fun _ e => ?_, fun _ _ p np => ?_⟩
  · subst e
    exact q b H (Same.refl _) hb
  · subst e
    exact q a H (Same.refl _) (by rw [List.append_nil]; exact ha)
  · exact q p _ (same_new np) upd_same
theorem hp_go {σ : St} {H : Hp} {R : St → Hp → Prop} (Pv : Hp → Prop) (h : Pv H) (k : ∀ G, Pv G → R σ G) : R σ H := k H h
/-- all but the object at p -/
def Off (p : Addr) (H H' : Hp) : Prop := ∀ b o, b ≠ p → H b = some o → H' b = some o
theorem Off.set {p : Addr} {H H' : Hp} {o : HO} (s : Off p H H') : Off p H (upd H' p o) := fun b u n e => by rw [upd_ne n]; exact s b u n e
theorem Off.then {p : Addr} {H H1 H' : Hp} (s : Off p H H1) (t : Same H1 H') : Off p H H' := fun b u n e => t _ _ (s b u n e)
def spFinit (FC : Addr) : Sp := fun vs H Q _ => ∃ (a dx : Addr) (sg : Str) (nm lv rv : V), vs = [.ref a, .str sg, nm, lv, rv] ∧ H a = some (.ins FC dx []) ∧
  ((∃ n, sg = S [] ∧ nm = .str (S n) ∧ lv = .non ∧ rv = .non ∧ ∀ H', Off a H H' → FmAt FC H' a (.lt n) → Q .non H') ∨
   (∃ (s : Nat) (l r : Fm) (la ra : Addr), sg = S (sgL s) ∧ nm = .non ∧ lv = .ref la ∧ rv = .ref ra ∧ FmAt FC H la l ∧ FmAt FC H ra r ∧ l.ok = true ∧ r.ok = true ∧ l.ops + r.ops ≤ 90 ∧ ∀ H', Off a H H' → FmAt FC H' a (.op s l r) → Q .non H'))
theorem paired_ge {α β : Type} {R : α → β → Prop} {xs : List α} {ys : List β} (h : Paired R xs ys) : xs.length = ys.length := h.length
theorem parts_lenF (f : Fm) : (partsF f).length ≤ 2 * f.ops + 1 := by
  have := innF_len f
  unfold partsF
  rw [List.length_append, List.length_singleton]
  omega
section
variable {P : Program} {w : World} {K : PySem.W.Frag} {mg : Str → Option Value} {base : Heap} {f : Addr} {fd : FuncData} {FC : Addr}
theorem c_finit (T : Bt mg) (FF : FoF K mg FC) (hfm : PySem.W.findIn K (.ref FC) "__format__" = some (some (.builtin "object.__format__"))) (SS : SpcM P w K mg base L2.CX0 FC "__str__" ["self"] 1 (spFstr FC)) (PP : PrpM P w K mg base FC "parts" 1 (spFparts FC)) (k_in_order : Cal P w K mg base 4 "_in_order" (spOrder FC))
    (F : FunD K "__init__" "Formula.__init__" (defArgs s_finit) (defBody s_finit) (defScope s_finit) [] [] f fd) : FnOk P w K mg base L2.CX0 6 f fd ["self", "sign", "name", "left", "right"] (spFinit FC) := by
  have hnd := sc_finit.nd
  obtain ⟨fs_, fds, hs, hsf, Fs, Bs⟩ := SS
  obtain ⟨p9, g9, fd9, PP9, FP9, BP9⟩ := PP
  have hmo := FF.ex.hm
  refine F.ok sc_finit (fun vs H Q E h => ?_) (fun cdv A outer s H vs Q E hr h => ?_)
  · obtain ⟨a, dx, sg, nm, lv, rv, rfl, _⟩ := h
    rfl
  · obtain ⟨a, dx, sg, nm, lv, rv, rfl, ea, h⟩ := h
    refine ⟨_, (pss_cons (ps_fld (pv 0) (pv 1) (by rfl))
      (pss_cons (ps_fld (pv 0) (pv 2) (by rfl))
      (pss_cons (ps_fld (pv 0) (pv 3) (by rfl))
      (pss_cons (ps_fld (pv 0) (pv 4) (by rfl))
      (pss_cons (ps_fld (pv 0) (pe_ifExp (pt_cmpR op_isN (pv 3) pe_non (nomark _)) (pv 2) (pe_joined (.cons pe_str (.cons (pe_fmtOwn Fs (hr.mono (by omega)) hfm hmo hs hsf Bs (pv 3)) (.cons pe_str (.cons (pe_fmt (pv 1)) (.cons pe_str (.cons (pe_fmtOwn Fs (hr.mono (by omega)) hfm hmo hs hsf Bs (pv 4)) (.cons pe_str .nil))))))))) (by rfl))
      (pss_cons (ps_fld (pv 0) (pe_ifExp (pt_cmpR op_isN (pv 3) pe_non (nomark _)) (pe_tup pa_nil) (pe_op (show OpR _ (binaryOp .Add) (rCatA K) from op_catA) (pe_op (show OpR _ (binaryOp .Add) (rCatA K) from op_catA) (pe_fld (pv 3) (by rfl)) (pe_tup (pa_cons (pv 1) pa_nil))) (pe_fld (pv 4) (by rfl)))) (by rfl))
      (pss_one (ps_fld (pv 0) (pe_ifExp (pt_cmpR op_isN (pv 3) pe_non (nomark _)) (pe_tup pa_nil) (pe_cal k_in_order hr (by omega) (by rfl) (pa_cons (pe_op (show OpR _ (binaryOp .Add) (rCatA K) from op_catA) (pe_prop (E := L2.E0) (pv 3) FF.cls PP9 FP9 (hr.mono (by omega)) BP9 .nil (fun _ _ _ _ _ _ _ h => h.elim) (by rfl)) (pe_prop (E := L2.E0) (pv 4) FF.cls PP9 FP9 (hr.mono (by omega)) BP9 .nil (fun _ _ _ _ _ _ _ h => h.elim) (by rfl))) pa_nil))) (by rfl))))))))), ?_⟩
    refine ⟨_, rfl, _, rfl, a, FC, dx, [], rfl, ea, FF.cls, FF.n1, by decide, ?_⟩
    refine ⟨_, rfl, _, rfl, a, FC, dx, _, rfl, upd_same, FF.cls, FF.n2, Nat.le_of_ble_eq_true rfl, ?_⟩
    refine ⟨_, rfl, _, rfl, a, FC, dx, _, rfl, upd_same, FF.cls, FF.n3, Nat.le_of_ble_eq_true rfl, ?_⟩
    refine ⟨_, rfl, _, rfl, a, FC, dx, _, rfl, upd_same, FF.cls, FF.n4, Nat.le_of_ble_eq_true rfl, ?_⟩
    refine hp_go (fun G => Off a H G ∧ G a = some (.ins FC dx [("_sign", .str sg), ("_name", nm), ("_left", lv), ("_right", rv)])) ⟨fun b o n e => by rw [upd_ne n, upd_ne n, upd_ne n, upd_ne n]; exact e, upd_same⟩ fun G ⟨of0, e0⟩ => ?_
    rcases h with ⟨n, rfl, rfl, rfl, rfl, q⟩ | ⟨s0, l, r, la, ra, rfl, rfl, rfl, rfl, hla, hra, okl, okr, lops, q⟩
    · refine ⟨_, rfl, rfl, _, rfl, iteT2 (decide_eq_true rfl) ⟨_, rfl, _, rfl, a, FC, dx, _, rfl, e0, FF.cls, FF.n5, Nat.le_of_ble_eq_true rfl, ?_⟩⟩
      refine hp_go (fun G => Off a H G ∧ G a = some (.ins FC dx [("_sign", .str (S [])), ("_name", .str (S n)), ("_left", .non), ("_right", .non), ("_text", .str (S n))])) ⟨of0.set, upd_same⟩ fun G1 ⟨of1, e1⟩ => ?_
      refine ⟨_, rfl, rfl, _, rfl, iteT2 (decide_eq_true rfl) ⟨Nat.zero_le _, fun sgA nsg => ⟨_, rfl, a, FC, dx, _, rfl, same_new nsg _ _ e1, FF.cls, FF.n6, Nat.le_of_ble_eq_true rfl, ?_⟩⟩⟩
      have nsa : a ≠ sgA := ne_of_none e1 nsg
      refine hp_go (fun G => Off a H G ∧ G sgA = some (.tup []) ∧ G a = some (.ins FC dx [("_sign", .str (S [])), ("_name", .str (S n)), ("_left", .non), ("_right", .non), ("_text", .str (S n)), ("_signs", .ref sgA)])) ⟨(of1.then (same_new nsg)).set, by rw [upd_ne (Ne.symm nsa)]; exact upd_same, upd_same⟩ fun G2 ⟨of2, eS, e2⟩ => ?_
      refine ⟨_, rfl, rfl, _, rfl, iteT2 (decide_eq_true rfl) ⟨Nat.zero_le _, fun inA nin => ⟨_, rfl, a, FC, dx, _, rfl, same_new nin _ _ e2, FF.cls, FF.n7, Nat.le_of_ble_eq_true rfl, ?_⟩⟩⟩
      have nia : a ≠ inA := ne_of_none e2 nin
      refine q _ (of2.then (same_new nin)).set (.lt upd_same ?_ ?_)
      · rw [upd_ne (Ne.symm nsa)]
        exact same_new nin _ _ eS
      · rw [upd_ne (Ne.symm nia)]
        exact upd_same
    · have nd : decide (V.ref la = V.non) = false := decide_eq_false fun z => by cases z
      have up : ∀ {G : Hp} {x : Addr} {g : Fm}, Off a H G → FmAt FC H x g → FmAt FC G x g := fun o h => h.I o ⟨FC, dx, ea⟩
      have tl := Fm.txt_len l okl
      have tr := Fm.txt_len r okr
      have sl := sgL_len s0
      have Ll : (S l.txt).length ≤ 2000 := by rw [SX.S_len]; omega
      have Lr : (S r.txt).length ≤ 2000 := by rw [SX.S_len]; omega
      have Ls : (S (sgL s0)).length ≤ 2 := by rw [SX.S_len]; exact sl
      have c1 : (Str.ofString "(") = S [40] := by decide +kernel
      have c2 : (Str.ofString " ") = S [32] := by decide +kernel
      have c3 : (Str.ofString ")") = S [41] := by decide +kernel
      have c0 : Str.empty = S [] := by decide +kernel
      obtain ⟨dl, fl_, el⟩ := (up of0 hla).ins
      obtain ⟨dr, fr_, er⟩ := (up of0 hra).ins
      have szL : ∀ x : List Nat, x.length ≤ 5000 → (S x).length ≤ sizeLine := fun x hx => by rw [SX.S_len, sizeLine_eq]; omega
      refine ⟨_, rfl, rfl, _, rfl, iteN2 nd ?_⟩
      refine ⟨_, rfl, ?_, ?_⟩
      · rw [c0, c1, SX.S_cat]
        exact szL _ (by simp)
      rw [c0, c1, SX.S_cat]
      refine ⟨_, rfl, la, dl, fl_, rfl, el, la, l, rfl, up of0 hla, _, rfl, _, rfl, ?_, ?_⟩
      · rw [SX.S_cat]
        exact szL _ (by simp only [List.length_append, List.length_singleton, List.length_nil]; omega)
      rw [SX.S_cat]
      refine ⟨_, rfl, ?_, ?_⟩
      · rw [c2, SX.S_cat]
        exact szL _ (by simp only [List.length_append, List.length_singleton, List.length_nil]; omega)
      rw [c2, SX.S_cat]
      refine ⟨_, rfl, .inl ⟨_, rfl, szL _ (by omega), _, rfl, ?_, ?_⟩⟩
      · rw [SX.S_cat]
        exact szL _ (by simp only [List.length_append, List.length_singleton, List.length_nil]; omega)
      rw [SX.S_cat]
      refine ⟨_, rfl, ?_, ?_⟩
      · rw [SX.S_cat]
        exact szL _ (by simp only [List.length_append, List.length_singleton, List.length_nil]; omega)
      rw [SX.S_cat]
      refine ⟨_, rfl, ra, dr, fr_, rfl, er, ra, r, rfl, up of0 hra, _, rfl, _, rfl, ?_, ?_⟩
      · rw [SX.S_cat]
        exact szL _ (by simp only [List.length_append, List.length_singleton, List.length_nil]; omega)
      rw [SX.S_cat]
      refine ⟨_, rfl, ?_, ?_⟩
      · rw [c3, SX.S_cat]
        exact szL _ (by simp only [List.length_append, List.length_singleton, List.length_nil]; omega)
      rw [c3, SX.S_cat]
      refine ⟨_, rfl, a, FC, dx, _, rfl, e0, FF.cls, FF.n5, Nat.le_of_ble_eq_true rfl, ?_⟩
      refine hp_go (fun G => Off a H G ∧ G a = some (.ins FC dx [("_sign", .str (S (sgL s0))), ("_name", .non), ("_left", .ref la), ("_right", .ref ra), ("_text", .str (S (Fm.op s0 l r).txt))])) ⟨of0.set, upd_same⟩ fun G1 ⟨of1, e1⟩ => ?_
      -- the signs
      obtain ⟨dl1, sgl, inl, lvl, rvl, psl, el1, esl, _⟩ := (up of1 hla).o.ex
      refine ⟨_, rfl, rfl, _, rfl, iteN2 nd ?_⟩
      refine ⟨_, rfl, la, FC, dl1, _, _, rfl, el1, FF.cls, FF.n6, rfl, _, rfl, by show 1 ≤ sizeLine; decide, fun T1 nT1 => ?_⟩
      have s1 := same_new (o := .tup [.str (S (sgL s0))]) nT1
      refine catA_go (xs := l.sgs.map nmV) (ys := [nmV (sgL s0)]) (s1 _ _ esl) upd_same ?_ fun R1 H1 sR1 eR1 => ?_
      · rw [List.length_map, Fm.sgs_len, List.length_singleton]
        omega
      obtain ⟨dr1, sgr, inr_, lvr, rvr, psr, er1, esr, _⟩ := (up ((of1.then s1).then sR1) hra).o.ex
      refine ⟨_, rfl, ra, FC, dr1, _, _, rfl, er1, FF.cls, FF.n6, rfl, ?_⟩
      refine catA_go eR1 esr ?_ fun R2 H2 sR2 eR2 => ?_
      · rw [List.length_append, List.length_map, List.length_map, Fm.sgs_len, Fm.sgs_len, List.length_singleton]
        omega
      have e2' := sR2 _ _ (sR1 _ _ (s1 _ _ e1))
      refine ⟨_, rfl, a, FC, dx, _, rfl, e2', FF.cls, FF.n6, Nat.le_of_ble_eq_true rfl, ?_⟩
      have n2a : a ≠ R2 := ne_of e2' eR2 (by intro z; cases z)
      refine hp_go (fun G => Off a H G ∧ G R2 = some (.tup ((Fm.op s0 l r).sgs.map nmV)) ∧ G a = some (.ins FC dx [("_sign", .str (S (sgL s0))), ("_name", .non), ("_left", .ref la), ("_right", .ref ra), ("_text", .str (S (Fm.op s0 l r).txt)), ("_signs", .ref R2)])) ⟨(((of1.then s1).then sR1).then sR2).set, ?_, upd_same⟩ fun G2 ⟨of2, eS, e2⟩ => ?_
      · rw [upd_ne (Ne.symm n2a), eR2]
        simp only [Fm.sgs, List.map_append, List.map_cons, List.map_nil]
      -- the parts
      obtain ⟨dl2, fl2, el2⟩ := (up of2 hla).ins
      refine ⟨_, rfl, rfl, _, rfl, iteN2 nd ?_⟩
      refine ⟨_, rfl, la, dl2, fl2, rfl, el2, la, l, rfl, up of2 hla, by omega, fun TL pl H3 s3 eL pl_ => ?_⟩
      have of3 := of2.then s3
      obtain ⟨dr2, fr2, er2⟩ := (up of3 hra).ins
      refine ⟨_, rfl, ra, dr2, fr2, rfl, er2, ra, r, rfl, up of3 hra, by omega, fun TR pr H4 s4 eR pr_ => ?_⟩
      have lpl := parts_lenF l
      have lpr := parts_lenF r
      have kl := paired_ge pl_
      have kr := paired_ge pr_
      refine catA_go (s4 _ _ eL) eR (by rw [List.length_map, List.length_map]; omega) fun T5 H5 s5 e5 => ?_
      have pall := paired_app (paired_imp (fun _ _ z => (FmAt.same z s4).same s5) pl_) (paired_imp (fun _ _ z => FmAt.same z s5) pr_)
      refine ⟨T5, pl ++ pr, partsF l ++ partsF r, rfl, by rw [e5, List.map_append], pall, by rw [List.length_append]; omega, fun g hg => ?_, fun R6 qs H6 s6 e6 pq => ?_⟩
      · rcases List.mem_append.mp hg with hg | hg
        · have := (parts_ok okl hg).2
          omega
        · have := (parts_ok okr hg).2
          omega
      have e7 := s6 _ _ (s5 _ _ (s4 _ _ (s3 _ _ e2)))
      refine ⟨_, rfl, a, FC, dx, _, rfl, e7, FF.cls, FF.n7, Nat.le_of_ble_eq_true rfl, ?_⟩
      have n6a : a ≠ R6 := ne_of e7 e6 (by intro z; cases z)
      have of6 := (((of2.then s3).then s4).then s5).then s6
      have fin : ∀ {x g}, FmAt FC H6 x g → x ≠ a → True := fun _ _ => trivial
      have upI : ∀ {o : HO} {x : Addr} {g : Fm}, FmAt FC H x g → FmAt FC (upd H6 a o) x g := fun h => up of6.set h
      refine q _ of6.set (.op (ps := qs) upd_same (upI hla) (upI hra) ?_ ?_ (paired_ge pq) fun i p g hp hg => ?_)
      · rw [upd_ne (Ne.symm n2a)]
        exact s6 _ _ (s5 _ _ (s4 _ _ (s3 _ _ eS)))
      · rw [upd_ne (Ne.symm n6a)]
        exact e6
      · have hx := paired_get2 pq i p g hp hg
        refine FmAt.P hx (p := a) (fun b o n e => by rw [upd_ne n]; exact e) ⟨FC, dx, _, e7, Nat.le_of_ble_eq_true rfl⟩
end
end L2.K15
set_option Elab.async false
set_option linter.all false
set_option maxRecDepth 100000
set_option maxHeartbeats 4000000
/-! x op y by the own method of x's class, y of a built-in type, what is raised passes -/
namespace L2.Tb
open PySem PySem.Spec PyProof.Rows PySem.W
/-- what the built-in type says of the operator -/
structure Rgt (K : PySem.W.Frag) (C : Addr) (op : Operator) (T : String) : Prop where
  own : ∃ o, findIn K (.type T) (PySem.dunder op.info.2) = some o
  ref : ∃ o, findIn K (.type T) (dunderR op.info.2) = some o
  sub : subIn K (.type T) (.ref C) = some false
section
variable {prog : Program} {w : World} {A : Around} {E : Value → Shared → Prop} {s : Shared} {K : Frag} {x C L f : Addr} {hp : Heap} {m : Str → Option Value} {ox : Obj} {od : Option Obj} {T : String} {op : Operator} {y : Value} {Q : Value → Shared → Prop}
theorem bin_left (F : Fr hp L s.heap m) (hK : K.In hp) (J : InstAt s.heap x ox C od) (ty : Looks (model prog w) s.heap (typeOf y) (.type T)) (sf : selfFirst K C = true) (hs : findIn K (.ref C) (PySem.dunder op.info.2) = some (some (.ref f)))
    (hf : isFn K (.ref f) = true) (hr : findIn K (.ref C) (dunderR op.info.2) = some none) (R : Rgt K C op T) (h : wpAny (model prog w) A (call (.ref f) [.ref x, y]) (PySem.W.CmpBack Q) E s) : wpAny (model prog w) A (binaryOp op (.ref x) y) Q E s := by
  have kin := hK.keeps F.keep
  obtain ⟨cd, tl, e1, e2⟩ := ksp_first sf
  obtain ⟨o1, t1⟩ := R.own
  obtain ⟨o2, t2⟩ := R.ref
  have t3 := R.sub
  rcases ei : op.info with ⟨sg, nm⟩
  rw [ei] at hs hr t1 t2
  dsimp only at hs hr t1 t2
  have go := ksp_try kin J hs hf h
  obtain ⟨hh, gn, dr, tk, os⟩ := s
  have a1 : Looks (model prog w) hh (typeOf (.ref x)) (.ref C) := J.type
  have a3 : Looks (model prog w) hh (fillsNumberSlot (.ref C) nm) true := fills_K kin e1 e2 hs
  have a4 := ksp_fillsT (M := model prog w) kin t1 t2
  have a5 : Looks (model prog w) hh (isSubtype (.type T) (.ref C)) false := looks_subIn kin t3
  have a6 : Looks (model prog w) hh (numberSlotInPython (.ref C) nm) true := ksp_inPy kin hs hr (.inl rfl)
  have a7 : Looks (model prog w) hh (numberSlotInPython (.type T) nm) false := Looks.of_pure rfl
  have a8 : Looks (model prog w) hh (typeLookup (.type T) (dunderR nm)) o2 := looks_findIn kin t2
  generalize ((o1.isSome && !isSeqSlot o1) || (o2.isSome && !isSeqSlot o2)) = rt at a4
  have ne : (Value.ref C == Value.type T) = false := by
    cases hq : (Value.ref C == Value.type T) with
    | false => rfl
    | true => cases beq_iff_eq.mp hq
  simp only [binaryOp, ei]
  refine wpAny_holding (wpAny_bind ?_)
  unfold binaryOp1
  refine wpAny_bind (a1.at (wpAny_bind (ty.at (wpAny_bind (a3.at ?_)))))
  simp only [ne, Bool.false_eq_true, if_false]
  cases rt
  all_goals
    ksp_lk
    refine wpAny_mono go (fun r s2 hv => ?_) fun _ _ e => e
    obtain ⟨v, rfl, qv⟩ := hv
    ksp_lk
    exact qv
end
section
variable {X : Cx} {CX : CXT} {C f : Addr} {fd : FuncData} {ps : List Str} {sp : Sp} {k : Nat} {op : Operator} {E : XK}
def rOwnBinX (K : PySem.W.Frag) (C : Addr) (op : Operator) (sp : Sp) (E : XK) : R2 := fun x y H Q => ∃ (a dx : Addr) (fs : List (Str × V)) (T : String), x = .ref a ∧ H a = some (.ins C dx fs) ∧ TyX K H y (.type T) ∧ Rgt K C op T ∧ sp [.ref a, y] H Q E
theorem op_ownBinX (F : FnOk X.prog X.w X.K X.mg X.base CX k f fd ps sp) (hr : Room k X.A) (sf : selfFirst X.K C = true) (hs : findIn X.K (.ref C) (PySem.dunder op.info.2) = some (some (.ref f))) (hf : isFn X.K (.ref f) = true)
    (hrr : findIn X.K (.ref C) (dunderR op.info.2) = some none) (hb : Binds X.K fd ps []) (hx : Passes CX X E) : OpR X (binaryOp op) (rOwnBinX X.K C op sp E) := by
  intro pins s σ H x y v u Q I rx ry h
  obtain ⟨a, dx, fs, T, rfl, ea, ty, R, h⟩ := h
  obtain rfl : v = Value.ref a := rx
  obtain ⟨mA, O, _⟩ := ins_get I.hok ea
  obtain ⟨od, J, _⟩ := O.look
  obtain ⟨m, hF⟩ := I.fr
  obtain ⟨Pt, kt, pt, _⟩ := kit_of I ry ty
  have hl := F.len _ _ _ _ h
  refine bin_left hF I.ok.mod.kin J (kt.ty _ _ I.kIn pt) sf hs hf hrr R (wpAny_call (codeAny_mono (F.run X.A X.stack s H ⟨[.ref a, u], []⟩ [.ref a, u] [.ref a, y] _ E hr I.env0 (by
    have z := hb s [.ref a, u] I.kIn (by simpa using hl)
    simpa using z) (.cons rfl (.cons ry .nil)) h) fun r s' hq => ?_))
  match r, hq with
  | .error e, hq => exact hx pins σ H s e s' I hq
  | .ok (.ret u2), hq =>
    obtain ⟨v2, H', I', rv, q⟩ := I.after hq
    exact cmp_back rv ⟨v2, H', I', rv, q⟩
end
end L2.Tb
set_option Elab.async false
set_option linter.all false
set_option maxRecDepth 100000
set_option maxHeartbeats 4000000
/-! x op y by the own method of x's class, y an instance of another class that has the operator too, what is raised passes -/
namespace L2.Tb
open PySem PySem.Spec PyProof.Rows PySem.W
/-- what y's class says of the operator -/
structure RgtC (K : PySem.W.Frag) (C : Addr) (op : Operator) (D : Addr) : Prop where
  sf : selfFirst K D = true
  own : ∃ g : Addr, findIn K (.ref D) (PySem.dunder op.info.2) = some (some (.ref g))
  ref : findIn K (.ref D) (dunderR op.info.2) = some none
  sub : subIn K (.ref D) (.ref C) = some false
  ne : C ≠ D
section
variable {prog : Program} {w : World} {A : Around} {E : Value → Shared → Prop} {s : Shared} {K : Frag} {x C D L f : Addr} {hp : Heap} {m : Str → Option Value} {ox : Obj} {od : Option Obj} {op : Operator} {y : Value} {Q : Value → Shared → Prop}
theorem bin_leftC (F : Fr hp L s.heap m) (hK : K.In hp) (J : InstAt s.heap x ox C od) (ty : Looks (model prog w) s.heap (typeOf y) (.ref D)) (sf : selfFirst K C = true) (hs : findIn K (.ref C) (PySem.dunder op.info.2) = some (some (.ref f)))
    (hf : isFn K (.ref f) = true) (hr : findIn K (.ref C) (dunderR op.info.2) = some none) (R : RgtC K C op D) (h : wpAny (model prog w) A (call (.ref f) [.ref x, y]) (PySem.W.CmpBack Q) E s) : wpAny (model prog w) A (binaryOp op (.ref x) y) Q E s := by
  have kin := hK.keeps F.keep
  obtain ⟨cd, tl, e1, e2⟩ := ksp_first sf
  obtain ⟨cd', tl', e1', e2'⟩ := ksp_first R.sf
  obtain ⟨g1, t1⟩ := R.own
  have t2 := R.ref
  have t3 := R.sub
  have nCD := R.ne
  rcases ei : op.info with ⟨sg, nm⟩
  rw [ei] at hs hr t1 t2
  dsimp only at hs hr t1 t2
  have go := ksp_try kin J hs hf h
  obtain ⟨hh, gn, dr, tk, os⟩ := s
  have a1 : Looks (model prog w) hh (typeOf (.ref x)) (.ref C) := J.type
  have a3 : Looks (model prog w) hh (fillsNumberSlot (.ref C) nm) true := fills_K kin e1 e2 hs
  have a4 : Looks (model prog w) hh (fillsNumberSlot (.ref D) nm) true := fills_K kin e1' e2' t1
  have a5 : Looks (model prog w) hh (isSubtype (.ref D) (.ref C)) false := looks_subIn kin t3
  have a6 : Looks (model prog w) hh (numberSlotInPython (.ref C) nm) true := ksp_inPy kin hs hr (.inl rfl)
  have a7 : Looks (model prog w) hh (numberSlotInPython (.ref D) nm) true := ksp_inPy kin t1 t2 (.inl rfl)
  have ne : (Value.ref C == Value.ref D) = false := by
    cases hq : (Value.ref C == Value.ref D) with
    | false => rfl
    | true =>
      have := beq_iff_eq.mp hq
      injection this with this
      exact absurd this nCD
  simp only [binaryOp, ei]
  refine wpAny_holding (wpAny_bind ?_)
  unfold binaryOp1
  refine wpAny_bind (a1.at (wpAny_bind (ty.at (wpAny_bind (a3.at ?_)))))
  simp only [ne, Bool.false_eq_true, if_false]
  ksp_lk
  refine wpAny_mono go (fun r s2 hv => ?_) fun _ _ e => e
  obtain ⟨v, rfl, qv⟩ := hv
  ksp_lk
  exact qv
end
section
variable {X : Cx} {CX : CXT} {C f : Addr} {fd : FuncData} {ps : List Str} {sp : Sp} {k : Nat} {op : Operator} {E : XK}
/-- y of a built-in type, of x's own class, or of another class with the operator -/
def rOwnBinA (K : PySem.W.Frag) (C : Addr) (op : Operator) (sp : Sp) (E : XK) : R2 := fun x y H Q => ∃ (a dx : Addr) (fs : List (Str × V)) (t : Value), x = .ref a ∧ H a = some (.ins C dx fs) ∧ TyX K H y t ∧ ((∃ T, t = .type T ∧ Rgt K C op T) ∨ t = .ref C ∨ ∃ D, t = .ref D ∧ RgtC K C op D) ∧ sp [.ref a, y] H Q E
theorem op_ownBinA (F : FnOk X.prog X.w X.K X.mg X.base CX k f fd ps sp) (hr : Room k X.A) (sf : selfFirst X.K C = true) (hs : findIn X.K (.ref C) (PySem.dunder op.info.2) = some (some (.ref f))) (hf : isFn X.K (.ref f) = true)
    (hrr : findIn X.K (.ref C) (dunderR op.info.2) = some none) (hb : Binds X.K fd ps []) (hx : Passes CX X E) : OpR X (binaryOp op) (rOwnBinA X.K C op sp E) := by
  intro pins s σ H x y v u Q I rx ry h
  obtain ⟨a, dx, fs, t, rfl, ea, ty, R, h⟩ := h
  obtain rfl : v = Value.ref a := rx
  obtain ⟨mA, O, _⟩ := ins_get I.hok ea
  obtain ⟨od, J, _⟩ := O.look
  obtain ⟨m, hF⟩ := I.fr
  obtain ⟨Pt, kt, pt, _⟩ := kit_of I ry ty
  have hl := F.len _ _ _ _ h
  have run : wpAny (model X.prog X.w) X.A (call (.ref f) [.ref a, u]) (PySem.W.CmpBack (EP X pins σ Q)) X.xe s := (wpAny_call (codeAny_mono (F.run X.A X.stack s H ⟨[.ref a, u], []⟩ [.ref a, u] [.ref a, y] _ E hr I.env0 (by
    have z := hb s [.ref a, u] I.kIn (by simpa using hl)
    simpa using z) (.cons rfl (.cons ry .nil)) h) fun r s' hq => by
      match r, hq with
      | .error e, hq => exact hx pins σ H s e s' I hq
      | .ok (.ret u2), hq =>
        obtain ⟨v2, H', I', rv, q⟩ := I.after hq
        exact cmp_back rv ⟨v2, H', I', rv, q⟩))
  rcases R with ⟨T, rfl, R⟩ | rfl | ⟨D, rfl, R⟩
  · exact bin_left hF I.ok.mod.kin J (kt.ty _ _ I.kIn pt) sf hs hf hrr R run
  · exact PySem.W.binop_K hF I.ok.mod.kin J (kt.ty _ _ I.kIn pt) sf hs hf run
  · exact bin_leftC hF I.ok.mod.kin J (kt.ty _ _ I.kIn pt) sf hs hf hrr R run
end
end L2.Tb
set_option Elab.async false
set_option linter.all false
set_option maxRecDepth 100000
set_option maxHeartbeats 4000000
/-! x op= y by the own method of x op y, y of the same class; a def of the module that may raise, called by keywords alone -/
namespace L2.Tb
open PySem PySem.Spec PyProof.Rows PySem.W
/-- a class without the operator's own in-place method, right below object -/
structure NoIp (K : PySem.W.Frag) (C : Addr) (op : Operator) : Prop where
  mro : ∃ cd, clsIn K C = some cd ∧ cd.mro = [.ref C, .type "object"]
  own : findIn K (.ref C) (dunderI op.info.2) = some none
  obj : findIn K (.type "object") (dunderI op.info.2) = some none
section
variable {M : Model} {prog : Program} {w : World} {A : Around} {E : Value → Shared → Prop} {s : Shared} {K : Frag} {x C L f : Addr} {hp : Heap} {m : Str → Option Value} {ox : Obj} {od : Option Obj} {op : Operator} {b : Value}
theorem fills_no {h : Heap} {add : Bool} (X : K.In h) (N : NoIp K C op) : Looks M h (fillsInplaceSlot (.ref C) op.info.2 add) false := by
  intro A Q E s k q
  obtain ⟨cd, hc, hm⟩ := N.mro
  have Lm : Looks M h (mroOf (.ref C)) cd.mro := (looks_clsIn X hc).andThen (f := fun cd => pure cd.mro) .now
  have Lm' := Lm.keeps k
  obtain ⟨hh, g, d, tt, os⟩ := s
  have X' : K.In hh := X.keeps k
  have L1 : Looks M hh (typeLookup (.ref C) (dunderI op.info.2)) none := looks_findIn X' N.own
  have L2 : Looks M hh (typeLookup (.type "object") (dunderI op.info.2)) none := looks_findIn X' N.obj
  unfold fillsInplaceSlot
  refine wpAny_bind (Lm'.at ?_)
  rw [hm, List.anyM_cons]
  refine wpAny_bind ?_
  repeat lk
  exact q
theorem inpl_same {Q : Value → Shared → Prop} (F : Fr hp L s.heap m) (X₀ : K.In hp) (I : InstAt s.heap x ox C od) (hb : Looks (model prog w) s.heap (typeOf b) (.ref C)) (hc : selfFirst K C = true) (N : NoIp K C op)
    (hs : findIn K (.ref C) (PySem.dunder op.info.2) = some (some (.ref f))) (hf : isFn K (.ref f) = true)
    (h : wpAny (model prog w) A (call (.ref f) [.ref x, b]) (PySem.W.CmpBack Q) E s) : wpAny (model prog w) A (inplaceOp op (.ref x) b) Q E s := by
  have X := X₀.keeps F.keep
  obtain ⟨cd, rest, hcd, hm⟩ := ksp_first hc
  unfold inplaceOp
  refine wpAny_holding ?_
  refine wpAny_bind (I.type.here ?_)
  refine wpAny_bind ((fills_no X N).here ?_)
  simp only [Bool.false_eq_true, if_false]
  refine wpAny_bind ?_
  unfold binaryOp1
  refine wpAny_bind (I.type.here (wpAny_bind (hb.here (wpAny_bind ((fills_K X hcd hm hs).here ?_)))))
  simp only [beq_self_eq_true, if_true]
  refine wpAny_bind (wpAny_pure ?_)
  simp only [Bool.and_false, Bool.false_eq_true, if_false, Bool.false_and]
  refine wpAny_bind (wpAny_pure ?_)
  simp only [Bool.false_eq_true, if_false]
  refine wpAny_bind (m := tryMethod (.ref x) _ b) ?_
  unfold tryMethod
  refine wpAny_bind (special_fn X I hs (beq_iff_eq.mp hf) (wpAny_mono h (fun v s' hv => ?_) fun _ _ e => e))
  cases v <;> first | exact hv.elim | exact wpAny_pure (wpAny_pure (wpAny_pure hv))
end
section
variable {X : Cx} {CX : CXT} {C f : Addr} {fd : FuncData} {ps : List Str} {sp : Sp} {k : Nat} {op : Operator} {E : XK}
def ipOwn (C : Addr) (sp : Sp) (E : XK) : TIp := fun x y H Q => ∃ (a dx : Addr) (fs : List (Str × V)) (c dy : Addr) (gs : List (Str × V)), x = .ref a ∧ y = .ref c ∧ H a = some (.ins C dx fs) ∧ H c = some (.ins C dy gs) ∧ sp [.ref a, .ref c] H Q E
theorem ip_own (F : FnOk X.prog X.w X.K X.mg X.base CX k f fd ps sp) (hr : Room k X.A) (hc : PySem.W.selfFirst X.K C = true) (N : NoIp X.K C op) (hs : PySem.W.findIn X.K (.ref C) (PySem.dunder op.info.2) = some (some (.ref f))) (hf : PySem.W.isFn X.K (.ref f) = true) (hb : Binds X.K fd ps []) (hx : Passes CX X E) :
    PIp X op (ipOwn C sp E) := by
  intro pins s σ H x y v u Q I rx ry h
  obtain ⟨a, dx, fs, c, dy, gs, rfl, rfl, ea, ec, h⟩ := h
  obtain rfl : v = Value.ref a := rx
  obtain rfl : u = Value.ref c := ry
  obtain ⟨mA, O, _⟩ := ins_get I.hok ea
  obtain ⟨od, J, _⟩ := O.look
  obtain ⟨mC, O2, _⟩ := ins_get I.hok ec
  obtain ⟨od2, J2, _⟩ := O2.look
  obtain ⟨m, hF⟩ := I.fr
  have hl := F.len _ _ _ _ h
  refine inpl_same hF I.ok.mod.kin J J2.type hc N hs hf (wpAny_call (codeAny_mono (F.run X.A X.stack s H ⟨[.ref a, .ref c], []⟩ [.ref a, .ref c] [.ref a, .ref c] _ E hr I.env0 (by
    have z := hb s [.ref a, .ref c] I.kIn (by simpa using hl)
    simpa using z) (.cons rfl (.cons rfl .nil)) h) fun r s' hq => ?_))
  match r, hq with
  | .error e, hq => exact hx pins σ H s e s' I hq
  | .ok (.ret u2), hq =>
    obtain ⟨v2, H', I', rv, q⟩ := I.after hq
    exact cmp_back rv ⟨v2, H', I', rv, q⟩
end
/-! ### by keywords alone -/
structure CalXK (P : Program) (w : World) (K : PySem.W.Frag) (mg : Str → Option Value) (base : Heap) (k : Nat) (x : Str) (ks : List Str) (sp : Sp) : Prop where
  ex : ∃ (f : Addr) (fd : FuncData) (ps : List Str), FnOk P w K mg base (L2.CX P w) k f fd ps sp ∧ mg x = some (.ref f) ∧ PySem.W.keepIn K (.ref f) = true ∧ ps.length = ks.length ∧ ∀ (sh : Shared) (zs : List Value), zs.length = ks.length → BindsTo sh fd ⟨[], ks.zip zs⟩ (ps.zip zs)
section
variable {P : Program} {w : World} {K : PySem.W.Frag} {mg : Str → Option Value} {base : Heap} {x p : Str} {st : Stmt} {f : Addr} {fd : FuncData} {k : Nat} {sp : Sp}
theorem calXK_of (F : FnP K x st f fd) (hm : mg x = some (.ref f)) (hb : ∀ (kV doc pm : Value) (an : Option Addr) (cdv ct u : Value), bindArgs (PySem.W.fnOf x x (defArgs st) (defBody st) (defScope st) .none kV doc pm an cdv ct) ⟨[], [(p, u)]⟩ = pure [(p, u)])
    (h : FnOk P w K mg base (L2.CX P w) k f fd [p] sp) : CalXK P w K mg base k x [p] sp := by
  refine ⟨f, fd, [p], h, hm, F.kp, rfl, fun sh zs hl => ?_⟩
  obtain ⟨oc, od, dV, kV, doc, pm, an, cdv, ct, osl, rfl, lk, hcd, hD, hK⟩ := F.ex
  match zs, hl with
  | [v], _ =>
    rcases hD with ⟨_, rfl⟩ | ⟨e, _⟩
    · exact .of_eq (hb kV doc pm an cdv ct v)
    · exact absurd rfl e
end
section
variable {X : Cx} {k j : Nat} {x : Str} {ks : List Str} {sp : Sp} {p pos : Pos} {kws : List Keyword} {tk : TA} {E : XK}
def tCallKW (sp : Sp) (E : XK) (n : Nat) (tk : TA) : TE := fun σ H Q => tk σ H fun zs H2 => zs.length = n ∧ sp zs H2 Q E
theorem pe_calXK (c : CalXK X.prog X.w X.K X.mg X.base k x ks sp) (hr : Room j X.A) (hk : k ≤ j) (hg : Gl X x) (hx : Passes (L2.CX X.prog X.w) X E) (hkw : PK X kws tk)
    (hall : (backToKw pos (keywordEach kws X.env)).all (·.1.isSome) = true := by rfl) (hks : (backToKw pos (keywordEach kws X.env)).filterMap (·.1) = ks := by rfl)
    (hdb : (x == ("__debug__" : Str)) = false := by decide)
    (hpl : ((backTo pos (starEach [] X.env)).any (·.1) || (backToKw pos (keywordEach kws X.env)).any (·.1.isNone)) = false := by rfl) :
    PE X (.Call (.Name x p) [] kws pos) (tCallKW sp E ks.length tk) := by
  obtain ⟨f, fd, ps, F, hm, kp, hpl2, hb⟩ := c.ex
  refine ⟨fun pins s σ H Q I h => ?_⟩
  refine wpAny_Call_Name_kw (ld_glob I hg hm ?_ hdb)
  refine PySem.W.callWith_KW0 (h₀ := X.base) (first := []) I.ok.mod.kin kp hall (thn (hkw.run pos pins s σ H _ I h) fun ws s2 hh => ?_) hpl
  obtain ⟨zs, H2, I2, rz, hzl, q2⟩ := hh
  refine ⟨I2.kIn, ?_⟩
  rw [hks]
  have hw : ws.length = ks.length := by rw [← rz.length]; exact hzl
  refine wpAny_call (codeAny_mono (F.run X.A X.stack s2 H2 ⟨[], ks.zip ws⟩ ws zs Q E (hr.mono hk) I2.env0 (hb s2 ws hw) rz q2) fun r s3 z => ?_)
  match r, z with
  | .error e, z => exact hx pins σ H2 s2 e s3 I2 z
  | .ok (.ret u2), z => exact I2.after z
end
end L2.Tb
set_option Elab.async false
set_option linter.all false
set_option maxRecDepth 100000
set_option maxHeartbeats 8000000
namespace L2.K15
open PySem PySem.Spec PyProof.Rows L2.Tb
open SX (S)
abbrev s_letter : Stmt := top 28
abbrev N_letter : List Str := ["name"]
theorem sc_letter : FnScope N_letter ["name"] (defScope s_letter) := ⟨rfl, rfl, rfl, by decide +kernel, rfl, by decide +kernel, by decide +kernel⟩
abbrev s_check_formula : Stmt := top 31
abbrev N_check_formula : List Str := ["formula"]
theorem sc_check_formula : FnScope N_check_formula ["formula"] (defScope s_check_formula) := ⟨rfl, rfl, rfl, by decide +kernel, rfl, by decide +kernel, by decide +kernel⟩
abbrev s_signed : Stmt := top 32
abbrev N_signed : List Str := ["sign", "left", "right"]
theorem sc_signed : FnScope N_signed ["sign", "left", "right"] (defScope s_signed) := ⟨rfl, rfl, rfl, by decide +kernel, rfl, by decide +kernel, by decide +kernel⟩
abbrev s_fmul : Stmt := inClass (top 29) 9
abbrev N_fmul : List Str := ["self", "other"]
theorem sc_fmul : FnScope N_fmul ["self", "other"] (defScope s_fmul) := ⟨rfl, rfl, rfl, by decide +kernel, rfl, by decide +kernel, by decide +kernel⟩
abbrev s_ffdiv : Stmt := inClass (top 29) 10
abbrev N_ffdiv : List Str := ["self", "other"]
theorem sc_ffdiv : FnScope N_ffdiv ["self", "other"] (defScope s_ffdiv) := ⟨rfl, rfl, rfl, by decide +kernel, rfl, by decide +kernel, by decide +kernel⟩
abbrev s_frsh : Stmt := inClass (top 29) 11
abbrev N_frsh : List Str := ["self", "other"]
theorem sc_frsh : FnScope N_frsh ["self", "other"] (defScope s_frsh) := ⟨rfl, rfl, rfl, by decide +kernel, rfl, by decide +kernel, by decide +kernel⟩
/-- an error of the class at C with this attribute leaves -/
def ErrW (H : Hp) (C : Addr) (E : XK) (at_ : Str) (v : V) : Prop := ∀ d H', Same H H' → H d = none → H' d = some (.xd [(at_, v)]) → E (.ref C) (some d) H'
theorem ErrW.same {H H1 : Hp} {C : Addr} {E : XK} {at_ : Str} {v : V} (h : ErrW H C E at_ v) (s : Same H H1) : ErrW H1 C E at_ v := fun d H' s2 n e => h d H' (s.trans s2) (none_back s n) e
def BadN (K : PySem.W.Frag) (H : Hp) (v : V) : Prop := (∃ n : List Nat, v = .str (S n) ∧ n.length ≤ 10000 ∧ nameB n = false) ∨ NoS K H v
def spLetter (K : PySem.W.Frag) (FC CN : Addr) : Sp := fun vs H Q E => ∃ v : V, vs = [v] ∧ ((∃ n, v = .str (S n) ∧ nameB n = true ∧ ∀ x H', Same H H' → FmAt FC H' x (.lt n) → Q (.ref x) H') ∨ (BadN K H v ∧ ErrW H CN E "given" v))
def spCheckF (K : PySem.W.Frag) (FC CF : Addr) : Sp := fun vs H Q E => ∃ v : V, vs = [v] ∧ ((∃ a f, v = .ref a ∧ FmAt FC H a f ∧ Q .non H) ∨ (NoF K FC H v ∧ ErrW H CF E "given" v))
def spSigned (K : PySem.W.Frag) (FC CF CM : Addr) : Sp := fun vs H Q E => ∃ (s : Nat) (a : Addr) (y : V) (l : Fm), vs = [.str (S (sgL s)), .ref a, y] ∧ s < 3 ∧ FmAt FC H a l ∧ l.ok = true ∧ l.ops ≤ 40 ∧
  ((∃ b r, y = .ref b ∧ FmAt FC H b r ∧ r.ok = true ∧ r.ops ≤ 40 ∧ ((l.ops + 1 + r.ops ≤ 8 ∧ ∀ x H', Same H H' → FmAt FC H' x (.op s l r) → Q (.ref x) H') ∨ (8 < l.ops + 1 + r.ops ∧ ErrW H CM E "limit" (.int 8)))) ∨ (NoF K FC H y ∧ ErrW H CF E "given" y))
def spFop (s : Nat) (K : PySem.W.Frag) (FC CF CM : Addr) : Sp := fun vs H Q E => vs.length = 2 ∧ spSigned K FC CF CM (.str (S (sgL s)) :: vs) H Q E
theorem tyx_same {K : PySem.W.Frag} {H H' : Hp} {x : V} {t : Value} (s : Same H H') (h : TyX K H x t) : TyX K H' x t := by
  cases h with
  | base b =>
    refine .base ?_
    cases b with
    | non => exact .non
    | bl x => exact .bl x
    | int x => exact .int x
    | str x => exact .str x
    | flt x => exact .flt x
    | lst e => exact .lst (s _ _ e)
    | frz e => exact .frz (s _ _ e)
    | tup e => exact .tup (s _ _ e)
    | dK e => exact .dK (s _ _ e)
    | dT e => exact .dT (s _ _ e)
    | ins e a b c d f => exact .ins (s _ _ e) a b c d f
  | byt b => exact .byt b
  | set e => exact .set (s _ _ e)
  | kList e c => exact .kList e c
  | kTuple e c => exact .kTuple e c
  | kDict e c => exact .kDict e c
  | fTuple e => exact .fTuple (s _ _ e)
  | fDict e => exact .fDict (s _ _ e)
theorem NoF.same {K : PySem.W.Frag} {FC : Addr} {H H' : Hp} {v : V} (h : NoF K FC H v) (s : Same H H') : NoF K FC H' v := let ⟨t, a, b⟩ := h; ⟨t, tyx_same s a, b⟩
theorem BadN.same {K : PySem.W.Frag} {H H' : Hp} {v : V} (h : BadN K H v) (s : Same H H') : BadN K H' v := h.elim .inl fun h => .inr (let ⟨t, a, b⟩ := NoS.ex h; ⟨t, tyx_same s a, b⟩)
/-- a new formula -/
theorem new_off {FC x dx : Addr} {G H' : Hp} (nx : G x = none) (ndx : G dx = none) (h : Off x (upd (upd G dx (.own x)) x (.ins FC dx [])) H') : Same G H' := fun b o e => h b o (ne_of_none e nx) (by rw [upd_ne (ne_of_none e nx), upd_ne (ne_of_none e ndx)]; exact e)
theorem new_same {FC x dx : Addr} {G : Hp} (nx : G x = none) (ndx : G dx = none) : Same G (upd (upd G dx (.own x)) x (.ins FC dx [])) := fun b o e => by rw [upd_ne (ne_of_none e nx), upd_ne (ne_of_none e ndx)]; exact e
theorem cons_S : Str.ofString "" = S [] := by decide +kernel
section
variable {P : Program} {w : World} {K : PySem.W.Frag} {mg : Str → Option Value} {base : Heap} {f fi : Addr} {fd fdi : FuncData} {FC CInvalidName CNotAFormula CTooMany : Addr}
theorem c_letterF (T : Bt mg) (FF : FoF K mg FC) (k_is_name : Cal P w K mg base 1 "is_name" (spIsName K)) (FM : Mk K FC fi) (FiF : FnOk P w K mg base L2.CX0 6 fi fdi ["self", "sign", "name", "left", "right"] (spFinit FC)) (BiF : Binds K fdi ["self", "sign", "name", "left", "right"] [])
    (eInvalidName : ErC P w K mg base "InvalidName" "given" bVE CInvalidName) (tyInvalidName : PySem.W.typeIn K (.ref CInvalidName) = some (.type "type")) (F : FnP K "letter" s_letter f fd) : FnOk P w K mg base (L2.CX P w) 8 f fd ["name"] (spLetter K FC CInvalidName) := by
  have hnd := sc_letter.nd
  refine F.ok sc_letter (fun vs H Q E h => ?_) (fun cdv A outer s H vs Q E hr h => ?_)
  · obtain ⟨v, rfl, _⟩ := h
    rfl
  · obtain ⟨v, rfl, h⟩ := h
    refine ⟨_, (pss_cons (ps_if (pt_not (pt_val (pe_cal k_is_name hr (by omega) (by rfl) (pa_cons (pv 0) pa_nil))))
      (pss_one (ps_raise (by rfl) (takes_of rfl rfl rfl rfl) (pmk_er eInvalidName tyInvalidName hr (by omega) (by rfl) (pv 0))))
      pss_nil)
      (pss_one (ps_ret (pe_make FM FiF (hr.mono (by omega)) (by rfl) FF.mgF BiF .nil pass0 (pa_cons pe_str (pa_cons (pv 0) (pa_cons pe_non (pa_cons pe_non pa_nil)))))))), ?_⟩
    rcases h with ⟨n, rfl, hn, q⟩ | ⟨hb, q⟩
    · refine ⟨_, rfl, .str (S n), rfl, .inl ⟨n, rfl, ?_, fun H1 s1 => ?_⟩⟩
      · have := (nameB_len hn).2
        omega
      · rw [hn]
        refine ⟨_, rfl, iteF ?_⟩
        refine ⟨_, rfl, fun x dx nx ndx nex => ?_⟩
        exact ⟨x, dx, _, _, _, _, rfl, upd_same, .inl ⟨n, cons_S, rfl, rfl, rfl, fun H' of hf => ⟨rfl, q x H' (s1.trans (new_off nx ndx of)) hf⟩⟩⟩
    · refine ⟨_, rfl, v, rfl, ?_⟩
      rcases hb with ⟨n, rfl, l4, hn⟩ | hb
      · refine .inl ⟨n, rfl, l4, fun H1 s1 => ?_⟩
        rw [hn]
        exact ⟨_, rfl, iteT ⟨_, rfl, fun d H' s nd x => q d H' (s1.trans s) (none_back s1 nd) x⟩⟩
      · exact .inr ⟨hb, _, rfl, iteT ⟨_, rfl, fun d H' s nd x => q d H' s nd x⟩⟩
theorem c_letter (T : Bt mg) (FF : FoF K mg FC) (k_is_name : Cal P w K mg base 1 "is_name" (spIsName K)) (FM : Mk K FC fi) (FiF : FnOk P w K mg base L2.CX0 6 fi fdi ["self", "sign", "name", "left", "right"] (spFinit FC)) (BiF : Binds K fdi ["self", "sign", "name", "left", "right"] [])
    (eInvalidName : ErC P w K mg base "InvalidName" "given" bVE CInvalidName) (tyInvalidName : PySem.W.typeIn K (.ref CInvalidName) = some (.type "type")) (F : FnP K "letter" s_letter f fd) (hm : mg "letter" = some (.ref f)) : CalX P w K mg base 8 "letter" (spLetter K FC CInvalidName) :=
  calX_of F hm (fun _ _ _ _ _ _ us hl => match us, hl with | [_], _ => rfl) (c_letterF T FF k_is_name FM FiF BiF eInvalidName tyInvalidName F)
theorem c_letterK (T : Bt mg) (FF : FoF K mg FC) (k_is_name : Cal P w K mg base 1 "is_name" (spIsName K)) (FM : Mk K FC fi) (FiF : FnOk P w K mg base L2.CX0 6 fi fdi ["self", "sign", "name", "left", "right"] (spFinit FC)) (BiF : Binds K fdi ["self", "sign", "name", "left", "right"] [])
    (eInvalidName : ErC P w K mg base "InvalidName" "given" bVE CInvalidName) (tyInvalidName : PySem.W.typeIn K (.ref CInvalidName) = some (.type "type")) (F : FnP K "letter" s_letter f fd) (hm : mg "letter" = some (.ref f)) : CalXK P w K mg base 8 "letter" ["name"] (spLetter K FC CInvalidName) :=
  calXK_of F hm (fun _ _ _ _ _ _ _ => rfl) (c_letterF T FF k_is_name FM FiF BiF eInvalidName tyInvalidName F)
theorem c_check_formula (T : Bt mg) (FF : FoF K mg FC) (eNotAFormula : ErC P w K mg base "NotAFormula" "given" bVE CNotAFormula) (tyNotAFormula : PySem.W.typeIn K (.ref CNotAFormula) = some (.type "type")) (F : FnP K "check_formula" s_check_formula f fd) (hm : mg "check_formula" = some (.ref f)) :
    CalX P w K mg base 3 "check_formula" (spCheckF K FC CNotAFormula) := by
  have hnd := sc_check_formula.nd
  refine calX_of F hm (fun _ _ _ _ _ _ us hl => match us, hl with | [_], _ => rfl) (F.ok sc_check_formula (fun vs H Q E h => ?_) (fun cdv A outer s H vs Q E hr h => ?_))
  · obtain ⟨v, rfl, _⟩ := h
    rfl
  · obtain ⟨v, rfl, h⟩ := h
    refine ⟨_, (pss_one (ps_if (pt_not (pt_val (pe_callB call_isi (by rfl) T.m_isinstance (by decide +kernel) (pa_cons (pv 0) (pa_cons (pe_glob (v := .ref FC) (by rfl) FF.mgF rfl) pa_nil)))))
      (pss_one (ps_raise (by rfl) (takes_of rfl rfl rfl rfl) (pmk_er eNotAFormula tyNotAFormula hr (by omega) (by rfl) (pv 0))))
      pss_nil)), ?_⟩
    rcases h with ⟨a, g, rfl, hg, q⟩ | ⟨⟨t, ty, kn⟩, q⟩
    · exact ⟨_, rfl, _, _, _, _, _, rfl, .own FC, hg.ty FF, FF.self, true, rfl, iteF q⟩
    · exact ⟨_, rfl, _, _, _, _, _, rfl, .own FC, ty, kn, false, rfl, iteT ⟨_, rfl, q⟩⟩
theorem c_signed (T : Bt mg) (FF : FoF K mg FC) (mo : ∃ t, mg "MOST_OPERATIONS" = some (.int 8 t)) (LL : SpcM P w K mg base L2.CX0 FC "__len__" ["self"] 1 (spFlen FC)) (FM : Mk K FC fi) (FiF : FnOk P w K mg base L2.CX0 6 fi fdi ["self", "sign", "name", "left", "right"] (spFinit FC)) (BiF : Binds K fdi ["self", "sign", "name", "left", "right"] [])
    (x_check_formula : CalX P w K mg base 3 "check_formula" (spCheckF K FC CNotAFormula)) (eTooMany : ErC P w K mg base "TooMany" "limit" bAE CTooMany) (tyTooMany : PySem.W.typeIn K (.ref CTooMany) = some (.type "type")) (F : FnP K "_signed" s_signed f fd) (hm : mg "_signed" = some (.ref f)) :
    CalX P w K mg base 8 "_signed" (spSigned K FC CNotAFormula CTooMany) := by
  have hnd := sc_signed.nd
  obtain ⟨tmo, hmo⟩ := mo
  obtain ⟨fl_, fdl, hl, hlf, Fl, Bl⟩ := LL
  refine calX_of F hm (fun _ _ _ _ _ _ us hl => match us, hl with | [_, _, _], _ => rfl) (F.ok sc_signed (fun vs H Q E h => ?_) (fun cdv A outer s H vs Q E hr h => ?_))
  · obtain ⟨s0, a, y, l, rfl, _⟩ := h
    rfl
  · obtain ⟨s0, a, y, l, rfl, hs0, hl_, okl, l40, h⟩ := h
    refine ⟨_, (pss_cons (ps_expr (pe_calX x_check_formula hr (by omega) (by rfl) (passes_call (takes_of rfl rfl rfl rfl) (fun _ _ _ _ h => h)) (pa_cons (pv 2) pa_nil)))
      (pss_cons (ps_if (pt_cmpR op_gt (pe_op op_add (pe_op op_add (pe_callB (show CallR _ (.builtin "len") (rLenOwn FC (spFlen FC)) from call_lenOwn Fl (hr.mono (by omega)) hl hlf Bl) (by rfl) T.m_len (by decide +kernel) (pa_cons (pv 1) pa_nil)) pe_int) (pe_callB (show CallR _ (.builtin "len") (rLenOwn FC (spFlen FC)) from call_lenOwn Fl (hr.mono (by omega)) hl hlf Bl) (by rfl) T.m_len (by decide +kernel) (pa_cons (pv 2) pa_nil))) (pe_glob (v := .int 8) (by rfl) hmo ⟨_, rfl⟩) (nomark _))
      (pss_one (ps_raise (by rfl) (takes_of rfl rfl rfl rfl) (pmk_er eTooMany tyTooMany hr (by omega) (by rfl) (pe_glob (v := .int 8) (by rfl) hmo ⟨_, rfl⟩))))
      pss_nil)
      (pss_one (ps_ret (pe_make FM FiF (hr.mono (by omega)) (by rfl) FF.mgF BiF .nil pass0 (pa_cons (pv 0) (pa_cons pe_non (pa_cons (pv 1) (pa_cons (pv 2) pa_nil))))))))), ?_⟩
    rcases h with ⟨b, r, rfl, hr_, okr, r40, h⟩ | ⟨hn, q⟩
    · refine ⟨_, rfl, _, rfl, .inl ⟨b, r, rfl, hr_, ?_⟩⟩
      obtain ⟨d1, f1, e1⟩ := hl_.ins
      obtain ⟨d2, f2, e2⟩ := hr_.ins
      refine ⟨_, rfl, a, d1, f1, rfl, e1, a, l, rfl, hl_, (l.ops : Nat), rfl, Int.natCast_nonneg _, by omega, _, _, rfl, rfl, _, rfl, b, d2, f2, rfl, e2, b, r, rfl, hr_, (r.ops : Nat), rfl, Int.natCast_nonneg _, by omega, _, _, rfl, rfl, _, _, rfl, rfl, _, rfl, ?_⟩
      rcases h with ⟨h8, q⟩ | ⟨h8, q⟩
      · refine iteN2 (decide_eq_false (by omega)) ?_
        refine ⟨_, rfl, _, rfl, _, rfl, fun x dx nx ndx nex => ?_⟩
        have sx := new_same (FC := FC) nx ndx
        exact ⟨x, dx, _, _, _, _, rfl, upd_same, .inr ⟨s0, l, r, a, b, rfl, rfl, rfl, rfl, hl_.same sx, hr_.same sx, okl, okr, by omega, fun H' of hf => ⟨rfl, q x H' (new_off nx ndx of) hf⟩⟩⟩
      · exact iteT2 (decide_eq_true (by omega)) fun d H' s nd x => q d H' s nd x
    · exact ⟨_, rfl, _, rfl, .inr ⟨hn, fun d H' s nd x => q d H' s nd x⟩⟩
theorem c_fmul (x_signed : CalX P w K mg base 8 "_signed" (spSigned K FC CNotAFormula CTooMany)) (F : FunD K "__mul__" "Formula.__mul__" (defArgs s_fmul) (defBody s_fmul) (defScope s_fmul) [] [] f fd) : FnOk P w K mg base (L2.CX P w) 9 f fd ["self", "other"] (spFop 0 K FC CNotAFormula CTooMany) := by
  have hnd := sc_fmul.nd
  refine F.ok sc_fmul (fun vs H Q E h => h.1) (fun cdv A outer s H vs Q E hr h => ?_)
  obtain ⟨l2, h⟩ := h
  obtain ⟨x, y, rfl⟩ : ∃ x y, vs = [x, y] := by
    match vs, l2 with
    | [x, y], _ => exact ⟨x, y, rfl⟩
  refine ⟨_, (pss_one (ps_ret (pe_calX x_signed hr (by omega) (by rfl) (passes_call (takes_of rfl rfl rfl rfl) (fun _ _ _ _ h => h)) (pa_cons pe_str (pa_cons (pv 0) (pa_cons (pv 1) pa_nil)))))), ?_⟩
  refine ⟨_, rfl, _, rfl, ?_⟩
  have e : (Str.ofString "*") = S (sgL 0) := by decide +kernel
  rw [← e] at h
  exact h
theorem c_ffdiv (x_signed : CalX P w K mg base 8 "_signed" (spSigned K FC CNotAFormula CTooMany)) (F : FunD K "__floordiv__" "Formula.__floordiv__" (defArgs s_ffdiv) (defBody s_ffdiv) (defScope s_ffdiv) [] [] f fd) : FnOk P w K mg base (L2.CX P w) 9 f fd ["self", "other"] (spFop 1 K FC CNotAFormula CTooMany) := by
  have hnd := sc_ffdiv.nd
  refine F.ok sc_ffdiv (fun vs H Q E h => h.1) (fun cdv A outer s H vs Q E hr h => ?_)
  obtain ⟨l2, h⟩ := h
  obtain ⟨x, y, rfl⟩ : ∃ x y, vs = [x, y] := by
    match vs, l2 with
    | [x, y], _ => exact ⟨x, y, rfl⟩
  refine ⟨_, (pss_one (ps_ret (pe_calX x_signed hr (by omega) (by rfl) (passes_call (takes_of rfl rfl rfl rfl) (fun _ _ _ _ h => h)) (pa_cons pe_str (pa_cons (pv 0) (pa_cons (pv 1) pa_nil)))))), ?_⟩
  refine ⟨_, rfl, _, rfl, ?_⟩
  have e : (Str.ofString "//") = S (sgL 1) := by decide +kernel
  rw [← e] at h
  exact h
theorem c_frsh (x_signed : CalX P w K mg base 8 "_signed" (spSigned K FC CNotAFormula CTooMany)) (F : FunD K "__rshift__" "Formula.__rshift__" (defArgs s_frsh) (defBody s_frsh) (defScope s_frsh) [] [] f fd) : FnOk P w K mg base (L2.CX P w) 9 f fd ["self", "other"] (spFop 2 K FC CNotAFormula CTooMany) := by
  have hnd := sc_frsh.nd
  refine F.ok sc_frsh (fun vs H Q E h => h.1) (fun cdv A outer s H vs Q E hr h => ?_)
  obtain ⟨l2, h⟩ := h
  obtain ⟨x, y, rfl⟩ : ∃ x y, vs = [x, y] := by
    match vs, l2 with
    | [x, y], _ => exact ⟨x, y, rfl⟩
  refine ⟨_, (pss_one (ps_ret (pe_calX x_signed hr (by omega) (by rfl) (passes_call (takes_of rfl rfl rfl rfl) (fun _ _ _ _ h => h)) (pa_cons pe_str (pa_cons (pv 0) (pa_cons (pv 1) pa_nil)))))), ?_⟩
  refine ⟨_, rfl, _, rfl, ?_⟩
  have e : (Str.ofString ">>") = S (sgL 2) := by decide +kernel
  rw [← e] at h
  exact h
end
end L2.K15
set_option Elab.async false
set_option linter.all false
set_option maxRecDepth 100000
set_option maxHeartbeats 8000000
namespace L2.K15
open PySem PySem.Spec PyProof.Rows L2.Tb
open SX (S)
/-! ### tables of triples -/
abbrev Trp := Nat × Nat × Nat
def k0 (t : Trp) : Nat := t.2.1 * 600 + t.2.2
def k1 (t : Trp) : Nat := t.1 * 600 + t.2.2
def k2 (t : Trp) : Nat := t.1 * 600 + t.2.1
def kN (n : Nat) : Key := .inl (n : Int)
def tV (t : Trp) : List V := [.int (t.1 : Nat), .int (t.2.1 : Nat), .int (t.2.2 : Nat)]
def Bd (n : Nat) (t : Trp) : Prop := t.1 < n ∧ t.2.1 < n ∧ t.2.2 < n
def kvT (f g : Trp → Nat) (T : List Trp) : List (Key × V) := T.map fun t => (kN (f t), V.int ((g t : Nat) : Int))
theorem valF_mem {f g : Trp → Nat} : ∀ {T : List Trp} {t : Trp}, (∀ s ∈ T, f s = f t → s = t) → t ∈ T → valV (kvT f g T) (kN (f t)) = some (.int ((g t : Nat) : Int))
  | s :: T, t, hu, ht => by
    by_cases c : f s = f t
    · have e := hu s List.mem_cons_self c
      subst e
      exact valV_pos rfl
    · have hne : kN (f s) ≠ kN (f t) := fun z => c (by injection z with z; omega)
      rcases List.mem_cons.mp ht with rfl | ht
      · exact absurd rfl c
      · show valV ((kN (f s), V.int ((g s : Nat) : Int)) :: kvT f g T) _ = _
        rw [valV_neg hne]
        exact valF_mem (fun s hs => hu s (List.mem_cons_of_mem _ hs)) ht
theorem valF_none {f g : Trp → Nat} {k : Nat} : ∀ {T : List Trp}, (∀ s ∈ T, f s ≠ k) → valV (kvT f g T) (kN k) = none
  | [], _ => rfl
  | s :: T, h => by
    have hne : kN (f s) ≠ kN k := fun z => h s List.mem_cons_self (by injection z with z; omega)
    show valV ((kN (f s), V.int ((g s : Nat) : Int)) :: kvT f g T) _ = _
    rw [valV_neg hne]
    exact valF_none fun s hs => h s (List.mem_cons_of_mem _ hs)
theorem kvT_app {f g : Trp → Nat} {T : List Trp} {x : Trp} : kvT f g (T ++ [x]) = kvT f g T ++ [(kN (f x), V.int ((g x : Nat) : Int))] := by
  unfold kvT
  rw [List.map_append]
  rfl
/-- no two agree at two places -/
structure TOk (n : Nat) (T : List Trp) : Prop where
  bd : ∀ t ∈ T, Bd n t
  c0 : ∀ s ∈ T, ∀ t ∈ T, k0 s = k0 t → s = t
  c1 : ∀ s ∈ T, ∀ t ∈ T, k1 s = k1 t → s = t
  c2 : ∀ s ∈ T, ∀ t ∈ T, k2 s = k2 t → s = t
theorem TOk.nil {n : Nat} : TOk n [] := ⟨(fun _ h => by cases h), (fun _ h => by cases h), (fun _ h => by cases h), (fun _ h => by cases h)⟩
theorem TOk.up {n m : Nat} {T : List Trp} (h : TOk n T) (hm : n ≤ m) : TOk m T := ⟨fun t ht => let ⟨a, b, c⟩ := h.bd t ht; ⟨Nat.lt_of_lt_of_le a hm, Nat.lt_of_lt_of_le b hm, Nat.lt_of_lt_of_le c hm⟩, h.c0, h.c1, h.c2⟩
def hits (T : List Trp) (x : Trp) : Bool := T.any fun s => decide (k0 s = k0 x ∨ k1 s = k1 x ∨ k2 s = k2 x)
def add1 (T : List Trp) (x : Trp) : Option (List Trp) := if x ∈ T then some T else if hits T x = true then none else some (T ++ [x])
theorem hits_no {T : List Trp} {x : Trp} (h : hits T x = false) : ∀ s ∈ T, k0 s ≠ k0 x ∧ k1 s ≠ k1 x ∧ k2 s ≠ k2 x := fun s hs => by
  have := List.any_eq_false.mp h s hs
  have := of_decide_eq_false (Bool.eq_false_iff.mpr this)
  exact ⟨fun z => this (.inl z), fun z => this (.inr (.inl z)), fun z => this (.inr (.inr z))⟩
theorem TOk.snoc {n : Nat} {T : List Trp} {x : Trp} (h : TOk n T) (b : Bd n x) (hx : ∀ s ∈ T, k0 s ≠ k0 x ∧ k1 s ≠ k1 x ∧ k2 s ≠ k2 x) : TOk n (T ++ [x]) := by
  have go : ∀ (f : Trp → Nat), (∀ s ∈ T, ∀ t ∈ T, f s = f t → s = t) → (∀ s ∈ T, f s ≠ f x) → ∀ s ∈ T ++ [x], ∀ t ∈ T ++ [x], f s = f t → s = t := fun f h1 h2 s hs t ht e => by
    rcases List.mem_append.mp hs with hs | hs
    · rcases List.mem_append.mp ht with ht | ht
      · exact h1 s hs t ht e
      · rw [List.mem_singleton.mp ht] at e
        exact absurd e (h2 s hs)
    · rcases List.mem_append.mp ht with ht | ht
      · rw [List.mem_singleton.mp hs] at e
        exact absurd e.symm (h2 t ht)
      · rw [List.mem_singleton.mp hs, List.mem_singleton.mp ht]
  refine ⟨fun t ht => ?_, go k0 h.c0 fun s hs => (hx s hs).1, go k1 h.c1 fun s hs => (hx s hs).2.1, go k2 h.c2 fun s hs => (hx s hs).2.2⟩
  rcases List.mem_append.mp ht with ht | ht
  · exact h.bd t ht
  · rw [List.mem_singleton.mp ht]
    exact b
theorem add1_ok {n : Nat} {T T' : List Trp} {x : Trp} (h : TOk n T) (b : Bd n x) (e : add1 T x = some T') : TOk n T' := by
  unfold add1 at e
  split at e
  · cases e
    exact h
  · split at e
    · cases e
    · rename_i hh
      cases e
      exact h.snoc b (hits_no (Bool.eq_false_iff.mpr hh))
def addL : List Trp → List Trp → Option (List Trp)
  | T, [] => some T
  | T, x :: xs => match add1 T x with
    | none => none
    | some T' => addL T' xs
theorem addL_ok {n : Nat} : ∀ {xs T T' : List Trp}, TOk n T → (∀ x ∈ xs, Bd n x) → addL T xs = some T' → TOk n T'
  | [], T, T', h, _, e => by
    cases e
    exact h
  | x :: xs, T, T', h, b, e => by
    unfold addL at e
    cases e1 : add1 T x with
    | none => rw [e1] at e; cases e
    | some T1 =>
      rw [e1] at e
      exact addL_ok (add1_ok h (b x List.mem_cons_self) e1) (fun y hy => b y (List.mem_cons_of_mem _ hy)) e
/-- the thing at a place -/
def pl (t : Trp) (i : Int) : Nat := if i = 0 then t.1 else if i = 1 then t.2.1 else t.2.2
def imgT (t : Trp) (u : Turn) : Trp := (pl t u.1, pl t u.2.1, pl t u.2.2)
theorem pl_bd {n : Nat} {t : Trp} (h : Bd n t) (i : Int) : pl t i < n := by
  unfold pl
  split
  · exact h.1
  · split
    · exact h.2.1
    · exact h.2.2
theorem imgT_bd {n : Nat} {t : Trp} (h : Bd n t) (u : Turn) : Bd n (imgT t u) := ⟨pl_bd h _, pl_bd h _, pl_bd h _⟩
def addT (lot : List Turn) (T : List Trp) (t : Trp) : Option (List Trp) := if t ∈ T then some T else addL T (lot.map (imgT t))
theorem addT_ok {n : Nat} {lot : List Turn} {T T' : List Trp} {t : Trp} (h : TOk n T) (b : Bd n t) (e : addT lot T t = some T') : TOk n T' := by
  unfold addT at e
  split at e
  · cases e
    exact h
  · refine addL_ok h (fun x hx => ?_) e
    obtain ⟨u, _, rfl⟩ := List.mem_map.mp hx
    exact imgT_bd b u
/-- all, or the index of the first that clashes -/
def addA (lot : List Turn) : List Trp → Nat → List Trp → Except Nat (List Trp)
  | T, _, [] => .ok T
  | T, i, t :: ts => match addT lot T t with
    | none => .error i
    | some T' => addA lot T' (i + 1) ts
theorem addA_ok {n : Nat} {lot : List Turn} : ∀ {ts T T' : List Trp} {i : Nat}, TOk n T → (∀ t ∈ ts, Bd n t) → addA lot T i ts = .ok T' → TOk n T'
  | [], T, T', i, h, _, e => by
    cases e
    exact h
  | t :: ts, T, T', i, h, b, e => by
    unfold addA at e
    cases e1 : addT lot T t with
    | none => rw [e1] at e; cases e
    | some T1 =>
      rw [e1] at e
      exact addA_ok (addT_ok h (b t List.mem_cons_self) e1) (fun y hy => b y (List.mem_cons_of_mem _ hy)) e
/-- the keys tell the things -/
theorem key_inj {a b c d : Nat} (h1 : b < 600) (h2 : d < 600) (e : a * 600 + b = c * 600 + d) : a = c ∧ b = d := by omega
/-- what is asked of a table -/
def lookT (T : List Trp) (f : Trp → Nat) (g : Trp → Nat) (k : Nat) : Option Nat := (T.find? fun s => decide (f s = k)).map g
theorem lookT_val {f g : Trp → Nat} {k : Nat} : ∀ {T : List Trp}, valV (kvT f g T) (kN k) = (lookT T f g k).map fun n : Nat => V.int (n : Int)
  | [] => rfl
  | s :: T => by
    show valV ((kN (f s), V.int ((g s : Nat) : Int)) :: kvT f g T) _ = _
    unfold lookT
    by_cases c : f s = k
    · rw [List.find?_cons_of_pos (by simpa using c)]
      subst c
      rw [valV_pos rfl]
      rfl
    · have hne : kN (f s) ≠ kN k := fun z => c (by injection z with z; omega)
      rw [valV_neg hne, List.find?_cons_of_neg (by simpa using c)]
      exact lookT_val
theorem lookT_mem {f g : Trp → Nat} {T : List Trp} {t : Trp} (hu : ∀ s ∈ T, f s = f t → s = t) (ht : t ∈ T) : lookT T f g (f t) = some (g t) := by
  unfold lookT
  cases e : T.find? fun s => decide (f s = f t) with
  | none => exact absurd (List.find?_eq_none.mp e t ht) (by simp)
  | some s =>
    have h1 := List.mem_of_find?_eq_some e
    have h2 := List.find?_some e
    rw [hu s h1 (of_decide_eq_true h2)]
    rfl
theorem lookT_none {f g : Trp → Nat} {T : List Trp} {k : Nat} (h : ∀ s ∈ T, f s ≠ k) : lookT T f g k = none := by
  unfold lookT
  rw [List.find?_eq_none.mpr fun s hs => by simpa using h s hs]
  rfl
end L2.K15
set_option Elab.async false
set_option linter.all false
set_option maxRecDepth 100000
set_option maxHeartbeats 8000000
namespace L2.K15
open PySem PySem.Spec PyProof.Rows L2.Tb
open SX (S)
abbrev s_is_integer : Stmt := top 21
abbrev N_is_integer : List Str := ["value"]
theorem sc_is_integer : FnScope N_is_integer ["value"] (defScope s_is_integer) := ⟨rfl, rfl, rfl, by decide +kernel, rfl, by decide +kernel, by decide +kernel⟩
abbrev s_is_thing : Stmt := top 46
abbrev N_is_thing : List Str := ["size", "value"]
theorem sc_is_thing : FnScope N_is_thing ["size", "value"] (defScope s_is_thing) := ⟨rfl, rfl, rfl, by decide +kernel, rfl, by decide +kernel, by decide +kernel⟩
abbrev s_key : Stmt := top 53
abbrev N_key : List Str := ["one", "other"]
theorem sc_key : FnScope N_key ["one", "other"] (defScope s_key) := ⟨rfl, rfl, rfl, by decide +kernel, rfl, by decide +kernel, by decide +kernel⟩
abbrev s_completed : Stmt := top 54
abbrev N_completed : List Str := ["tables", "triple", "at", "place", "one", "other"]
theorem sc_completed : FnScope N_completed ["tables", "triple"] (defScope s_completed) := ⟨rfl, rfl, rfl, by decide +kernel, rfl, by decide +kernel, by decide +kernel⟩
/-- no integer, as is_integer sees it -/
def NoI (K : PySem.W.Frag) (H : Hp) (v : V) : Prop := ∃ Tn : String, TyX K H v (.type Tn) ∧ (kitB Tn "int" = some false ∨ (kitB Tn "int" = some true ∧ kitB Tn "bool" = some true))
theorem noI_non {K : PySem.W.Frag} {H : Hp} : NoI K H .non := ⟨"NoneType", .base .non, .inl (by decide +kernel)⟩
def spIsInt (K : PySem.W.Frag) : Sp := fun vs H Q _ => ∃ v : V, vs = [v] ∧ ((∃ i, v = .int i ∧ Q (.bl true) H) ∨ (NoI K H v ∧ Q (.bl false) H))
/-- what the value is to things below n -/
def IsTh (K : PySem.W.Frag) (H : Hp) (n : Nat) (v : V) (b : Bool) : Prop := (∃ i : Int, v = .int i ∧ b = decide (0 ≤ i ∧ i < n)) ∨ (NoI K H v ∧ b = false)
def spIsThing (K : PySem.W.Frag) : Sp := fun vs H Q _ => ∃ (n : Nat) (v : V) (b : Bool), vs = [.int (n : Int), v] ∧ IsTh K H n v b ∧ Q (.bl b) H
def spKey : Sp := fun vs H Q _ => ∃ a b : Nat, vs = [.int (a : Int), .int (b : Int)] ∧ a < 600 ∧ b < 600 ∧ Q (.int ((a * 600 + b : Nat) : Int)) H
/-- constants of the module -/
structure BgC (K : PySem.W.Frag) (mg : Str → Option Value) : Prop where
  mo : ∃ t, mg "MOST_THINGS" = some (.int 600 t)
  ot : ∃ (a b0 b1 b2 : Addr), mg "OTHERS" = some (.ref a) ∧ (∀ H, SqT K H a [.ref b0, .ref b1, .ref b2]) ∧ (∀ H, SqT K H b0 [.int 1, .int 2]) ∧ (∀ H, SqT K H b1 [.int 0, .int 2]) ∧ ∀ H, SqT K H b2 [.int 0, .int 1]
section
variable {P : Program} {w : World} {K : PySem.W.Frag} {mg : Str → Option Value} {base : Heap} {f : Addr} {fd : FuncData}
theorem c_is_integer (T : Bt mg) (F : FnP K "is_integer" s_is_integer f fd) (hm : mg "is_integer" = some (.ref f)) : Cal P w K mg base 1 "is_integer" (spIsInt K) := by
  have hnd := sc_is_integer.nd
  refine cal_mk F hm sc_is_integer (fun _ _ _ _ _ _ us hl => match us, hl with | [_], _ => rfl) (fun vs H Q E h => ?_) (fun cdv A outer s H vs Q E hr h => ?_)
  · obtain ⟨v, rfl, h⟩ := h
    rfl
  · obtain ⟨v, rfl, h⟩ := h
    refine ⟨_, (pss_one (ps_ret (pe_and (pe_callB call_isi (by rfl) T.m_isinstance (by decide +kernel) (pa_cons (pv 0) (pa_cons (pe_bltn (v := .ty "int") (by rfl) T.m_int (by decide +kernel) rfl) pa_nil))) (pe_one (pe_not (pe_callB call_isi (by rfl) T.m_isinstance (by decide +kernel) (pa_cons (pv 0) (pa_cons (pe_bltn (v := .ty "bool") (by rfl) T.m_bool (by decide +kernel) rfl) pa_nil)))))))), ?_⟩
    rcases h with ⟨i, rfl, q⟩ | ⟨⟨Tn, ty, k⟩, q⟩
    · exact ⟨_, rfl, _, _, _, _, _, rfl, .ty _, .base (.int i), kit_ty (by decide +kernel : kitB "int" "int" = some true), _, rfl, iteT ⟨_, rfl, _, _, _, _, _, rfl, .ty _, .base (.int i), kit_ty (by decide +kernel : kitB "int" "bool" = some false), _, rfl, q⟩⟩
    · rcases k with k | ⟨k1, k2⟩
      · exact ⟨_, rfl, _, _, _, _, _, rfl, .ty _, ty, kit_ty k, _, rfl, iteF q⟩
      · exact ⟨_, rfl, _, _, _, _, _, rfl, .ty _, ty, kit_ty k1, _, rfl, iteT ⟨_, rfl, _, _, _, _, _, rfl, .ty _, ty, kit_ty k2, _, rfl, q⟩⟩
theorem c_is_thing (k_is_integer : Cal P w K mg base 1 "is_integer" (spIsInt K)) (F : FnP K "is_thing" s_is_thing f fd) (hm : mg "is_thing" = some (.ref f)) : Cal P w K mg base 2 "is_thing" (spIsThing K) := by
  have hnd := sc_is_thing.nd
  refine cal_mk F hm sc_is_thing (fun _ _ _ _ _ _ us hl => match us, hl with | [_, _], _ => rfl) (fun vs H Q E h => ?_) (fun cdv A outer s H vs Q E hr h => ?_)
  · obtain ⟨n, v, b, rfl, _⟩ := h
    rfl
  · obtain ⟨n, v, b, rfl, h, q⟩ := h
    refine ⟨_, (pss_one (ps_ret (pe_and (pe_cal k_is_integer hr (by omega) (by rfl) (pa_cons (pv 1) pa_nil)) (pe_one (pe_chain op_le op_lt pe_int (pv 1) (pv 0)))))), ?_⟩
    rcases h with ⟨i, rfl, rfl⟩ | ⟨no, rfl⟩
    · refine ⟨_, rfl, .int i, rfl, .inl ⟨i, rfl, _, rfl, iteT ?_⟩⟩
      refine ⟨_, rfl, _, _, rfl, rfl, _, rfl, ?_⟩
      by_cases c : 0 ≤ i
      · refine iteT2 (decide_eq_true c) ⟨_, rfl, _, _, rfl, rfl, ?_⟩
        rw [show decide (0 ≤ i ∧ i < (n : Int)) = decide (i < (n : Int)) by simp [c]] at q
        exact q
      · rw [show decide (0 ≤ i ∧ i < (n : Int)) = false by simp [c]] at q
        exact iteN2 (decide_eq_false c) q
    · exact ⟨_, rfl, v, rfl, .inr ⟨no, _, rfl, iteF q⟩⟩
theorem c_key (BC : BgC K mg) (F : FnP K "_key" s_key f fd) (hm : mg "_key" = some (.ref f)) : Cal P w K mg base 1 "_key" spKey := by
  have hnd := sc_key.nd
  obtain ⟨tm, hmo⟩ := BC.mo
  refine cal_mk F hm sc_key (fun _ _ _ _ _ _ us hl => match us, hl with | [_, _], _ => rfl) (fun vs H Q E h => ?_) (fun cdv A outer s H vs Q E hr h => ?_)
  · obtain ⟨a, b, rfl, _⟩ := h
    rfl
  · obtain ⟨a, b, rfl, h1, h2, q⟩ := h
    refine ⟨_, (pss_one (ps_ret (pe_op op_add (pe_op op_mul (pv 0) (pe_glob (v := .int 600) (by rfl) hmo ⟨_, rfl⟩)) (pv 1)))), ?_⟩
    refine ⟨_, rfl, _, _, rfl, rfl, .inl ⟨by omega, by omega⟩, _, rfl, _, _, rfl, rfl, ?_⟩
    have e : (fun i j : Int => V.int (i + j)) ((a : Int) * 600) (b : Int) = V.int ((a * 600 + b : Nat) : Int) := by
      show V.int _ = V.int _
      congr 1
    show Q _ H
    rw [e]
    exact q
end
end L2.K15
set_option Elab.async false
set_option linter.all false
set_option maxRecDepth 100000
set_option maxHeartbeats 8000000
namespace L2.K15
open PySem PySem.Spec PyProof.Rows L2.Tb
open SX (S)
/-! ### what is told of a triple -/
/-- not a tuple -/
structure NoT (K : PySem.W.Frag) (H : Hp) (x : V) : Prop where
  ex : ∃ t, TyX K H x t ∧ PySem.W.kitOne K t (.type "tuple") = some false
theorem NoI.same {K : PySem.W.Frag} {H H' : Hp} {v : V} (h : NoI K H v) (s : Same H H') : NoI K H' v := let ⟨t, a, b⟩ := h; ⟨t, tyx_same s a, b⟩
theorem IsTh.same {K : PySem.W.Frag} {H H' : Hp} {n : Nat} {v : V} {b : Bool} (h : IsTh K H n v b) (s : Same H H') : IsTh K H' n v b := h.imp id fun z => ⟨z.1.same s, z.2⟩
theorem isTh_nat {K : PySem.W.Frag} {H : Hp} {n a : Nat} (h : a < n) : IsTh K H n (.int (a : Int)) true := .inl ⟨_, rfl, (decide_eq_true ⟨by omega, by omega⟩).symm⟩
def lacksB (ys : List (V × Bool)) : Bool := decide ((ys.filter fun p => !decide (p.1 = .non)).length = 2) && (ys.filter fun p => !decide (p.1 = .non)).all (·.2)
def spLacks (K : PySem.W.Frag) : Sp := fun vs H Q _ => ∃ (n : Nat) (q : Addr) (ys : List (V × Bool)), vs = [.int (n : Int), .ref q] ∧ H q = some (.tup (ys.map (·.1))) ∧ ys.length ≤ 3 ∧ (∀ p ∈ ys, IsTh K H n p.1 p.2) ∧ ∀ H', Same H H' → Q (.bl (lacksB ys)) H'
def oV : Option Nat → V
  | none => .non
  | some n => .int (n : Int)
/-- the tables stand at tb -/
def Tabs (H : Hp) (tb : Addr) (T : List Trp) : Prop := ∃ d0 d1 d2 : Addr, H tb = some (.tup [.ref d0, .ref d1, .ref d2]) ∧ H d0 = some (.dK (kvT k0 (·.1) T)) ∧ H d1 = some (.dK (kvT k1 (·.2.1) T)) ∧ H d2 = some (.dK (kvT k2 (·.2.2) T))
theorem Tabs.same {H H' : Hp} {tb : Addr} {T : List Trp} (h : Tabs H tb T) (s : Same H H') : Tabs H' tb T := by
  obtain ⟨d0, d1, d2, a, b, c, d⟩ := h
  exact ⟨d0, d1, d2, s _ _ a, s _ _ b, s _ _ c, s _ _ d⟩
def spCompleted : Sp := fun vs H Q _ => ∃ (tb q : Addr) (T : List Trp), vs = [.ref tb, .ref q] ∧ Tabs H tb T ∧
  ((∃ b c : Nat, H q = some (.tup [.non, .int (b : Int), .int (c : Int)]) ∧ b < 600 ∧ c < 600 ∧ ∀ H', Same H H' → Q (oV (lookT T k0 (·.1) (b * 600 + c))) H') ∨
   (∃ a c : Nat, H q = some (.tup [.int (a : Int), .non, .int (c : Int)]) ∧ a < 600 ∧ c < 600 ∧ ∀ H', Same H H' → Q (oV (lookT T k1 (·.2.1) (a * 600 + c))) H') ∨
   (∃ a b : Nat, H q = some (.tup [.int (a : Int), .int (b : Int), .non]) ∧ a < 600 ∧ b < 600 ∧ ∀ H', Same H H' → Q (oV (lookT T k2 (·.2.2) (a * 600 + b))) H'))
section
variable {P : Program} {w : World} {K : PySem.W.Frag} {mg : Str → Option Value} {base : Heap} {f : Addr} {fd : FuncData}
theorem c_completed (T : Bt mg) (BC : BgC K mg) (k_key : Cal P w K mg base 1 "_key" spKey) (F : FnP K "_completed" s_completed f fd) (hm : mg "_completed" = some (.ref f)) : Cal P w K mg base 2 "_completed" spCompleted := by
  have hnd := sc_completed.nd
  obtain ⟨aO, b0, b1, b2, hot, eO, e0, e1, e2⟩ := BC.ot
  refine cal_mk F hm sc_completed (fun _ _ _ _ _ _ us hl => match us, hl with | [_, _], _ => rfl) (fun vs H Q E h => ?_) (fun cdv A outer s H vs Q E hr h => ?_)
  · obtain ⟨tb, q9, T9, rfl, _⟩ := h
    rfl
  · obtain ⟨tb, q9, T9, rfl, ⟨d0, d1, d2, et, f0, f1, f2⟩, h⟩ := h
    refine ⟨_, (pss_cons (ps_set (i := 3) hnd rfl (by first | exact Or.inl rfl | exact Or.inr rfl) (pe_callB (cr_min (by rfl)) (by rfl) T.m_min (by decide +kernel) (pa_cons (pe_lc (own := [("at", 2)]) (by rfl) hnd (pi_range1 (by rfl) T.m_range (pa_cons pe_int pa_nil)) (blkOk_by (own := [("at", 2)]) (N := N_completed) (sc := defScope s_completed) (by decide +kernel)) (fun _ _ _ _ _ => (pg_name (i := 2) hnd rfl (by first | exact Or.inl rfl | exact Or.inr rfl))) (fun _ _ _ _ _ => (pts_one (pt_cmpR op_isN (pe_ix (show IxR _ (rIxT K) from ix_tup) (pv 1) (pv 2) (fun _ _ => rfl)) pe_non (nomark _)))) (fun _ _ _ _ _ => (pv 2))) pa_nil)))
      (pss_cons (ps_asg (pe_ix (show IxR _ (rIxT K) from ix_tup) (pe_glob (v := .ref aO) (by rfl) hot rfl) (pv 3) (fun _ _ => rfl)) (pg_tup (by rfl) (pgs_cons (pg_name (i := 4) hnd rfl (by first | exact Or.inl rfl | exact Or.inr rfl)) (pgs_cons (pg_name (i := 5) hnd rfl (by first | exact Or.inl rfl | exact Or.inr rfl)) pgs_nil))))
      (pss_one (ps_ret (pe_dget1 (Nat.lt_of_le_of_lt (Nat.add_le_add_left (by decide) _) hr.units) (pe_ix (show IxR _ (rIxT K) from ix_tup) (pv 0) (pv 3) (fun _ _ => rfl)) (pe_cal k_key hr (by omega) (by rfl) (pa_cons (pe_ix (show IxR _ (rIxT K) from ix_tup) (pv 1) (pv 4) (fun _ _ => rfl)) (pa_cons (pe_ix (show IxR _ (rIxT K) from ix_tup) (pv 1) (pv 5) (fun _ _ => rfl)) pa_nil))) ⟨by rfl, by rfl, by rfl, by rfl⟩))))), ?_⟩
    have big : ∃ (xs : List V) (pz i1 i2 : Nat) (bz dz : Addr) (f g : Trp → Nat) (a b : Nat), xs.length = 3 ∧ H q9 = some (.tup xs) ∧ ((List.range 3).filter fun j => decide (xs[j]? = some V.non)) = [pz] ∧ [V.ref b0, .ref b1, .ref b2][pz]? = some (.ref bz) ∧ [V.ref d0, .ref d1, .ref d2][pz]? = some (.ref dz) ∧
        (∀ G, SqT K G bz [.int (i1 : Int), .int (i2 : Int)]) ∧ H dz = some (.dK (kvT f g T9)) ∧ xs[i1]? = some (.int (a : Int)) ∧ xs[i2]? = some (.int (b : Int)) ∧ a < 600 ∧ b < 600 ∧ ∀ H', Same H H' → Q (oV (lookT T9 f g (a * 600 + b))) H' := by
      rcases h with ⟨b, c, eq9, hb, hc, q⟩ | ⟨a, c, eq9, ha, hc, q⟩ | ⟨a, b, eq9, ha, hb, q⟩
      · exact ⟨_, 0, 1, 2, b0, d0, _, _, b, c, rfl, eq9, by rfl, rfl, rfl, e0, f0, rfl, rfl, hb, hc, q⟩
      · exact ⟨_, 1, 0, 2, b1, d1, _, _, a, c, rfl, eq9, by rfl, rfl, rfl, e1, f1, rfl, rfl, ha, hc, q⟩
      · exact ⟨_, 2, 0, 1, b2, d2, _, _, a, b, rfl, eq9, by rfl, rfl, rfl, e2, f2, rfl, rfl, ha, hb, q⟩
    obtain ⟨xs, pz, i1, i2, bz, dz, ff, gg, a, b, xl, eq9, hpz, hbz, hdz, eb, ed, x1, x2, ha, hb, q⟩ := big
    refine ⟨_, rfl, by decide, by decide, fun D nD => ?_⟩
    refine lc_range (n := 3) (fun j G => Same H G ∧ G D = some (.lst (((List.range j).filter fun j => decide (xs[j]? = some V.non)).map fun j : Nat => V.int (j : Int)))) ⟨same_new nD, upd_same⟩ ?_ ?_
    · rintro j G hj ⟨sg, eg⟩
      rw [Int.zero_add]
      obtain ⟨x, hx⟩ : ∃ x, xs[j]? = some x := ⟨_, List.getElem?_eq_getElem (by omega)⟩
      refine ⟨rfl, _, rfl, _, rfl, q9, _, _, x, rfl, rfl, SqT.of (sg _ _ eq9), atI_nat hx, rfl, _, rfl, ?_⟩
      have fs : ((List.range (j + 1)).filter fun j => decide (xs[j]? = some V.non)) = ((List.range j).filter fun j => decide (xs[j]? = some V.non)) ++ [j].filter fun j => decide (xs[j]? = some V.non) := by
        rw [List.range_succ, List.filter_append]
      have fl : ((List.range j).filter fun j => decide (xs[j]? = some V.non)).length ≤ 3 := by
        refine Nat.le_trans (List.length_filter_le ..) ?_
        rw [List.length_range]
        omega
      by_cases c : x = V.non
      · refine iteT2 (decide_eq_true c) ⟨_, rfl, _, eg, by rw [List.length_map, sizeLine_eq]; omega, same_put nD sg, ?_⟩
        rw [fs, List.filter_cons_of_pos (by rw [hx, c]; exact decide_eq_true rfl), List.filter_nil, List.map_append, upd_same]
        rfl
      · refine iteN2 (decide_eq_false c) ⟨sg, ?_⟩
        rw [fs, List.filter_cons_of_neg (by rw [hx, decide_eq_false fun z => c (Option.some.inj z)]; decide), List.filter_nil, List.append_nil]
        exact eg
    · rintro G ⟨sg, eg⟩
      rw [hpz] at eg
      refine ⟨D, [(pz : Int)], rfl, SqL.of eg, Nat.succ_pos _, fun m hm _ => gname_go ?_⟩
      rw [List.mem_singleton.mp hm]
      try dsimp only
      refine ⟨_, rfl, aO, _, _, .ref bz, rfl, rfl, eO G, atI_nat hbz, bz, _, rfl, eb G, rfl, _, _, rfl, _, _, rfl, rfl, ?_⟩
      try dsimp only
      refine ⟨_, rfl, _, rfl, tb, _, _, .ref dz, rfl, rfl, SqT.of (sg _ _ et), atI_nat hdz, dz, rfl, .inl ⟨_, .inl (sg _ _ ed)⟩, ?_⟩
      refine ⟨_, rfl, _, rfl, q9, _, _, _, rfl, rfl, SqT.of (sg _ _ eq9), atI_nat x1, _, rfl, _, rfl, q9, _, _, _, rfl, rfl, SqT.of (sg _ _ eq9), atI_nat x2, a, b, rfl, ha, hb, ?_⟩
      refine ⟨_, .inl ⟨_, kN (a * 600 + b), .inl (sg _ _ ed), rfl, rfl⟩, ?_⟩
      rw [lookT_val]
      have := q G sg
      cases e : lookT T9 ff gg (a * 600 + b) with
      | none => rw [e] at this; exact this
      | some n => rw [e] at this; exact this
end
end L2.K15
set_option Elab.async false
set_option linter.all false
set_option maxRecDepth 100000
set_option maxHeartbeats 4000000
/-! for i, x in enumerate(t), t a list or a tuple -/
namespace L2.Tb
open PySem PySem.Spec PyProof.Rows
def iEnumA (K : PySem.W.Frag) (ta : TA) : TI := fun σ H R => iEnumT K ta σ H R ∨ iEnum K ta σ H R
theorem pi_enumA {X : Cx} {e : Expr} {ta : TA} {p pos tpos : Pos} {elts : List Expr} {kk : Nat} (hg : Gl X "enumerate") (hm : X.mg "enumerate" = none) (ha : PA X [e] ta) (hs : starEach [e] X.env = [(false, eval e X.env)] := by rfl) :
    PI X (.Tuple elts kk tpos) (.Call (.Name "enumerate" p) [e] [] pos) (iEnumA X.K ta) :=
  ⟨fun pins s σ H R I h => h.elim (fun h => (pi_enumT hg hm ha hs).run pins s σ H R I h) fun h => (pi_enum hg hm ha hs).run pins s σ H R I h⟩
/-- a tuple (true) or a list -/
def SqX (b : Bool) (K : PySem.W.Frag) (H : Hp) (a : Addr) (xs : List V) : Prop := if b = true then SqT K H a xs else SqL K H a xs
theorem SqX.same {b : Bool} {K : PySem.W.Frag} {H H' : Hp} {a : Addr} {xs : List V} (h : SqX b K H a xs) (s : Same H H') : SqX b K H' a xs := by
  cases b with
  | true =>
    rcases h with (h | ⟨o, h⟩) | h
    · exact .inl (.inl (s _ _ h))
    · exact .inl (.inr ⟨o, s _ _ h⟩)
    · exact .inr h
  | false =>
    rcases h with (h | ⟨o, h⟩) | h
    · exact .inl (.inl (s _ _ h))
    · exact .inl (.inr ⟨o, s _ _ h⟩)
    · exact .inr h
theorem SqX.seq {b : Bool} {K : PySem.W.Frag} {H : Hp} {a : Addr} {xs : List V} (h : SqX b K H a xs) : SqL K H a xs ∨ SqT K H a xs := by
  cases b with
  | true => exact .inr h
  | false => exact .inl h
theorem for_enumA {K : PySem.W.Frag} {a : Addr} {xs : List V} {ta : TA} {g : TG} {tb : TS} {D : Ends} {σ : St} {H : Hp} (b : Bool) (hta : ∀ R : List V → Hp → Prop, R [.ref a] H → ta σ H R) (Pv : Nat → St → Hp → Prop) (h0 : Pv 0 σ H) (hl : ∀ i σ H, i ≤ xs.length → Pv i σ H → SqX b K H a xs)
    (hs : ∀ i x σ H T, xs[i]? = some x → Pv i σ H → H T = none → g (.ref T) σ (upd H T (.tup [.int (i : Nat), x])) fun σ2 H2 => tb { D with nx := Pv (i + 1), ct := Pv (i + 1), bk := D.nx } σ2 H2) (hd : ∀ σ H, Pv xs.length σ H → D.nx σ H) :
    tFor (iEnumA K ta) g tb D σ H := by
  cases b with
  | true => exact .inl (hta _ ⟨a, xs, rfl, hl 0 σ H (Nat.zero_le _) h0, for_enumT Pv h0 hl hs hd⟩)
  | false =>
    refine .inr (hta _ ⟨a, xs, rfl, hl 0 σ H (Nat.zero_le _) h0, ?_⟩)
    refine ⟨fun i m σ H => m = xs.length - i ∧ i ≤ xs.length ∧ Pv i σ H, ⟨xs.length, by simp, Nat.zero_le _, h0⟩, ?_⟩
    rintro i m σ H ⟨rfl, hi, p⟩
    have q : SqL K H a xs := hl i σ H hi p
    by_cases hlt : i < xs.length
    · refine .inr ⟨⟨xs, xs[i], q, by simp [hlt]⟩, Pv (i + 1), fun σ' H' p' => ⟨xs.length - (i + 1), by omega, rfl, hlt, p'⟩, fun x H' y => ?_⟩
      obtain ⟨T, z, rfl, nT, rfl, hz⟩ := y
      exact hs i z σ H T (hz xs q) p nT
    · have e : i = xs.length := by omega
      subst e
      exact .inl ⟨⟨xs, q, Nat.le_refl _⟩, hd σ H p⟩
end L2.Tb
set_option Elab.async false
set_option linter.all false
set_option maxRecDepth 100000
set_option maxHeartbeats 8000000
namespace L2.K15
open PySem PySem.Spec PyProof.Rows L2.Tb
open SX (S)
abbrev s_with_triples : Stmt := top 56
abbrev N_with_triples : List Str := ["kind", "tables", "triples", "firsts", "seconds", "mixes", "index", "triple", "i", "j", "k", "first", "second", "mixed"]
theorem sc_with_triples : FnScope N_with_triples ["kind", "tables", "triples"] (defScope s_with_triples) := ⟨rfl, rfl, rfl, by decide +kernel, rfl, by decide +kernel, by decide +kernel⟩
def TrpAt (H : Hp) (q : Addr) (t : Trp) : Prop := H q = some (.tup (tV t))
def ErrI (H : Hp) (C : Addr) (E : XK) (i : Nat) : Prop := ∀ d H', Same H H' → H d = none → H' d = some (.xd [("index", .int (i : Int))]) → E (.ref C) (some d) H'
structure WT (H : Hp) (D0 D1 D2 : Addr) (T : List Trp) (G : Hp) : Prop where
  s : Same H G
  e0 : G D0 = some (.dK (kvT k0 (·.1) T))
  e1 : G D1 = some (.dK (kvT k1 (·.2.1) T))
  e2 : G D2 = some (.dK (kvT k2 (·.2.2) T))
theorem WT.same {H G G' : Hp} {D0 D1 D2 : Addr} {T : List Trp} (h : WT H D0 D1 D2 T G) (s : Same G G') : WT H D0 D1 D2 T G' := ⟨h.s.trans s, s _ _ h.e0, s _ _ h.e1, s _ _ h.e2⟩
theorem bd_eq {s t : Trp} (hs : Bd 600 s) (ht : Bd 600 t) : (k0 s = k0 t → s.1 = t.1 → s = t) ∧ (k1 s = k1 t → s.2.1 = t.2.1 → s = t) ∧ (k2 s = k2 t → s.2.2 = t.2.2 → s = t) := by
  obtain ⟨a, b, c⟩ := s
  obtain ⟨a', b', c'⟩ := t
  obtain ⟨h1, h2, h3⟩ := hs
  obtain ⟨g1, g2, g3⟩ := ht
  refine ⟨fun e1 e2 => ?_, fun e1 e2 => ?_, fun e1 e2 => ?_⟩
  · have e2 : a = a' := e2
    obtain ⟨e3, e4⟩ := key_inj (a := b) (b := c) (c := b') (d := c') h3 g3 e1
    rw [e2, e3, e4]
  · have e2 : b = b' := e2
    obtain ⟨e3, e4⟩ := key_inj (a := a) (b := c) (c := a') (d := c') h3 g3 e1
    rw [e2, e3, e4]
  · have e2 : c = c' := e2
    obtain ⟨e3, e4⟩ := key_inj (a := a) (b := b) (c := a') (d := b') h2 g2 e1
    rw [e2, e3, e4]
theorem look_in {T : List Trp} (h : TOk 600 T) {t : Trp} (b : Bd 600 t) : (lookT T k2 (·.2.2) (k2 t) = some t.2.2) ↔ t ∈ T := by
  constructor
  · intro e
    unfold lookT at e
    cases e1 : T.find? fun s => decide (k2 s = k2 t) with
    | none => rw [e1] at e; cases e
    | some s =>
      rw [e1] at e
      have h1 := List.mem_of_find?_eq_some e1
      have h2 := List.find?_some e1
      rw [← (bd_eq (h.bd s h1) b).2.2 (of_decide_eq_true h2) (Option.some.inj e)]
      exact h1
  · exact fun ht => lookT_mem (fun s hs e => h.c2 s hs t ht e) ht
theorem valF_look {f g : Trp → Nat} {T : List Trp} {x : Trp} (h : ∃ s ∈ T, f s = f x) (u : ∀ s ∈ T, ∀ t ∈ T, f s = f t → s = t) : ∃ s ∈ T, f s = f x ∧ valV (kvT f g T) (kN (f x)) = some (.int ((g s : Nat) : Int)) := by
  obtain ⟨s, hs, e⟩ := h
  exact ⟨s, hs, e, by rw [← e]; exact valF_mem (fun r hr er => u r hr s hs er) hs⟩
def okU (u : Turn) : Bool := [(0 : Int), 1, 2].contains u.1 && ([(0 : Int), 1, 2].contains u.2.1 && [(0 : Int), 1, 2].contains u.2.2)
theorem lots_okU : ∀ z ∈ wordsD, (lotOf z).all okU = true := by decide +kernel
theorem lots_len6 : ∀ z ∈ wordsD, (lotOf z).length ≤ 6 := by decide +kernel
theorem pl_at {t : Trp} {i : Int} (h : [(0 : Int), 1, 2].contains i = true) : atI (tV t) i = some (.int ((pl t i : Nat) : Int)) := by
  have h : i = 0 ∨ i = 1 ∨ i = 2 := by simpa using h
  rcases h with rfl | rfl | rfl
  · exact atI_nat (j := 0) rfl
  · exact atI_nat (j := 1) rfl
  · exact atI_nat (j := 2) rfl
theorem add1_len {T T' : List Trp} {x : Trp} (e : add1 T x = some T') : T'.length ≤ T.length + 1 := by
  unfold add1 at e
  split at e
  · cases e
    omega
  · split at e
    · cases e
    · cases e
      rw [List.length_append, List.length_singleton]
      exact Nat.le_refl _
theorem setd_val {f g : Trp → Nat} {T : List Trp} {x : Trp} {v : V} (u : ∀ s ∈ T, ∀ t ∈ T, f s = f t → s = t) (hv : valV (kvT f g T) (kN (f x)) = some v) : ∃ s ∈ T, f s = f x ∧ v = .int ((g s : Nat) : Int) := by
  by_cases c : ∃ s ∈ T, f s = f x
  · obtain ⟨s, hs, es, ev⟩ := valF_look (g := g) c u
    rw [ev] at hv
    exact ⟨s, hs, es, (Option.some.inj hv).symm⟩
  · rw [valF_none fun s hs es => c ⟨s, hs, es⟩] at hv
    cases hv
theorem setd_none {f g : Trp → Nat} {T : List Trp} {x : Trp} (u : ∀ s ∈ T, ∀ t ∈ T, f s = f t → s = t) (hn : valV (kvT f g T) (kN (f x)) = none) : ∀ s ∈ T, f s ≠ f x := fun s hs es => by
  obtain ⟨s2, hs2, es2, ev⟩ := valF_look (g := g) (x := x) ⟨s, hs, es⟩ u
  rw [ev] at hn
  cases hn
theorem setd_put {f g : Trp → Nat} {T : List Trp} {x : Trp} (hn : valV (kvT f g T) (kN (f x)) = none) : putK (kvT f g T) (kN (f x)) (.int ((g x : Nat) : Int)) = kvT f g (T ++ [x]) := by rw [putK_new _ hn, ← kvT_app]
theorem kvT_len {f g : Trp → Nat} {T : List Trp} (h : T.length < sizeLine) : (kvT f g T).length < sizeLine := by unfold kvT; rw [List.length_map]; exact h
theorem addA_cons {lot : List Turn} {T : List Trp} {i : Nat} {t : Trp} {ts : List Trp} : addA lot T i (t :: ts) = match addT lot T t with
    | none => .error i
    | some T' => addA lot T' (i + 1) ts := rfl
theorem addL_cons {T : List Trp} {x : Trp} {xs : List Trp} : addL T (x :: xs) = match add1 T x with
    | none => none
    | some T' => addL T' xs := rfl
theorem addT_pos {lot : List Turn} {T : List Trp} {t : Trp} (h : t ∈ T) : addT lot T t = some T := if_pos h
theorem addT_neg {lot : List Turn} {T : List Trp} {t : Trp} (h : t ∉ T) : addT lot T t = addL T (lot.map (imgT t)) := if_neg h
theorem add1_pos {T : List Trp} {x : Trp} (h : x ∈ T) : add1 T x = some T := if_pos h
theorem add1_hit {T : List Trp} {x s : Trp} (h : x ∉ T) (hs : s ∈ T) (e : k0 s = k0 x ∨ k1 s = k1 x ∨ k2 s = k2 x) : add1 T x = none := by
  unfold add1
  rw [if_neg h, if_pos]
  exact List.any_eq_true.mpr ⟨s, hs, decide_eq_true e⟩
theorem add1_new {T : List Trp} {x : Trp} (h : ∀ s ∈ T, k0 s ≠ k0 x ∧ k1 s ≠ k1 x ∧ k2 s ≠ k2 x) : add1 T x = some (T ++ [x]) := by
  unfold add1
  rw [if_neg fun m => (h x m).1 rfl, if_neg]
  intro z
  obtain ⟨s, hs, e⟩ := List.any_eq_true.mp z
  have e := of_decide_eq_true e
  exact e.elim (h s hs).1 fun e => e.elim (h s hs).2.1 (h s hs).2.2
def spWith (K : PySem.W.Frag) (C CC : Addr) : Sp := fun vs H Q E => ∃ (tk tb L : Addr) (z : Str) (b bq : Bool) (T ts : List Trp) (qs : List Addr), vs = [.ref tk, .ref tb, .ref L] ∧ KindAt C H tk z b ∧ wordsD.contains z = true ∧ Tabs H tb T ∧ TOk 600 T ∧ T.length ≤ 100000 ∧ SqX bq K H L (qs.map V.ref) ∧ Paired (TrpAt H) qs ts ∧ (∀ t ∈ ts, Bd 600 t) ∧ ts.length ≤ 100000 ∧
  (match addA (lotOf z) T 0 ts with
    | .ok T' => ∀ tb' H', Same H H' → Tabs H' tb' T' → Q (.ref tb') H'
    | .error i => ErrI H CC E i)
section
variable {P : Program} {w : World} {K : PySem.W.Frag} {mg : Str → Option Value} {base : Heap} {f : Addr} {fd : FuncData} {C CC dL CT CF pl9 gl9 : Addr} {fdl : FuncData} {es : Array DictEntry} {n : Nat}
theorem c_with_triples (T : Bt mg) (mdict : mg "dict" = none) (KF : KiF P w K mg base C dL CT CF es n) (PL : PropOf K C "lot" pl9 gl9) (FL : FnOk P w K mg base L2.CX0 1 gl9 fdl ["self"] (spKlot K C)) (BL : Binds K fdl ["self"] []) (k_key : Cal P w K mg base 1 "_key" spKey)
    (eClash : ErC P w K mg base "Clash" "index" bVE CC) (tyClash : PySem.W.typeIn K (.ref CC) = some (.type "type")) (F : FnP K "_with_triples" s_with_triples f fd) (hm : mg "_with_triples" = some (.ref f)) : CalX P w K mg base 3 "_with_triples" (spWith K C CC) := by
  have hnd := sc_with_triples.nd
  refine calX_of F hm (fun _ _ _ _ _ _ us hl => match us, hl with | [_, _, _], _ => rfl) (F.ok sc_with_triples (fun vs H Q E h => ?_) (fun cdv A outer s H vs Q E hr h => ?_))
  · obtain ⟨tk, tb, L, z, b, bq, T9, ts, qs, rfl, _⟩ := h
    rfl
  · obtain ⟨tk, tb, L, z, b, bq, T9, ts, qs, rfl, ⟨dx, ek⟩, hz, tt, tok, l9, sq, pq, bts, lts, q⟩ := h
    refine ⟨_, (pss_cons (ps_set (i := 3) hnd rfl (by first | exact Or.inl rfl | exact Or.inr rfl) (pe_callTy call_dictD (by rfl) mdict (by decide +kernel) (pa_cons (pe_ix (show IxR _ (rIxT K) from ix_tup) (pv 1) pe_int (fun _ _ => rfl)) pa_nil)))
      (pss_cons (ps_set (i := 4) hnd rfl (by first | exact Or.inl rfl | exact Or.inr rfl) (pe_callTy call_dictD (by rfl) mdict (by decide +kernel) (pa_cons (pe_ix (show IxR _ (rIxT K) from ix_tup) (pv 1) pe_int (fun _ _ => rfl)) pa_nil)))
      (pss_cons (ps_set (i := 5) hnd rfl (by first | exact Or.inl rfl | exact Or.inr rfl) (pe_callTy call_dictD (by rfl) mdict (by decide +kernel) (pa_cons (pe_ix (show IxR _ (rIxT K) from ix_tup) (pv 1) pe_int (fun _ _ => rfl)) pa_nil)))
      (pss_cons (ps_for (passes_of rfl) (by rfl) (pi_enumA (by rfl) T.m_enumerate (pa_cons (pv 2) pa_nil)) (pg_tup (by rfl) (pgs_cons (pg_name (i := 6) hnd rfl (by first | exact Or.inl rfl | exact Or.inr rfl)) (pgs_cons (pg_name (i := 7) hnd rfl (by first | exact Or.inl rfl | exact Or.inr rfl)) pgs_nil)))
      (pss_cons (ps_if (pt_cmpR op_eq (pe_dget1 (Nat.lt_of_le_of_lt (Nat.add_le_add_left (by decide) _) hr.units) (pv 5) (pe_cal k_key hr (by omega) (by rfl) (pa_cons (pe_ix (show IxR _ (rIxT K) from ix_tup) (pv 7) pe_int (fun _ _ => rfl)) (pa_cons (pe_ix (show IxR _ (rIxT K) from ix_tup) (pv 7) pe_int (fun _ _ => rfl)) pa_nil))) ⟨by rfl, by rfl, by rfl, by rfl⟩) (pe_ix (show IxR _ (rIxT K) from ix_tup) (pv 7) pe_int (fun _ _ => rfl)) (nomark _))
      (pss_one ps_continue)
      pss_nil)
      (pss_one (ps_for (passes_of rfl) (by rfl) (pi_tup (pe_prop (E := L2.E0) (pv 0) KF.cls PL FL (hr.mono (by omega)) BL .nil (fun _ _ _ _ _ _ _ h => h.elim) (by rfl))) (pg_tup (by rfl) (pgs_cons (pg_name (i := 8) hnd rfl (by first | exact Or.inl rfl | exact Or.inr rfl)) (pgs_cons (pg_name (i := 9) hnd rfl (by first | exact Or.inl rfl | exact Or.inr rfl)) (pgs_cons (pg_name (i := 10) hnd rfl (by first | exact Or.inl rfl | exact Or.inr rfl)) pgs_nil))))
      (pss_cons (ps_par3 (i := 11) (j := 12) (l := 13) (by rfl) hnd rfl rfl rfl (by decide) (by decide) (by decide) (by rfl) (by rfl) (by rfl) (pa_cons (pe_ix (show IxR _ (rIxT K) from ix_tup) (pv 7) (pv 8) (fun _ _ => rfl)) (pa_cons (pe_ix (show IxR _ (rIxT K) from ix_tup) (pv 7) (pv 9) (fun _ _ => rfl)) (pa_cons (pe_ix (show IxR _ (rIxT K) from ix_tup) (pv 7) (pv 10) (fun _ _ => rfl)) pa_nil))) (by rfl))
      (pss_one (ps_if (PW.pt (pw_or (pt_cmpR op_ne (pe_dsetd (pv 3) (pe_cal k_key hr (by omega) (by rfl) (pa_cons (pv 12) (pa_cons (pv 13) pa_nil))) (pv 11) ⟨by rfl, by rfl, by rfl, by rfl⟩) (pv 11) (nomark _)) (pw_or (pt_cmpR op_ne (pe_dsetd (pv 4) (pe_cal k_key hr (by omega) (by rfl) (pa_cons (pv 11) (pa_cons (pv 13) pa_nil))) (pv 12) ⟨by rfl, by rfl, by rfl, by rfl⟩) (pv 12) (nomark _)) (pw_or1 (pt_cmpR op_ne (pe_dsetd (pv 5) (pe_cal k_key hr (by omega) (by rfl) (pa_cons (pv 11) (pa_cons (pv 12) pa_nil))) (pv 13) ⟨by rfl, by rfl, by rfl, by rfl⟩) (pv 13) (nomark _))))))
      (pss_one (ps_raise (by rfl) (takes_of rfl rfl rfl rfl) (pmk_er eClash tyClash hr (by omega) (by rfl) (pv 6))))
      pss_nil)))))))
      (pss_one (ps_ret (pe_tup (pa_cons (pv 3) (pa_cons (pv 4) (pa_cons (pv 5) pa_nil)))))))))), ?_⟩
    obtain ⟨d0, d1, d2, et, f0, f1, f2⟩ := tt
    refine ⟨_, rfl, tb, _, _, .ref d0, rfl, rfl, SqT.of et, atI_nat (j := 0) rfl, d0, _, rfl, .inl f0, fun D0 n0 => gname_go ?_⟩
    try dsimp only
    have s0 := same_new (o := .dK (kvT k0 (·.1) T9)) n0
    refine ⟨_, rfl, tb, _, _, .ref d1, rfl, rfl, SqT.of (s0 _ _ et), atI_nat (j := 1) rfl, d1, _, rfl, .inl (s0 _ _ f1), fun D1 n1 => gname_go ?_⟩
    try dsimp only
    have s1 := same_new (o := .dK (kvT k1 (·.2.1) T9)) n1
    refine ⟨_, rfl, tb, _, _, .ref d2, rfl, rfl, SqT.of (s1 _ _ (s0 _ _ et)), atI_nat (j := 2) rfl, d2, _, rfl, .inl (s1 _ _ (s0 _ _ f2)), fun D2 n2 => gname_go ?_⟩
    try dsimp only
    have s2 := same_new (o := .dK (kvT k2 (·.2.2) T9)) n2
    have w0 : WT H D0 D1 D2 T9 (upd (upd (upd H D0 (.dK (kvT k0 (·.1) T9))) D1 (.dK (kvT k1 (·.2.1) T9))) D2 (.dK (kvT k2 (·.2.2) T9))) := ⟨(s0.trans s1).trans s2, s2 _ _ (s1 _ _ upd_same), s2 _ _ upd_same, upd_same⟩
    have n1H := none_back s0 n1
    have n2H := none_back (s0.trans s1) n2
    have D01 : D0 ≠ D1 := fun z => by
      have := upd_same (H := H) (a := D0) (o := .dK (kvT k0 (·.1) T9))
      rw [← z] at n1
      rw [n1] at this
      cases this
    have D12 : D1 ≠ D2 := fun z => by
      have := upd_same (H := upd H D0 (.dK (kvT k0 (·.1) T9))) (a := D1) (o := .dK (kvT k1 (·.2.1) T9))
      rw [← z] at n2
      rw [n2] at this
      cases this
    have D02 : D0 ≠ D2 := fun z => by
      have := s1 _ _ (upd_same (H := H) (a := D0) (o := .dK (kvT k0 (·.1) T9)))
      rw [← z] at n2
      rw [n2] at this
      cases this
    generalize upd (upd (upd H D0 (.dK (kvT k0 (·.1) T9))) D1 (.dK (kvT k1 (·.2.1) T9))) D2 (.dK (kvT k2 (·.2.2) T9)) = G0 at w0 ⊢
    clear s0 s1 s2 n1 n2
    have ql := pf_len pq
    have zm : z ∈ wordsD := List.contains_iff_mem.mp hz
    have lot6 := lots_len6 z zm
    refine for_enumA (a := L) (xs := qs.map V.ref) bq (fun R h => ⟨_, rfl, h⟩) (fun i σ G => ∃ (Ti : List Trp) (x6 x7 x8 x9 x10 x11 x12 x13 : Option V), σ = [some (.ref tk), some (.ref tb), some (.ref L), some (.ref D0), some (.ref D1), some (.ref D2), x6, x7, x8, x9, x10, x11, x12, x13] ∧ WT H D0 D1 D2 Ti G ∧ TOk 600 Ti ∧ Ti.length ≤ 100000 + 6 * i ∧
      addA (lotOf z) T9 0 ts = addA (lotOf z) Ti i (ts.drop i)) ⟨T9, _, _, _, _, _, _, _, _, rfl, w0, tok, by omega, rfl⟩ (fun i σ G _ h => ?_) ?_ ?_
    · obtain ⟨_, _, _, _, _, _, _, _, _, _, wt, _⟩ := h
      exact sq.same wt.s
    · rintro i x σ G TT hx ⟨Ti, x6, x7, x8, x9, x10, x11, x12, x13, rfl, wt, ti, li, ha⟩ nT
      rw [List.getElem?_map] at hx
      obtain ⟨q9, hq9, rfl⟩ := Option.map_eq_some_iff.mp hx
      obtain ⟨t, ht, hqt⟩ := pairedNth pq hq9
      have il := (List.getElem?_eq_some_iff.mp ht).1
      have bt := bts t (List.mem_of_getElem? ht)
      rw [drop_at ht] at ha
      have wt1 := wt.same (same_new (o := .tup [.int (i : Nat), .ref q9]) nT)
      have eTT := upd_same (H := G) (a := TT) (o := .tup [.int (i : Nat), .ref q9])
      generalize upd G TT (.tup [.int (i : Nat), .ref q9]) = G1 at wt1 eTT ⊢
      refine ⟨TT, _, rfl, SqT.of eTT, rfl, _, _, rfl, _, _, rfl, rfl, ?_⟩
      try dsimp only
      have eq9 := wt1.s _ _ hqt
      refine ⟨_, rfl, D2, rfl, .inl ⟨_, .inl wt1.e2⟩, ?_⟩
      refine ⟨_, rfl, q9, _, _, _, rfl, rfl, SqT.of eq9, atI_nat (j := 0) rfl, _, rfl, q9, _, _, _, rfl, rfl, SqT.of eq9, atI_nat (j := 1) rfl, t.1, t.2.1, rfl, bt.1, bt.2.1, ?_⟩
      refine ⟨_, .inl ⟨_, kN (k2 t), .inl wt1.e2, rfl, rfl⟩, _, rfl, q9, _, _, _, rfl, rfl, SqT.of eq9, atI_nat (j := 2) rfl, ?_⟩
      by_cases hT : t ∈ Ti
      · rw [lookT_val, (look_in ti bt).mpr hT]
        refine ⟨rfl, _, rfl, iteT2 (decide_eq_true rfl) ?_⟩
        refine ⟨Ti, _, _, _, _, _, _, _, _, rfl, wt1, ti, by omega, ?_⟩
        rw [ha, addA_cons, addT_pos hT]
      · rw [lookT_val]
        have hno : lookT Ti k2 (·.2.2) (k2 t) ≠ some t.2.2 := fun z => hT ((look_in ti bt).mp z)
        have hsc : scal (((lookT Ti k2 (·.2.2) (k2 t)).map fun n : Nat => V.int (n : Int)).getD .non) (.int (t.2.2 : Nat)) = true := by
          cases lookT Ti k2 (·.2.2) (k2 t) <;> rfl
        have hdn : decide ((((lookT Ti k2 (·.2.2) (k2 t)).map fun n : Nat => V.int (n : Int)).getD .non) = .int (t.2.2 : Nat)) = false := by
          refine decide_eq_false fun z => hno ?_
          cases c : lookT Ti k2 (·.2.2) (k2 t) with
          | none => rw [c] at z; cases z
          | some n =>
            rw [c] at z
            injection z with z
            rw [show n = t.2.2 by omega]
        refine ⟨hsc, _, rfl, iteN2 hdn ?_⟩
        rw [addA_cons, addT_neg hT] at ha
        dsimp only [tNext]
        refine ⟨_, rfl, tk, dx, _, rfl, wt1.s _ _ ek, tk, z, b, rfl, ⟨dx, wt1.s _ _ ek⟩, hz, fun l LK => ?_⟩
        obtain ⟨us, sl, pu⟩ := LK
        have ul := pf_len pu
        have hlot : ∀ u ∈ lotOf z, okU u = true := fun u hu => List.all_eq_true.mp (lots_okU z zm) u hu
        have iT : i < 100000 := Nat.lt_of_lt_of_le il lts
        refine ⟨l, rfl, ⟨_, sl _⟩, ?_⟩
        refine for_tup (xs := us.map V.ref) (fun j σ G => ∃ (Tj : List Trp) (y8 y9 y10 y11 y12 y13 : Option V), σ = [some (.ref tk), some (.ref tb), some (.ref L), some (.ref D0), some (.ref D1), some (.ref D2), some (.int (i : Nat)), some (.ref q9), y8, y9, y10, y11, y12, y13] ∧ WT H D0 D1 D2 Tj G ∧ TOk 600 Tj ∧ Tj.length ≤ Ti.length + j ∧
          addL Ti ((lotOf z).map (imgT t)) = addL Tj (((lotOf z).drop j).map (imgT t))) ⟨Ti, _, _, _, _, _, _, rfl, wt1, ti, by omega, rfl⟩ (fun j σ G _ h => sl G) ?_ ?_
        · rintro j x σ G2 hxj ⟨Tj, y8, y9, y10, y11, y12, y13, rfl, wj, tj, lj, haj⟩
          rw [List.getElem?_map] at hxj
          obtain ⟨ua, hua, rfl⟩ := Option.map_eq_some_iff.mp hxj
          obtain ⟨u, hu, su⟩ := pairedNth pu hua
          have jl : j < (lotOf z).length := (List.getElem?_eq_some_iff.mp hu).1
          have ou := hlot u (List.mem_of_getElem? hu)
          unfold okU at ou
          have o1 := (He.ba ou).1
          have o2 := (He.ba (He.ba ou).2).1
          have o3 := (He.ba (He.ba ou).2).2
          rw [drop_at hu, List.map_cons] at haj
          refine ⟨ua, turnV u, rfl, su G2, rfl, _, _, rfl, _, _, rfl, _, _, rfl, rfl, ?_⟩
          have eqj := wj.s _ _ hqt
          have sq : ∀ G3, Same G2 G3 → SqT K G3 q9 (tV t) := fun G3 s3 => SqT.of (s3 _ _ eqj)
          refine ⟨_, rfl, _, rfl, q9, _, _, _, rfl, rfl, sq _ (Same.refl _), pl_at o1, _, rfl, _, rfl, q9, _, _, _, rfl, rfl, sq _ (Same.refl _), pl_at o2, _, rfl, _, rfl, q9, _, _, _, rfl, rfl, sq _ (Same.refl _), pl_at o3, ?_⟩
          refine ⟨_, _, _, rfl, ?_⟩
          have bx : Bd 600 (imgT t u) := imgT_bd bt u
          have sz : Tj.length < sizeLine := by rw [sizeLine_eq]; omega
          by_cases hx : imgT t u ∈ Tj
          · rw [addL_cons, add1_pos hx] at haj
            refine ⟨_, rfl, D0, rfl, .inl ⟨_, .inl wj.e0⟩, _, rfl, _, rfl, _, _, rfl, bx.2.1, bx.2.2, _, rfl, _, kN (k0 (imgT t u)), wj.e0, rfl, kvT_len sz, fun v9 hv9 => ?_, fun hn9 => ?_⟩
            · obtain ⟨s, hs, es, rfl⟩ := setd_val tj.c0 hv9
              rw [tj.c0 s hs _ hx es]
              refine ⟨_, rfl, rfl, _, rfl, iteN2 (Eq.trans (congrArg (! ·) (decide_eq_true rfl)) rfl) ?_⟩
              refine ⟨_, rfl, D1, rfl, .inl ⟨_, .inl wj.e1⟩, _, rfl, _, rfl, _, _, rfl, bx.1, bx.2.2, _, rfl, _, kN (k1 (imgT t u)), wj.e1, rfl, kvT_len sz, fun v9 hv9 => ?_, fun hn9 => ?_⟩
              · obtain ⟨s, hs, es, rfl⟩ := setd_val tj.c1 hv9
                rw [tj.c1 s hs _ hx es]
                refine ⟨_, rfl, rfl, _, rfl, iteN2 (Eq.trans (congrArg (! ·) (decide_eq_true rfl)) rfl) ?_⟩
                refine ⟨_, rfl, D2, rfl, .inl ⟨_, .inl wj.e2⟩, _, rfl, _, rfl, _, _, rfl, bx.1, bx.2.1, _, rfl, _, kN (k2 (imgT t u)), wj.e2, rfl, kvT_len sz, fun v9 hv9 => ?_, fun hn9 => ?_⟩
                · obtain ⟨s, hs, es, rfl⟩ := setd_val tj.c2 hv9
                  rw [tj.c2 s hs _ hx es]
                  refine ⟨_, rfl, rfl, _, rfl, iteN2 (Eq.trans (congrArg (! ·) (decide_eq_true rfl)) rfl) ?_⟩
                  exact ⟨Tj, _, _, _, _, _, _, rfl, wj, tj, by omega, haj⟩
                · exact absurd rfl (setd_none tj.c2 hn9 _ hx)
              · exact absurd rfl (setd_none tj.c1 hn9 _ hx)
            · exact absurd rfl (setd_none tj.c0 hn9 _ hx)
          · by_cases c0 : ∃ s ∈ Tj, k0 s = k0 (imgT t u)
            · obtain ⟨s9, hs9, e9⟩ := c0
              refine ⟨_, rfl, D0, rfl, .inl ⟨_, .inl wj.e0⟩, _, rfl, _, rfl, _, _, rfl, bx.2.1, bx.2.2, _, rfl, _, kN (k0 (imgT t u)), wj.e0, rfl, kvT_len sz, fun v9 hv9 => ?_, fun hn9 => ?_⟩
              · obtain ⟨s, hs, es, rfl⟩ := setd_val tj.c0 hv9
                have hd : decide (V.int ((s.1 : Nat) : Int) = V.int (((imgT t u).1 : Nat) : Int)) = false := decide_eq_false fun z => hx (by
                  injection z with z
                  have z : s.1 = (imgT t u).1 := by omega
                  rw [← (bd_eq (tj.bd s hs) bx).1 es z]
                  exact hs)
                refine ⟨_, rfl, rfl, _, rfl, iteT2 (Eq.trans (congrArg (! ·) hd) rfl) ?_⟩
                rw [addL_cons, add1_hit hx hs9 (.inl e9)] at haj
                rw [haj] at ha
                rw [ha] at q
                exact ⟨_, rfl, fun d H3 s3 nd x => q d H3 (wj.s.trans s3) (none_back wj.s nd) x⟩
              · exact absurd e9 (setd_none tj.c0 hn9 s9 hs9)
            · refine ⟨_, rfl, D0, rfl, .inl ⟨_, .inl wj.e0⟩, _, rfl, _, rfl, _, _, rfl, bx.2.1, bx.2.2, _, rfl, _, kN (k0 (imgT t u)), wj.e0, rfl, kvT_len sz, fun v9 hv9 => ?_, fun hn9 => ?_⟩
              · obtain ⟨s, hs, es, rfl⟩ := setd_val tj.c0 hv9
                exact absurd ⟨s, hs, es⟩ c0
              · refine ⟨_, rfl, rfl, _, rfl, iteN2 (Eq.trans (congrArg (! ·) (decide_eq_true rfl)) rfl) ?_⟩
                rw [show putK (kvT k0 (·.1) Tj) (kN (k0 (imgT t u))) (V.int ((pl t u.1 : Nat) : Int)) = kvT k0 (·.1) (Tj ++ [imgT t u]) from setd_put (g := (·.1)) hn9]
                have s1 := same_put (o := .dK (kvT k0 (·.1) (Tj ++ [imgT t u]))) n0 wj.s
                have e10 : (upd G2 D0 (.dK (kvT k0 (·.1) (Tj ++ [imgT t u])))) D0 = some (.dK (kvT k0 (·.1) (Tj ++ [imgT t u]))) := upd_same
                have e11 : (upd G2 D0 (.dK (kvT k0 (·.1) (Tj ++ [imgT t u])))) D1 = some (.dK (kvT k1 (·.2.1) Tj)) := (upd_ne fun z => D01 z.symm).trans wj.e1
                have e12 : (upd G2 D0 (.dK (kvT k0 (·.1) (Tj ++ [imgT t u])))) D2 = some (.dK (kvT k2 (·.2.2) Tj)) := (upd_ne fun z => D02 z.symm).trans wj.e2
                generalize upd G2 D0 (.dK (kvT k0 (·.1) (Tj ++ [imgT t u]))) = G3 at s1 e10 e11 e12 ⊢
                by_cases c1 : ∃ s ∈ Tj, k1 s = k1 (imgT t u)
                · obtain ⟨s9, hs9, e9⟩ := c1
                  refine ⟨_, rfl, D1, rfl, .inl ⟨_, .inl e11⟩, _, rfl, _, rfl, _, _, rfl, bx.1, bx.2.2, _, rfl, _, kN (k1 (imgT t u)), e11, rfl, kvT_len sz, fun v9 hv9 => ?_, fun hn9 => ?_⟩
                  · obtain ⟨s, hs, es, rfl⟩ := setd_val tj.c1 hv9
                    have hd : decide (V.int ((s.2.1 : Nat) : Int) = V.int (((imgT t u).2.1 : Nat) : Int)) = false := decide_eq_false fun z => hx (by
                      injection z with z
                      have z : s.2.1 = (imgT t u).2.1 := by omega
                      rw [← (bd_eq (tj.bd s hs) bx).2.1 es z]
                      exact hs)
                    refine ⟨_, rfl, rfl, _, rfl, iteT2 (Eq.trans (congrArg (! ·) hd) rfl) ?_⟩
                    rw [addL_cons, add1_hit hx hs9 (.inr (.inl e9))] at haj
                    rw [haj] at ha
                    rw [ha] at q
                    exact ⟨_, rfl, fun d H3 s3 nd x => q d H3 (s1.trans s3) (none_back s1 nd) x⟩
                  · exact absurd e9 (setd_none tj.c1 hn9 s9 hs9)
                · refine ⟨_, rfl, D1, rfl, .inl ⟨_, .inl e11⟩, _, rfl, _, rfl, _, _, rfl, bx.1, bx.2.2, _, rfl, _, kN (k1 (imgT t u)), e11, rfl, kvT_len sz, fun v9 hv9 => ?_, fun hn9 => ?_⟩
                  · obtain ⟨s, hs, es, rfl⟩ := setd_val tj.c1 hv9
                    exact absurd ⟨s, hs, es⟩ c1
                  · refine ⟨_, rfl, rfl, _, rfl, iteN2 (Eq.trans (congrArg (! ·) (decide_eq_true rfl)) rfl) ?_⟩
                    rw [show putK (kvT k1 (·.2.1) Tj) (kN (k1 (imgT t u))) (V.int ((pl t u.2.1 : Nat) : Int)) = kvT k1 (·.2.1) (Tj ++ [imgT t u]) from setd_put (g := (·.2.1)) hn9]
                    have s2 := same_put (o := .dK (kvT k1 (·.2.1) (Tj ++ [imgT t u]))) n1H s1
                    have e20 : (upd G3 D1 (.dK (kvT k1 (·.2.1) (Tj ++ [imgT t u])))) D0 = some (.dK (kvT k0 (·.1) (Tj ++ [imgT t u]))) := (upd_ne D01).trans e10
                    have e21 : (upd G3 D1 (.dK (kvT k1 (·.2.1) (Tj ++ [imgT t u])))) D1 = some (.dK (kvT k1 (·.2.1) (Tj ++ [imgT t u]))) := upd_same
                    have e22 : (upd G3 D1 (.dK (kvT k1 (·.2.1) (Tj ++ [imgT t u])))) D2 = some (.dK (kvT k2 (·.2.2) Tj)) := (upd_ne fun z => D12 z.symm).trans e12
                    generalize upd G3 D1 (.dK (kvT k1 (·.2.1) (Tj ++ [imgT t u]))) = G4 at s2 e20 e21 e22 ⊢
                    by_cases c2 : ∃ s ∈ Tj, k2 s = k2 (imgT t u)
                    · obtain ⟨s9, hs9, e9⟩ := c2
                      refine ⟨_, rfl, D2, rfl, .inl ⟨_, .inl e22⟩, _, rfl, _, rfl, _, _, rfl, bx.1, bx.2.1, _, rfl, _, kN (k2 (imgT t u)), e22, rfl, kvT_len sz, fun v9 hv9 => ?_, fun hn9 => ?_⟩
                      · obtain ⟨s, hs, es, rfl⟩ := setd_val tj.c2 hv9
                        have hd : decide (V.int ((s.2.2 : Nat) : Int) = V.int (((imgT t u).2.2 : Nat) : Int)) = false := decide_eq_false fun z => hx (by
                          injection z with z
                          have z : s.2.2 = (imgT t u).2.2 := by omega
                          rw [← (bd_eq (tj.bd s hs) bx).2.2 es z]
                          exact hs)
                        refine ⟨_, rfl, rfl, _, rfl, iteT2 (Eq.trans (congrArg (! ·) hd) rfl) ?_⟩
                        rw [addL_cons, add1_hit hx hs9 (.inr (.inr e9))] at haj
                        rw [haj] at ha
                        rw [ha] at q
                        exact ⟨_, rfl, fun d H3 s3 nd x => q d H3 (s2.trans s3) (none_back s2 nd) x⟩
                      · exact absurd e9 (setd_none tj.c2 hn9 s9 hs9)
                    · refine ⟨_, rfl, D2, rfl, .inl ⟨_, .inl e22⟩, _, rfl, _, rfl, _, _, rfl, bx.1, bx.2.1, _, rfl, _, kN (k2 (imgT t u)), e22, rfl, kvT_len sz, fun v9 hv9 => ?_, fun hn9 => ?_⟩
                      · obtain ⟨s, hs, es, rfl⟩ := setd_val tj.c2 hv9
                        exact absurd ⟨s, hs, es⟩ c2
                      · refine ⟨_, rfl, rfl, _, rfl, iteN2 (Eq.trans (congrArg (! ·) (decide_eq_true rfl)) rfl) ?_⟩
                        rw [show putK (kvT k2 (·.2.2) Tj) (kN (k2 (imgT t u))) (V.int ((pl t u.2.2 : Nat) : Int)) = kvT k2 (·.2.2) (Tj ++ [imgT t u]) from setd_put (g := (·.2.2)) hn9]
                        have hn : ∀ s ∈ Tj, k0 s ≠ k0 (imgT t u) ∧ k1 s ≠ k1 (imgT t u) ∧ k2 s ≠ k2 (imgT t u) := fun s hs => ⟨fun z => c0 ⟨s, hs, z⟩, fun z => c1 ⟨s, hs, z⟩, fun z => c2 ⟨s, hs, z⟩⟩
                        rw [addL_cons, add1_new hn] at haj
                        refine ⟨Tj ++ [imgT t u], _, _, _, _, _, _, rfl, ⟨same_put n2H s2, (upd_ne D02).trans e20, (upd_ne D12).trans e21, upd_same⟩, tj.snoc bx hn, by rw [List.length_append, List.length_singleton]; omega, haj⟩
        · rintro σ G2 ⟨Tj, y8, y9, y10, y11, y12, y13, rfl, wj, tj, lj, haj⟩
          rw [List.length_map, ul, List.drop_length] at haj
          rw [haj] at ha
          refine ⟨Tj, _, _, _, _, _, _, _, _, rfl, wj, tj, ?_, ha⟩
          rw [List.length_map, ul] at lj
          omega
    · rintro σ G ⟨Ti, x6, x7, x8, x9, x10, x11, x12, x13, rfl, wt, ti, li, ha⟩
      rw [List.length_map, ql, List.drop_length] at ha
      rw [ha] at q
      refine ⟨_, rfl, _, rfl, _, rfl, Nat.le_of_ble_eq_true rfl, fun R nR => ?_⟩
      have sR := same_new (o := .tup [.ref D0, .ref D1, .ref D2]) nR
      exact q R _ (wt.s.trans sR) ⟨D0, D1, D2, upd_same, sR _ _ wt.e0, sR _ _ wt.e1, sR _ _ wt.e2⟩
end
end L2.K15
set_option Elab.async false
set_option linter.all false
set_option maxRecDepth 100000
set_option maxHeartbeats 4000000
/-! min(t), max(t), t a tuple of ints -/
namespace L2.Tb
open PySem PySem.Spec PyProof.Rows PySem.W
theorem alikeAll_intD (ns : List Int) : AlikeAll (ns.map PyData.int) := by
  refine ⟨fun x hx y hy => ?_, fun x hx => ?_⟩
  · obtain ⟨i, _, rfl⟩ := List.mem_map.mp hx
    obtain ⟨j, _, rfl⟩ := List.mem_map.mp hy
    rfl
  · obtain ⟨i, _, rfl⟩ := List.mem_map.mp hx
    intro z
    cases z
theorem depthAll_intD : ∀ ns : List Int, PyData.depthAll (ns.map PyData.int) ≤ 1
  | [] => by simp [PyData.depthAll]
  | n :: ns => by
    have := depthAll_intD ns
    simp only [List.map_cons, PyData.depthAll, PyData.depth]
    omega
section
variable {X : Cx}
def rMinT (K : PySem.W.Frag) : List V → Hp → VK → Prop := fun vs H Q => ∃ (a : Addr) (n : Int) (ns : List Int), vs = [V.ref a] ∧ SqT K H a ((n :: ns).map V.int) ∧ Q (.int (ns.foldl min n)) H
def rMaxT (K : PySem.W.Frag) : List V → Hp → VK → Prop := fun vs H Q => ∃ (a : Addr) (n : Int) (ns : List Int), vs = [V.ref a] ∧ SqT K H a ((n :: ns).map V.int) ∧ Q (.int (ns.foldl max n)) H
theorem reads_int {h : Heap} {v : Value} {n : Int} {as : List Addr} (r : Reads h v (.int n) as) : ∃ t, v = .int n t := by
  cases r
  exact ⟨_, rfl⟩
theorem cr_minT (hc : X.calm = true) (hu : X.A.units + 64 < cLine) : CallR X (.builtin "min") (rMinT X.K) := by
  intro pins s σ H vs us Q I r h
  obtain ⟨a, n, ns, rfl, hs, q⟩ := h
  obtain ⟨its, rv, hl, _⟩ := I.tuple hs
  rw [Vals.ref1 r]
  have rd : ReadsAll s.heap its.toArray.toList (PyData.int n :: ns.map PyData.int) [] := readsAll_vals (ns := n :: ns) rv
  have d1 := depthAll_intD (n :: ns)
  refine min_tuple_data (I.ok.hd hc) (let ⟨o, a1, a2, n, a3⟩ := hl; ⟨o, a1, a2, n, a3⟩) rd (alikeAll_intD (n :: ns)) (by rw [List.map_cons] at d1; omega) fun i v h' tk bs _ rr hk => ?_
  rw [minD_ints] at rr
  obtain ⟨t, rfl⟩ := reads_int rr
  exact ⟨.int _, H, I.kept hk, ⟨_, rfl⟩, q⟩
theorem cr_maxT (hc : X.calm = true) (hu : X.A.units + 64 < cLine) : CallR X (.builtin "max") (rMaxT X.K) := by
  intro pins s σ H vs us Q I r h
  obtain ⟨a, n, ns, rfl, hs, q⟩ := h
  obtain ⟨its, rv, hl, _⟩ := I.tuple hs
  rw [Vals.ref1 r]
  have rd : ReadsAll s.heap its.toArray.toList (PyData.int n :: ns.map PyData.int) [] := readsAll_vals (ns := n :: ns) rv
  have d1 := depthAll_intD (n :: ns)
  refine max_tuple_data (I.ok.hd hc) (let ⟨o, a1, a2, n, a3⟩ := hl; ⟨o, a1, a2, n, a3⟩) rd (alikeAll_intD (n :: ns)) (by rw [List.map_cons] at d1; omega) fun i v h' tk bs _ rr hk => ?_
  rw [maxD_ints] at rr
  obtain ⟨t, rfl⟩ := reads_int rr
  exact ⟨.int _, H, I.kept hk, ⟨_, rfl⟩, q⟩
end
end L2.Tb
set_option Elab.async false
set_option linter.all false
set_option maxRecDepth 100000
set_option maxHeartbeats 8000000
namespace L2.K15
open PySem PySem.Spec PyProof.Rows L2.Tb
open SX (S)
abbrev s_check_kind : Stmt := top 41
abbrev N_check_kind : List Str := ["kind"]
theorem sc_check_kind : FnScope N_check_kind ["kind"] (defScope s_check_kind) := ⟨rfl, rfl, rfl, by decide +kernel, rfl, by decide +kernel, by decide +kernel⟩
/-- a kind, or what is none -/
def spCheck (K : PySem.W.Frag) (C CN : Addr) : Sp := fun vs H Q E => ∃ v : V, vs = [v] ∧
  ((∃ (a : Addr) (z : Str) (b : Bool), v = .ref a ∧ KindAt C H a z b ∧ Q .non H) ∨ (∃ t, TyX K H v t ∧ PySem.W.kitOne K t (.ref C) = some false ∧ ∀ d H', Same H H' → H d = none → H' d = some (.xd [("given", v)]) → E (.ref CN) (some d) H'))
section
variable {P : Program} {w : World} {K : PySem.W.Frag} {mg : Str → Option Value} {base : Heap} {f : Addr} {fd : FuncData} {C dL CT CF CN : Addr} {es : Array DictEntry} {n : Nat}
theorem c_check (T : Bt mg) (KF : KiF P w K mg base C dL CT CF es n) (KG : KiG K w mg C dL) (eN : ErC P w K mg base "NotAKind" "given" bVE CN) (tyN : PySem.W.typeIn K (.ref CN) = some (.type "type")) (F : FnP K "check_kind" s_check_kind f fd) : FnOk P w K mg base (L2.CX P w) 3 f fd ["kind"] (spCheck K C CN) := by
  have hnd := sc_check_kind.nd
  refine F.ok sc_check_kind (fun vs H Q E h => ?_) (fun cdv A outer s H vs Q E hr h => ?_)
  · obtain ⟨v, rfl, _⟩ := h
    rfl
  · obtain ⟨v, rfl, h⟩ := h
    refine ⟨_, (pss_one (ps_if (pt_not (pt_val (pe_callB call_isi (by rfl) T.m_isinstance (by decide +kernel) (pa_cons (pv 0) (pa_cons (pe_glob (v := .ref C) (by rfl) KF.mgC rfl) pa_nil)))))
      (pss_one (ps_raise (by rfl) (takes_of rfl rfl rfl rfl) (pmk_er eN tyN hr (by omega) (by rfl) (pv 0))))
      pss_nil)), ?_⟩
    rcases h with ⟨a, z, b, rfl, ⟨dx, e⟩, q⟩ | ⟨t, ty, kn, q⟩
    · exact ⟨_, rfl, _, _, _, _, _, rfl, .own C, .base (.ins e KF.cls KG.ex.ha KG.ex.hn KG.ex.ht KG.ex.hm), KG.self, true, rfl, iteF q⟩
    · exact ⟨_, rfl, _, _, _, _, _, rfl, .own C, ty, kn, false, rfl, iteT ⟨_, rfl, q⟩⟩
end
def ErrG (H : Hp) (C : Addr) (E : XK) (v : V) : Prop := ∀ d H', Same H H' → H d = none → H' d = some (.xd [("given", v)]) → E (.ref C) (some d) H'
def ErrIv (H : Hp) (C : Addr) (E : XK) (v : V) : Prop := ∀ d H', Same H H' → H d = none → H' d = some (.xd [("index", v)]) → E (.ref C) (some d) H'
theorem ErrG.same {H H1 : Hp} {C : Addr} {E : XK} {v : V} (h : ErrG H C E v) (s : Same H H1) : ErrG H1 C E v := fun d H' s2 n e => h d H' (s.trans s2) (none_back s n) e
theorem ErrIv.same {H H1 : Hp} {C : Addr} {E : XK} {v : V} (h : ErrIv H C E v) (s : Same H H1) : ErrIv H1 C E v := fun d H' s2 n e => h d H' (s.trans s2) (none_back s n) e
abbrev s_is_triple : Stmt := top 22
abbrev N_is_triple : List Str := ["value", "thing"]
theorem sc_is_triple : FnScope N_is_triple ["value"] (defScope s_is_triple) := ⟨rfl, rfl, rfl, by decide +kernel, rfl, by decide +kernel, by decide +kernel⟩
abbrev s_check_triples : Stmt := top 49
abbrev N_check_triples : List Str := ["size", "triples", "index", "triple"]
theorem sc_check_triples : FnScope N_check_triples ["size", "triples"] (defScope s_check_triples) := ⟨rfl, rfl, rfl, by decide +kernel, rfl, by decide +kernel, by decide +kernel⟩
abbrev s_check_things : Stmt := top 50
abbrev N_check_things : List Str := ["size", "things", "thing"]
theorem sc_check_things : FnScope N_check_things ["size", "things"] (defScope s_check_things) := ⟨rfl, rfl, rfl, by decide +kernel, rfl, by decide +kernel, by decide +kernel⟩
/-- what a value is to is_integer -/
def IsI (K : PySem.W.Frag) (H : Hp) (v : V) (b : Bool) : Prop := (∃ i : Int, v = .int i ∧ b = true) ∨ (NoI K H v ∧ b = false)
theorem IsI.same {K : PySem.W.Frag} {H H' : Hp} {v : V} {b : Bool} (h : IsI K H v b) (s : Same H H') : IsI K H' v b := h.imp id fun z => ⟨z.1.same s, z.2⟩
theorem noI_int {K : PySem.W.Frag} {H : Hp} {i : Int} (h : NoI K H (.int i)) : False := by
  obtain ⟨Tn, ty, k⟩ := h
  cases ty with
  | base z =>
    cases z
    rcases k with k | ⟨_, k⟩
    · exact absurd k (by decide +kernel)
    · exact absurd k (by decide +kernel)
theorem isTh_int {K : PySem.W.Frag} {H : Hp} {n a : Nat} {b : Bool} (h : IsTh K H n (.int (a : Int)) b) (ha : a < n) : b = true := by
  rcases h with ⟨i, e, hb⟩ | ⟨h, _⟩
  · injection e with e
    rw [hb]
    exact decide_eq_true (by omega)
  · exact (noI_int h).elim
/-- what a value is to is_triple -/
inductive TrV (K : PySem.W.Frag) (H : Hp) : V → Bool → Prop
  | no {v : V} (h : NoT K H v) : TrV K H v false
  | tup {q : Addr} (ys : List (V × Bool)) (e : H q = some (.tup (ys.map (·.1)))) (hl : ys.length ≤ 100) (hi : ∀ p ∈ ys, IsI K H p.1 p.2) : TrV K H (.ref q) (decide (ys.length = 3) && ys.all (·.2))
theorem NoT.same {K : PySem.W.Frag} {H H' : Hp} {v : V} (h : NoT K H v) (s : Same H H') : NoT K H' v := ⟨let ⟨t, a, b⟩ := h.ex; ⟨t, tyx_same s a, b⟩⟩
theorem TrV.same {K : PySem.W.Frag} {H H' : Hp} {v : V} {b : Bool} (h : TrV K H v b) (s : Same H H') : TrV K H' v b := by
  cases h with
  | no h => exact .no (h.same s)
  | tup ys e hl hi => exact .tup ys (s _ _ e) hl fun p hp => (hi p hp).same s
theorem trV_trio {K : PySem.W.Frag} {H : Hp} {q : Addr} {i j k : Int} (e : H q = some (.tup [.int i, .int j, .int k])) : TrV K H (.ref q) true :=
  .tup [(.int i, true), (.int j, true), (.int k, true)] e (Nat.le_of_ble_eq_true rfl) fun p hp => .inl (by
    rcases List.mem_cons.mp hp with rfl | hp
    · exact ⟨_, rfl, rfl⟩
    · rcases List.mem_cons.mp hp with rfl | hp
      · exact ⟨_, rfl, rfl⟩
      · rw [List.mem_singleton.mp hp]
        exact ⟨_, rfl, rfl⟩)
def spIsTriple (K : PySem.W.Frag) : Sp := fun vs H Q _ => ∃ (v : V) (b : Bool), vs = [v] ∧ TrV K H v b ∧ ∀ H', Same H H' → Q (.bl b) H'
/-- what a value is as one of the triples of n things -/
def ItemV (K : PySem.W.Frag) (H : Hp) (n : Nat) (v : V) (c : Bool) : Prop := (TrV K H v false ∧ c = false) ∨ ∃ (q : Addr) (i j k : Int), v = .ref q ∧ H q = some (.tup [.int i, .int j, .int k]) ∧ c = decide (0 ≤ i ∧ 0 ≤ j ∧ 0 ≤ k ∧ i < n ∧ j < n ∧ k < n)
theorem ItemV.same {K : PySem.W.Frag} {H H' : Hp} {n : Nat} {v : V} {c : Bool} (h : ItemV K H n v c) (s : Same H H') : ItemV K H' n v c := h.imp (fun z => ⟨z.1.same s, z.2⟩) fun ⟨q, i, j, k, a, b, d⟩ => ⟨q, i, j, k, a, s _ _ b, d⟩
theorem itemV_nat {K : PySem.W.Frag} {H : Hp} {n : Nat} {q : Addr} {t : Trp} (e : TrpAt H q t) (b : Bd n t) : ItemV K H n (.ref q) true := .inr ⟨q, _, _, _, rfl, e, (decide_eq_true (by
  obtain ⟨h1, h2, h3⟩ := b
  omega)).symm⟩
/-- the first that is not right -/
def firstF : Nat → List Bool → Option Nat
  | _, [] => none
  | i, b :: bs => if b = true then firstF (i + 1) bs else some i
theorem firstF_all : ∀ {bs : List Bool} {i : Nat}, (∀ b ∈ bs, b = true) → firstF i bs = none
  | [], _, _ => rfl
  | b :: bs, i, h => by
    unfold firstF
    rw [if_pos (h b List.mem_cons_self)]
    exact firstF_all fun c hc => h c (List.mem_cons_of_mem _ hc)
theorem sqT_ty {K : PySem.W.Frag} {H : Hp} {a : Addr} {xs : List V} (h : SqT K H a xs) : TyX K H (.ref a) (.type "tuple") := by
  rcases h with (h | ⟨o, h⟩) | ⟨o, its, n, h1, h2, _⟩
  · exact .base (.tup h)
  · exact .fTuple h
  · exact .kTuple h1 h2
theorem sqT_same {K : PySem.W.Frag} {H H' : Hp} {a : Addr} {xs : List V} (h : SqT K H a xs) (s : Same H H') : SqT K H' a xs := SqX.same (b := true) h s
theorem sqT_keep {K : PySem.W.Frag} {H H' : Hp} {a b : Addr} {xs : List V} {C dx : Addr} {fs : List (Str × V)} (h : SqT K H a xs) (eb : H b = some (.ins C dx fs)) (s : ∀ c o, c ≠ b → H c = some o → H' c = some o) : SqT K H' a xs := by
  rcases h with (h | ⟨o, h⟩) | h
  · exact .inl (.inl (s _ _ (fun z => by rw [z, eb] at h; cases h) h))
  · exact .inl (.inr ⟨o, s _ _ (fun z => by rw [z, eb] at h; cases h) h⟩)
  · exact .inr h
def spCheckTriples (K : PySem.W.Frag) (CT : Addr) : Sp := fun vs H Q E => ∃ (n : Nat) (v : V), vs = [.int (n : Int), v] ∧ ((NoT K H v ∧ ErrIv H CT E .non) ∨
  ∃ (q : Addr) (ys : List (V × Bool)), v = .ref q ∧ SqT K H q (ys.map (·.1)) ∧ (∀ p ∈ ys, ItemV K H n p.1 p.2) ∧ match firstF 0 (ys.map (·.2)) with
    | none => ∀ H', Same H H' → Q .non H'
    | some i => ErrI H CT E i)
def spCheckThings (K : PySem.W.Frag) (CN : Addr) : Sp := fun vs H Q E => ∃ (n : Nat) (q : Addr) (ys : List (V × Bool)), vs = [.int (n : Int), .ref q] ∧ H q = some (.tup (ys.map (·.1))) ∧ (∀ p ∈ ys, IsTh K H n p.1 p.2) ∧
  match ys.find? (fun p => !p.2) with
    | none => Q .non H
    | some p => ErrG H CN E p.1
section
variable {P : Program} {w : World} {K : PySem.W.Frag} {mg : Str → Option Value} {base : Heap} {f : Addr} {fd : FuncData} {CT CN : Addr}
theorem c_is_triple (T : Bt mg) (k_is_integer : Cal P w K mg base 1 "is_integer" (spIsInt K)) (F : FnP K "is_triple" s_is_triple f fd) (hm : mg "is_triple" = some (.ref f)) : Cal P w K mg base 2 "is_triple" (spIsTriple K) := by
  have hnd := sc_is_triple.nd
  refine cal_mk F hm sc_is_triple (fun _ _ _ _ _ _ us hl => match us, hl with | [_], _ => rfl) (fun vs H Q E h => ?_) (fun cdv A outer s H vs Q E hr h => ?_)
  · obtain ⟨v, o, rfl, _⟩ := h
    rfl
  · obtain ⟨v, b, rfl, th, q⟩ := h
    refine ⟨_, (pss_one (ps_ret (pe_and (pe_callB call_isi (by rfl) T.m_isinstance (by decide +kernel) (pa_cons (pv 0) (pa_cons (pe_bltn (v := .ty "tuple") (by rfl) T.m_tuple (by decide +kernel) rfl) pa_nil))) (pe_and (pe_cmpR op_eq (pe_callB call_len_seq (by rfl) T.m_len (by decide +kernel) (pa_cons (pv 0) pa_nil)) pe_int (nomark _)) (pe_one (pe_callB (cr_all (by rfl)) (by rfl) T.m_all (by decide +kernel) (pa_cons (pe_lc (own := [("thing", 1)]) (tt := tYes) (by rfl) hnd (pi_tup (pv 0)) (blkOk_by (own := [("thing", 1)]) (N := N_is_triple) (sc := defScope s_is_triple) (by decide +kernel)) (fun _ _ _ _ _ => (pg_name (i := 1) hnd rfl (by first | exact Or.inl rfl | exact Or.inr rfl))) (fun _ _ _ _ _ => pts_nil) (fun _ _ _ _ _ => (pe_cal k_is_integer hr (by omega) (by rfl) (pa_cons (pv 1) pa_nil)))) pa_nil))))))), ?_⟩
    cases th with
    | no h =>
      obtain ⟨t, ty, kn⟩ := h.ex
      exact ⟨_, rfl, _, _, _, _, _, rfl, .ty _, ty, kn, _, rfl, iteF (q H (Same.refl _))⟩
    | @tup qa ys e hl hi =>
      refine ⟨_, rfl, _, _, _, _, _, rfl, .ty _, .base (.tup e), kit_ty (by decide +kernel : kitB "tuple" "tuple" = some true), _, rfl, iteT ⟨_, rfl, _, _, rfl, .inr (SqT.of e), rfl, _, rfl, ?_⟩⟩
      by_cases c : ys.length = 3
      · rw [show decide (V.int (((ys.map (·.1)).length : Nat) : Int) = V.int 3) = true from lenN (n := 3) (by rw [List.length_map, c])]
        refine iteT (cb_one ?_)
        refine ⟨_, rfl, qa, rfl, ⟨_, SqT.of e⟩, fun D nD => ?_⟩
        refine lc_tup (xs := ys.map (·.1)) (fun i G => Same H G ∧ G D = some (.lst (((ys.take i).map (·.2)).map V.bl))) ⟨same_new nD, upd_same⟩ (fun i G _ z => SqT.of (z.1 _ _ e)) ?_ ?_
        · rintro i x G hx ⟨s1, e1⟩
          rw [List.getElem?_map] at hx
          obtain ⟨p, hp, rfl⟩ := Option.map_eq_some_iff.mp hx
          refine ⟨rfl, ?_⟩
          unfold tYes
          dsimp only
          rw [if_pos rfl]
          have fin : ∀ bb : Bool, p.2 = bb → ∃ xs, G D = some (.lst xs) ∧ xs.length < sizeLine ∧ Same H (upd G D (.lst (xs ++ [V.bl bb]))) ∧ upd G D (.lst (xs ++ [V.bl bb])) D = some (.lst (((ys.take (i + 1)).map (·.2)).map V.bl)) := fun bb hb => by
            refine ⟨_, e1, by rw [List.length_map, List.length_map, List.length_take, sizeLine_eq]; omega, same_put nD s1, ?_⟩
            rw [take_at hp, List.map_append, List.map_append, upd_same]
            subst hb
            rfl
          rcases hi p (List.mem_of_getElem? hp) with ⟨z, hz, hb⟩ | ⟨hn, hb⟩
          · exact ⟨_, rfl, _, rfl, .inl ⟨z, hz, fin _ hb⟩⟩
          · exact ⟨_, rfl, _, rfl, .inr ⟨hn.same s1, fin _ hb⟩⟩
        · rintro G ⟨s1, e1⟩
          rw [List.length_map, List.take_length] at e1
          refine ⟨D, ys.map (·.2), rfl, SqL.of e1, ?_⟩
          have := q G s1
          rw [decide_eq_true c, Bool.true_and] at this
          rw [show (ys.map (·.2)).all id = ys.all (·.2) by rw [List.all_map]; rfl]
          exact this
      · rw [show decide (V.int (((ys.map (·.1)).length : Nat) : Int) = V.int 3) = false from lenX (n := 3) (by rw [List.length_map]; exact c)]
        rw [decide_eq_false c, Bool.false_and] at q
        exact iteF (q H (Same.refl _))
theorem c_check_triples (T : Bt mg) (k_is_triple : Cal P w K mg base 2 "is_triple" (spIsTriple K)) (eInvalidTriples : ErC P w K mg base "InvalidTriples" "index" bVE CT) (tyInvalidTriples : PySem.W.typeIn K (.ref CT) = some (.type "type")) (F : FnP K "_check_triples" s_check_triples f fd) (hm : mg "_check_triples" = some (.ref f)) :
    CalX P w K mg base 3 "_check_triples" (spCheckTriples K CT) := by
  have hnd := sc_check_triples.nd
  refine calX_of F hm (fun _ _ _ _ _ _ us hl => match us, hl with | [_, _], _ => rfl) (F.ok sc_check_triples (fun vs H Q E h => ?_) (fun cdv A outer s H vs Q E hr h => ?_))
  · obtain ⟨n, v, rfl, _⟩ := h
    rfl
  · obtain ⟨n, v, rfl, h⟩ := h
    refine ⟨_, (pss_cons (ps_if (pt_not (pt_val (pe_callB call_isi (by rfl) T.m_isinstance (by decide +kernel) (pa_cons (pv 1) (pa_cons (pe_bltn (v := .ty "tuple") (by rfl) T.m_tuple (by decide +kernel) rfl) pa_nil)))))
      (pss_one (ps_raise (by rfl) (takes_of rfl rfl rfl rfl) (pmk_er eInvalidTriples tyInvalidTriples hr (by omega) (by rfl) pe_non)))
      pss_nil)
      (pss_one (ps_for (passes_of rfl) (by rfl) (pi_enumT (by rfl) T.m_enumerate (pa_cons (pv 1) pa_nil)) (pg_tup (by rfl) (pgs_cons (pg_name (i := 2) hnd rfl (by first | exact Or.inl rfl | exact Or.inr rfl)) (pgs_cons (pg_name (i := 3) hnd rfl (by first | exact Or.inl rfl | exact Or.inr rfl)) pgs_nil)))
      (pss_one (ps_if (PW.pt (pw_or (pt_not (pt_val (pe_cal k_is_triple hr (by omega) (by rfl) (pa_cons (pv 3) pa_nil)))) (pw_or (pt_cmpR op_lt (pe_callB (cr_minT (by rfl) (Nat.lt_of_le_of_lt (Nat.add_le_add_left (by decide) _) hr.units)) (by rfl) T.m_min (by decide +kernel) (pa_cons (pv 3) pa_nil)) pe_int (nomark _)) (pw_or1 (pt_cmpR op_ge (pe_callB (cr_maxT (by rfl) (Nat.lt_of_le_of_lt (Nat.add_le_add_left (by decide) _) hr.units)) (by rfl) T.m_max (by decide +kernel) (pa_cons (pv 3) pa_nil)) (pv 0) (nomark _))))))
      (pss_one (ps_raise (by rfl) (takes_of rfl rfl rfl rfl) (pmk_er eInvalidTriples tyInvalidTriples hr (by omega) (by rfl) (pv 2))))
      pss_nil))))), ?_⟩
    rcases h with ⟨no, qE⟩ | ⟨q9, ys, rfl, e9, it, q⟩
    · obtain ⟨t, ty, kn⟩ := no.ex
      refine ⟨_, rfl, _, _, _, _, _, rfl, .ty _, ty, kn, _, rfl, iteT fun d H' s nd x => qE d H' s nd x⟩
    · refine ⟨_, rfl, _, _, _, _, _, rfl, .ty _, sqT_ty e9, kit_ty (by decide +kernel : kitB "tuple" "tuple" = some true), _, rfl, iteF ?_⟩
      dsimp only [tNext]
      refine ⟨_, rfl, q9, _, rfl, e9, for_enumT (K := K) (a := q9) (xs := ys.map (·.1)) (fun i σ' G => Same H G ∧ ∃ x2 x3 : Option V, σ' = [some (.int (n : Nat)), some (.ref q9), x2, x3] ∧ firstF 0 (ys.map (·.2)) = firstF i ((ys.drop i).map (·.2))) ⟨Same.refl _, _, _, rfl, rfl⟩ (fun i σ' G _ h => sqT_same e9 h.1) ?_ ?_⟩
      · rintro i x σ' G TT hx ⟨sg, x2, x3, rfl, hf⟩ nT
        rw [List.getElem?_map] at hx
        obtain ⟨p, hp, rfl⟩ := Option.map_eq_some_iff.mp hx
        rw [drop_at hp, List.map_cons] at hf
        have s1 := sg.trans (same_new (o := .tup [.int (i : Nat), p.1]) nT)
        have eTT := upd_same (H := G) (a := TT) (o := .tup [.int (i : Nat), p.1])
        generalize upd G TT (.tup [.int (i : Nat), p.1]) = G1 at s1 eTT ⊢
        refine ⟨TT, _, rfl, SqT.of eTT, rfl, _, _, rfl, _, _, rfl, rfl, ?_⟩
        try dsimp only
        have bad : p.2 = false → ∀ G2, Same G1 G2 → tErR CT "index" (tVar 2) [some (.int (n : Nat)), some (.ref q9), some (.int (i : Nat)), some p.1] G2 (fun cls d H' => E cls d H') := fun hb G2 s2 => by
          rw [hf.trans (show firstF i (p.2 :: _) = some i by unfold firstF; rw [if_neg (by rw [hb]; decide)])] at q
          exact ⟨_, rfl, fun d H' s nd x => q d H' ((s1.trans s2).trans s) (none_back (s1.trans s2) nd) x⟩
        rcases it p (List.mem_of_getElem? hp) with ⟨tv, hb⟩ | ⟨q3, i3, j3, k3, e3, f3, hb⟩
        · refine ⟨_, rfl, _, _, rfl, tv.same s1, fun G2 s2 => ?_⟩
          exact ⟨_, rfl, iteT (iteT (bad hb G2 s2))⟩
        · obtain ⟨pv, pc⟩ := p
          obtain rfl : pv = .ref q3 := e3
          have hb : pc = _ := hb
          refine ⟨_, rfl, _, _, rfl, trV_trio (s1 _ _ f3), fun G2 s2 => ⟨_, rfl, iteF ?_⟩⟩
          have sq : SqT K G2 q3 ([i3, j3, k3].map V.int) := SqT.of (s2 _ _ (s1 _ _ f3))
          refine ⟨_, rfl, q3, i3, [j3, k3], rfl, sq, _, _, rfl, rfl, _, rfl, ?_⟩
          by_cases c1 : min (min i3 j3) k3 < 0
          · exact iteT2 (decide_eq_true c1) (iteT (bad (hb.trans (decide_eq_false (by omega))) G2 s2))
          · refine iteN2 (decide_eq_false c1) ⟨_, rfl, q3, i3, [j3, k3], rfl, sq, _, rfl, _, _, rfl, rfl, _, rfl, ?_⟩
            by_cases c2 : (n : Int) ≤ max (max i3 j3) k3
            · exact iteT2 (decide_eq_true c2) (bad (hb.trans (decide_eq_false (by omega))) G2 s2)
            · refine iteN2 (decide_eq_false c2) ⟨s1.trans s2, _, _, rfl, hf.trans ?_⟩
              show (if pc = true then _ else _) = _
              rw [if_pos (hb.trans (decide_eq_true (by omega)))]
      · rintro σ' G ⟨sg, x2, x3, rfl, hf⟩
        rw [List.length_map, List.drop_length] at hf
        rw [show firstF 0 (ys.map (·.2)) = none from hf] at q
        exact q G sg
theorem c_check_things (k_is_thing : Cal P w K mg base 2 "is_thing" (spIsThing K)) (eInvalidNumber : ErC P w K mg base "InvalidNumber" "given" bVE CN) (tyInvalidNumber : PySem.W.typeIn K (.ref CN) = some (.type "type")) (F : FnP K "_check_things" s_check_things f fd) (hm : mg "_check_things" = some (.ref f)) :
    CalX P w K mg base 3 "_check_things" (spCheckThings K CN) := by
  have hnd := sc_check_things.nd
  refine calX_of F hm (fun _ _ _ _ _ _ us hl => match us, hl with | [_, _], _ => rfl) (F.ok sc_check_things (fun vs H Q E h => ?_) (fun cdv A outer s H vs Q E hr h => ?_))
  · obtain ⟨n, q9, ys, rfl, _⟩ := h
    rfl
  · obtain ⟨n, q9, ys, rfl, e9, th, q⟩ := h
    refine ⟨_, (pss_one (ps_for (passes_of rfl) (by rfl) (pi_tup (pv 1)) (pg_name (i := 2) hnd rfl (by first | exact Or.inl rfl | exact Or.inr rfl))
      (pss_one (ps_if (pt_not (pt_val (pe_cal k_is_thing hr (by omega) (by rfl) (pa_cons (pv 0) (pa_cons (pv 2) pa_nil)))))
      (pss_one (ps_raise (by rfl) (takes_of rfl rfl rfl rfl) (pmk_er eInvalidNumber tyInvalidNumber hr (by omega) (by rfl) (pv 2))))
      pss_nil)))), ?_⟩
    refine ⟨_, rfl, q9, rfl, ⟨_, SqT.of e9⟩, ?_⟩
    refine for_tup (xs := ys.map (·.1)) (fun i σ G => G = H ∧ ∃ x2 : Option V, σ = [some (.int (n : Nat)), some (.ref q9), x2] ∧ ys.find? (fun p => !p.2) = (ys.drop i).find? (fun p => !p.2)) ⟨rfl, _, rfl, rfl⟩ (fun i σ G _ h => by rw [h.1]; exact SqT.of e9) ?_ ?_
    · rintro i x σ G hx ⟨rfl, x2, rfl, hf⟩
      rw [List.getElem?_map] at hx
      obtain ⟨p, hp, rfl⟩ := Option.map_eq_some_iff.mp hx
      rw [drop_at hp] at hf
      refine gname_go ⟨_, rfl, _, rfl, n, p.1, p.2, rfl, th p (List.mem_of_getElem? hp), ?_⟩
      cases hb : p.2 with
      | true =>
        refine ⟨_, rfl, iteF ⟨rfl, _, rfl, ?_⟩⟩
        rw [hf, List.find?_cons_of_neg (by rw [hb]; decide)]
      | false =>
        rw [hf, List.find?_cons_of_pos (by rw [hb]; decide)] at q
        exact ⟨_, rfl, iteT ⟨_, rfl, fun d H' s nd x => q d H' s nd x⟩⟩
    · rintro σ G ⟨rfl, x2, rfl, hf⟩
      rw [List.length_map, List.drop_length] at hf
      rw [show ys.find? (fun p => !p.2) = none from hf] at q
      exact q
end
end L2.K15
set_option Elab.async false
set_option linter.all false
set_option maxRecDepth 100000
set_option maxHeartbeats 8000000
namespace L2.K15
open PySem PySem.Spec PyProof.Rows L2.Tb
open SX (S)
abbrev s_binit : Stmt := inClass (top 45) 0
abbrev N_binit : List Str := ["self", "kind", "size", "triples", "thing", "own"]
theorem sc_binit : FnScope N_binit ["self", "kind", "size", "triples"] (defScope s_binit) := ⟨rfl, rfl, rfl, by decide +kernel, rfl, by decide +kernel, by decide +kernel⟩
abbrev s_made : Stmt := top 57
abbrev N_made : List Str := ["kind", "size", "tables", "made"]
theorem sc_made : FnScope N_made ["kind", "size", "tables"] (defScope s_made) := ⟨rfl, rfl, rfl, by decide +kernel, rfl, by decide +kernel, by decide +kernel⟩
/-! ### beginnings -/
structure Bg where
  z : Str
  b : Bool
  n : Nat
  T : List Trp
def bgF (tk n tb : V) : List (Str × V) := [("_kind", tk), ("_size", n), ("_tables", tb)]
def BgAt (C BC : Addr) (H : Hp) (a : Addr) (d : Bg) : Prop := ∃ (dx tk tb : Addr), H a = some (.ins BC dx (bgF (.ref tk) (.int (d.n : Nat)) (.ref tb))) ∧ KindAt C H tk d.z d.b ∧ Tabs H tb d.T
theorem BgAt.same {C BC : Addr} {H H' : Hp} {a : Addr} {d : Bg} (h : BgAt C BC H a d) (s : Same H H') : BgAt C BC H' a d := by
  obtain ⟨dx, tk, tb, h1, h2, h3⟩ := h
  exact ⟨dx, tk, tb, s _ _ h1, h2.same s, h3.same s⟩
structure BgOk (d : Bg) : Prop where
  z : wordsD.contains d.z = true
  n : d.n ≤ 600
  T : TOk d.n d.T
  L : d.T.length ≤ 90000
/-- the class Beginning -/
structure BgF (K : PySem.W.Frag) (mg : Str → Option Value) (BC : Addr) : Prop where
  mgB : mg "Beginning" = some (.ref BC)
  cls : Cls K BC
  noK : NoAttr K BC "_kind"
  noS : NoAttr K BC "_size"
  noT : NoAttr K BC "_tables"
  ex : InsC K BC
  self : PySem.W.kitOne K (.ref BC) (.ref BC) = some true
def diagL (b : Bool) (n : Nat) : List Trp := if b = true then (List.range n).map fun i => (i, i, i) else []
theorem mem_diag {b : Bool} {n : Nat} {t : Trp} : t ∈ diagL b n ↔ b = true ∧ ∃ i, i < n ∧ t = (i, i, i) := by
  unfold diagL
  cases b with
  | false => simp
  | true =>
    rw [if_pos rfl, List.mem_map]
    constructor
    · rintro ⟨i, hi, rfl⟩
      exact ⟨rfl, i, List.mem_range.mp hi, rfl⟩
    · rintro ⟨_, i, hi, rfl⟩
      exact ⟨i, List.mem_range.mpr hi, rfl⟩
theorem diag_bd {b : Bool} {n : Nat} : ∀ t ∈ diagL b n, Bd n t := fun t ht => by
  obtain ⟨_, i, hi, rfl⟩ := mem_diag.mp ht
  exact ⟨hi, hi, hi⟩
theorem diag_len {b : Bool} {n : Nat} : (diagL b n).length ≤ n := by
  unfold diagL
  split
  · rw [List.length_map, List.length_range]
    exact Nat.le_refl _
  · exact Nat.zero_le _
theorem imgT_diag {i : Nat} {u : Turn} : imgT (i, i, i) u = (i, i, i) := by
  unfold imgT pl
  simp
/-- once it is in -/
theorem addL_same {x : Trp} : ∀ {lot : List Turn} {T : List Trp}, (∀ u ∈ lot, imgT x u = x) → x ∈ T → addL T (lot.map (imgT x)) = some T
  | [], T, _, _ => rfl
  | u :: lot, T, h, hx => by
    rw [List.map_cons, addL_cons, h u List.mem_cons_self, add1_pos hx]
    exact addL_same (fun v hv => h v (List.mem_cons_of_mem _ hv)) hx
theorem lots_ne : ∀ z ∈ wordsD, lotOf z ≠ [] := by decide +kernel
theorem k0_dd (i : Nat) : k0 (i, i, i) = i * 600 + i := by dsimp only [k0]
theorem k1_dd (i : Nat) : k1 (i, i, i) = i * 600 + i := by dsimp only [k1]
theorem k2_dd (i : Nat) : k2 (i, i, i) = i * 600 + i := by dsimp only [k2]
theorem addT_diag {z : Str} (hz : z ∈ wordsD) {T : List Trp} {i : Nat} (h : ∀ s ∈ T, k0 s ≠ i * 600 + i ∧ k1 s ≠ i * 600 + i ∧ k2 s ≠ i * 600 + i) : addT (lotOf z) T (i, i, i) = some (T ++ [(i, i, i)]) := by
  rw [addT_neg fun m => (h _ m).1 (k0_dd i)]
  cases e : lotOf z with
  | nil => exact absurd e (lots_ne z hz)
  | cons u lot =>
    rw [List.map_cons, addL_cons, imgT_diag, add1_new (x := (i, i, i)) (by rw [k0_dd, k1_dd, k2_dd]; exact h)]
    exact addL_same (fun v _ => imgT_diag) (List.mem_append_right _ (List.mem_singleton.mpr rfl))
theorem addA_diagL {z : Str} (hz : z ∈ wordsD) : ∀ (m j : Nat) (T : List Trp) (i : Nat), j + m ≤ 600 → (∀ s ∈ T, ∃ k, k < j ∧ s = (k, k, k)) → addA (lotOf z) T i ((List.range' j m).map fun i => (i, i, i)) = .ok (T ++ (List.range' j m).map fun i => (i, i, i))
  | 0, j, T, i, _, _ => by
    rw [List.range'_zero, List.map_nil, List.append_nil]
    rfl
  | m + 1, j, T, i, hm, hT => by
    rw [List.range'_succ, List.map_cons, addA_cons, addT_diag hz fun s hs => by
      obtain ⟨k, hk, rfl⟩ := hT s hs
      rw [k0_dd, k1_dd, k2_dd]
      exact ⟨by omega, by omega, by omega⟩]
    dsimp only
    rw [addA_diagL hz m (j + 1) _ (i + 1) (by omega) fun s hs => ?_, List.append_assoc]
    · rfl
    · rcases List.mem_append.mp hs with hs | hs
      · obtain ⟨k, hk, rfl⟩ := hT s hs
        exact ⟨k, by omega, rfl⟩
      · exact ⟨j, by omega, List.mem_singleton.mp hs⟩
theorem addA_diag {z : Str} (hz : z ∈ wordsD) {b : Bool} {n : Nat} (hn : n ≤ 600) : addA (lotOf z) [] 0 (diagL b n) = .ok (diagL b n) := by
  unfold diagL
  cases b with
  | false => rfl
  | true =>
    rw [if_pos rfl, List.range_eq_range', addA_diagL hz n 0 [] 0 (by omega) (fun s hs => by cases hs)]
    rfl
theorem diag_ok {z : Str} (hz : z ∈ wordsD) {b : Bool} {n : Nat} (hn : n ≤ 600) : TOk n (diagL b n) := addA_ok TOk.nil diag_bd (addA_diag hz hn)
theorem Bd.up {n m : Nat} {t : Trp} (h : Bd n t) (hm : n ≤ m) : Bd m t := ⟨Nat.lt_of_lt_of_le h.1 hm, Nat.lt_of_lt_of_le h.2.1 hm, Nat.lt_of_lt_of_le h.2.2 hm⟩
/-- an error's index, one instance being made -/
def ErrIB (a : Addr) (H : Hp) (C : Addr) (E : XK) (i : Nat) : Prop := ∀ d H', SameB a H H' → H d = none → H' d = some (.xd [("index", .int (i : Int))]) → E (.ref C) (some d) H'
def spBinit (K : PySem.W.Frag) (C BC CK CN CT CC : Addr) : Sp := fun vs H Q E => ∃ (a dx : Addr) (vk vs' vt : V), vs = [.ref a, vk, vs', vt] ∧ H a = some (.ins BC dx []) ∧
  ((∃ t, TyX K H vk t ∧ PySem.W.kitOne K t (.ref C) = some false ∧ ErrG H CK E vk) ∨
   (∃ (tk : Addr) (z : Str) (b : Bool), vk = .ref tk ∧ KindAt C H tk z b ∧ wordsD.contains z = true ∧
    ((IsTh K H 601 vs' false ∧ ErrG H CN E vs') ∨
     (∃ n : Nat, vs' = .int (n : Int) ∧ n ≤ 600 ∧
      ((NoT K H vt ∧ ErrIv H CT E .non) ∨
       (∃ (q : Addr) (ys : List (V × Bool)) (i : Nat), vt = .ref q ∧ SqT K H q (ys.map (·.1)) ∧ (∀ p ∈ ys, ItemV K H n p.1 p.2) ∧ firstF 0 (ys.map (·.2)) = some i ∧ ErrI H CT E i) ∨
       (∃ (q : Addr) (qs : List Addr) (ts : List Trp), vt = .ref q ∧ SqT K H q (qs.map V.ref) ∧ Paired (TrpAt H) qs ts ∧ (∀ t ∈ ts, Bd n t) ∧ ts.length ≤ 90000 ∧
        match addA (lotOf z) (diagL b n) 0 ts with
        | .ok T => ∀ H', SameB a H H' → BgAt C BC H' a ⟨z, b, n, T⟩ → Q .non H'
        | .error i => ErrIB a H CC E i))))))
theorem KindAt.sameB {C a : Addr} {H H' : Hp} {t : Addr} {z : Str} {b : Bool} {C2 dx2 : Addr} {fs : List (Str × V)} (h : KindAt C H t z b) (e : H a = some (.ins C2 dx2 fs)) (hf : fs = []) (s : SameB a H H') : KindAt C H' t z b := by
  obtain ⟨dx, h⟩ := h
  refine ⟨dx, s _ _ (fun q => ?_) h⟩
  rw [q, e, hf] at h
  have h := Option.some.inj h
  injection h with _ _ h
  cases h
theorem paired_mem {α β : Type} {R : α → β → Prop} {xs : List α} {ys : List β} (h : Paired R xs ys) {x : α} (hx : x ∈ xs) : ∃ y ∈ ys, R x y := by
  obtain ⟨i, hi⟩ := List.getElem?_of_mem hx
  obtain ⟨y, hy, r⟩ := pairedNth h hi
  exact ⟨y, List.mem_of_getElem? hy, r⟩
theorem diag_succ {n : Nat} : diagL true (n + 1) = diagL true n ++ [(n, n, n)] := by
  unfold diagL
  rw [if_pos rfl, if_pos rfl, List.range_succ, List.map_append]
  rfl
/-- an instance's fields change, what is none stays -/
theorem put_keep {G : Hp} {a b : Addr} {C dx : Addr} {fs fs' : List (Str × V)} {o : HO} (ea : G a = some (.ins C dx fs)) (e : G b = some o) (ho : ∀ fs, o ≠ .ins C dx fs) : upd G a (.ins C dx fs') b = some o := by
  rw [upd_ne fun z => ?_]
  · exact e
  · rw [z, ea] at e
    exact ho fs (Option.some.inj e).symm
theorem Tabs.put {G : Hp} {a tb : Addr} {C dx : Addr} {fs fs' : List (Str × V)} {T : List Trp} (ea : G a = some (.ins C dx fs)) (h : Tabs G tb T) : Tabs (upd G a (.ins C dx fs')) tb T := by
  obtain ⟨d0, d1, d2, h0, h1, h2, h3⟩ := h
  exact ⟨d0, d1, d2, put_keep ea h0 (fun _ z => by cases z), put_keep ea h1 (fun _ z => by cases z), put_keep ea h2 (fun _ z => by cases z), put_keep ea h3 (fun _ z => by cases z)⟩
section
variable {P : Program} {w : World} {K : PySem.W.Frag} {mg : Str → Option Value} {base : Heap} {f : Addr} {fd : FuncData} {C BC CK CN CT CC dL CT9 CF pl9 gl9 pc9 gc9 : Addr} {fdl fdc : FuncData} {es : Array DictEntry} {n : Nat} {dvs9 : List V}
theorem c_binit (T : Bt mg) (BF : BgF K mg BC) (BGc : BgC K mg) (KF : KiF P w K mg base C dL CT9 CF es n) (PC9 : PropOf K C "calm" pc9 gc9) (FC9 : FnOk P w K mg base L2.CX0 1 gc9 fdc ["self"] (spKcalm C)) (BC9 : Binds K fdc ["self"] [])
    (x_check_kind : CalX P w K mg base 3 "check_kind" (spCheck K C CK)) (k_is_integer : Cal P w K mg base 1 "is_integer" (spIsInt K)) (eInvalidNumber : ErC P w K mg base "InvalidNumber" "given" bVE CN) (tyInvalidNumber : PySem.W.typeIn K (.ref CN) = some (.type "type"))
    (x_check_triples : CalX P w K mg base 3 "_check_triples" (spCheckTriples K CT)) (x_with_triples : CalX P w K mg base 3 "_with_triples" (spWith K C CC))
    (F : FunD K "__init__" "Beginning.__init__" (defArgs s_binit) (defBody s_binit) (defScope s_binit) dvs9 [] f fd) : FnOk P w K mg base (L2.CX P w) 4 f fd ["self", "kind", "size", "triples"] (spBinit K C BC CK CN CT CC) := by
  have hnd := sc_binit.nd
  obtain ⟨tm, hmo⟩ := BGc.mo
  refine F.ok sc_binit (fun vs H Q E h => ?_) (fun cdv A outer s H vs Q E hr h => ?_)
  · obtain ⟨a, dx, vk, vs', vt, rfl, _⟩ := h
    rfl
  · obtain ⟨a, dx, vk, vs', vt, rfl, ea, h⟩ := h
    refine ⟨_, (pss_cons (ps_expr (pe_calX x_check_kind hr (by omega) (by rfl) (passes_call (takes_of rfl rfl rfl rfl) (fun _ _ _ _ h => h)) (pa_cons (pv 1) pa_nil)))
      (pss_cons (ps_if (PW.pt (pw_or (pt_not (pt_val (pe_cal k_is_integer hr (by omega) (by rfl) (pa_cons (pv 2) pa_nil)))) (pw_or1 (pt_not (pt_chain op_le op_le pe_int (pv 2) (pe_glob (v := .int 600) (by rfl) hmo ⟨_, rfl⟩))))))
      (pss_one (ps_raise (by rfl) (takes_of rfl rfl rfl rfl) (pmk_er eInvalidNumber tyInvalidNumber hr (by omega) (by rfl) (pv 2))))
      pss_nil)
      (pss_cons (ps_expr (pe_calX x_check_triples hr (by omega) (by rfl) (passes_call (takes_of rfl rfl rfl rfl) (fun _ _ _ _ h => h)) (pa_cons (pv 2) (pa_cons (pv 3) pa_nil))))
      (pss_cons (ps_setLc (i := 5) (own := [("thing", 4)]) (by rfl) hnd rfl (by rfl) (sw_true rfl rfl rfl (by decide +kernel)) (pi_range1 (by rfl) T.m_range (pa_cons (pv 2) pa_nil)) (blkOk_by (own := [("thing", 4)]) (N := N_binit) (sc := defScope s_binit) (by decide +kernel)) (fun _ _ _ _ _ => (pg_name (i := 4) hnd rfl (by first | exact Or.inl rfl | exact Or.inr rfl))) (fun _ _ _ _ _ => (pts_one (pt_val (pe_prop (E := L2.E0) (pv 1) KF.cls PC9 FC9 (hr.mono (by omega)) BC9 .nil (fun _ _ _ _ _ _ _ h => h.elim) (by rfl))))) (fun _ _ _ _ _ => (pe_tup (pa_cons (pv 4) (pa_cons (pv 4) (pa_cons (pv 4) pa_nil))))))
      (pss_cons (ps_fld (pv 0) (pv 1) (by rfl))
      (pss_cons (ps_fld (pv 0) (pv 2) (by rfl))
      (pss_one (ps_fld (pv 0) (pe_calX x_with_triples hr (by omega) (by rfl) (passes_call (takes_of rfl rfl rfl rfl) (fun _ _ _ _ h => h)) (pa_cons (pv 1) (pa_cons (pe_calX x_with_triples hr (by omega) (by rfl) (passes_call (takes_of rfl rfl rfl rfl) (fun _ _ _ _ h => h)) (pa_cons (pv 1) (pa_cons (pe_tup (pa_cons pe_dnewK (pa_cons pe_dnewK (pa_cons pe_dnewK pa_nil)))) (pa_cons (pv 5) pa_nil)))) (pa_cons (pv 3) pa_nil)))) (by rfl))))))))), ?_⟩
    rcases h with ⟨t, ty, kn, q⟩ | ⟨tk, z, b, rfl, ek, hz, h⟩
    · exact ⟨_, rfl, vk, rfl, .inr ⟨t, ty, kn, q⟩⟩
    · refine ⟨_, rfl, _, rfl, .inl ⟨tk, z, b, rfl, ek, ?_⟩⟩
      have zm : z ∈ wordsD := List.contains_iff_mem.mp hz
      rcases h with ⟨ith, qE⟩ | ⟨m, rfl, hm, h⟩
      · rcases ith with ⟨i, rfl, hb⟩ | ⟨no, _⟩
        · refine ⟨_, rfl, .int i, rfl, .inl ⟨i, rfl, _, rfl, iteF ⟨_, rfl, _, _, rfl, rfl, _, rfl, ?_⟩⟩⟩
          by_cases c : 0 ≤ i
          · refine iteT2 (decide_eq_true c) ⟨_, _, rfl, rfl, _, rfl, iteT2 ?_ ⟨_, rfl, fun d H' s nd x => qE d H' s nd x⟩⟩
            have := of_decide_eq_false hb.symm
            rw [decide_eq_false (by omega)]
            rfl
          · exact iteN2 (decide_eq_false c) ⟨_, rfl, iteT ⟨_, rfl, fun d H' s nd x => qE d H' s nd x⟩⟩
        · exact ⟨_, rfl, _, rfl, .inr ⟨no, _, rfl, iteT (iteT ⟨_, rfl, fun d H' s nd x => qE d H' s nd x⟩)⟩⟩
      · refine ⟨_, rfl, _, rfl, .inl ⟨_, rfl, _, rfl, iteF ⟨_, rfl, _, _, rfl, rfl, _, rfl, iteT2 (decide_eq_true (by omega)) ⟨_, _, rfl, rfl, _, rfl, iteN2 ?_ ?_⟩⟩⟩⟩
        · rw [decide_eq_true (by omega)]
          rfl
        dsimp only [tNext]
        rcases h with ⟨no, qE⟩ | ⟨q9, ys, i, rfl, e9, it, hf, qE⟩ | ⟨q9, qs, ts, rfl, e9, pq, bts, lts, q⟩
        · exact ⟨_, rfl, _, rfl, m, vt, rfl, .inl ⟨no, qE⟩⟩
        · exact ⟨_, rfl, _, rfl, m, _, rfl, .inr ⟨q9, ys, rfl, e9, it, by rw [hf]; exact qE⟩⟩
        · refine ⟨_, rfl, _, rfl, m, _, rfl, .inr ⟨q9, qs.map fun x => (V.ref x, true), rfl, by rw [List.map_map]; exact e9, fun p hp => ?_, ?_⟩⟩
          · obtain ⟨x, hx, rfl⟩ := List.mem_map.mp hp
            obtain ⟨t, ht, r⟩ := paired_mem pq hx
            exact itemV_nat r (bts t ht)
          rw [firstF_all fun c hc => by
            rw [List.map_map] at hc
            obtain ⟨x, _, rfl⟩ := List.mem_map.mp hc
            rfl]
          intro H1 s1
          refine ⟨_, rfl, (m : Int), rfl, by omega, by omega, fun D nD => ?_⟩
          rw [show ((m : Int)).toNat = m from rfl]
          have ek1 := ek.same s1
          have ea1 := s1 _ _ ea
          refine lc_range (n := m) (fun j G => Same H1 G ∧ ∃ ps, G D = some (.lst (ps.map V.ref)) ∧ Paired (TrpAt G) ps (diagL b j)) ⟨same_new nD, [], upd_same, by
            rw [show diagL b 0 = [] by cases b <;> rfl]
            exact .nil⟩ ?_ ?_
          · rintro j G hj ⟨sg, ps, eD, pp⟩
            rw [Int.zero_add]
            obtain ⟨dk, ekG⟩ := ek1.same sg
            refine gname_go ⟨rfl, _, rfl, tk, dk, _, rfl, ekG, tk, z, b, rfl, ⟨dk, ekG⟩, _, rfl, ?_⟩
            cases b with
            | false => exact iteF ⟨sg, ps, eD, pp⟩
            | true =>
              refine iteT ⟨_, rfl, _, rfl, _, rfl, Nat.le_of_ble_eq_true rfl, fun R nR => ?_⟩
              have sR := same_new (o := .tup [.int (j : Int), .int (j : Int), .int (j : Int)]) nR
              refine ⟨_, sR _ _ eD, ?_, same_put nD (sg.trans sR), ps ++ [R], by rw [upd_same, List.map_append]; rfl, ?_⟩
              · have := pf_len pp
                have := @diag_len true j
                rw [List.length_map, sizeLine_eq]
                omega
              · rw [diag_succ]
                have pu : ∀ x t, TrpAt G x t → TrpAt (upd (upd G R (.tup [.int (j : Int), .int (j : Int), .int (j : Int)])) D (.lst (ps.map V.ref ++ [.ref R]))) x t := fun x t h => by
                  unfold TrpAt
                  rw [upd_ne fun z => ?_]
                  · exact sR _ _ h
                  · unfold TrpAt at h
                    rw [z, eD] at h
                    cases h
                refine paired_app (paired_imp pu pp) (.cons ?_ .nil)
                unfold TrpAt
                rw [upd_ne fun z => ?_]
                · exact upd_same
                · rw [z, eD] at nR
                  cases nR
          · rintro G ⟨sg, ps, eD, pp⟩
            refine gname_go ?_
            have eaG := sg _ _ ea1
            obtain ⟨dk, ekG⟩ := ek1.same sg
            refine ⟨_, rfl, _, rfl, a, BC, dx, _, rfl, eaG, BF.cls, BF.noK, by decide, ?_⟩
            refine ⟨_, rfl, _, rfl, a, BC, dx, _, rfl, upd_same, BF.cls, BF.noS, Nat.le_of_ble_eq_true rfl, ?_⟩
            have eA : upd (upd G a (.ins BC dx (putF "_kind" (.ref tk) []))) a (.ins BC dx (putF "_size" (.int (m : Int)) (putF "_kind" (.ref tk) []))) a = _ := upd_same
            have hA : ∀ b' o, b' ≠ a → G b' = some o → upd (upd G a (.ins BC dx (putF "_kind" (.ref tk) []))) a (.ins BC dx (putF "_size" (.int (m : Int)) (putF "_kind" (.ref tk) []))) b' = some o := fun b' o nb e => by
              rw [upd_ne nb, upd_ne nb]
              exact e
            generalize upd (upd G a (.ins BC dx (putF "_kind" (.ref tk) []))) a (.ins BC dx (putF "_size" (.int (m : Int)) (putF "_kind" (.ref tk) []))) = A2 at eA hA ⊢
            have sB : SameB a H A2 := fun b' o nb e => hA _ _ nb ((s1.trans sg) _ _ e)
            have nob : ∀ {b' o}, G b' = some o → (∀ fs, o ≠ .ins BC dx fs) → b' ≠ a := fun {b' o} e ho z => by
              rw [z, eaG] at e
              exact ho _ (Option.some.inj e).symm
            have ekA : KindAt C A2 tk z b := ek.sameB ea rfl sB
            have eDA : A2 D = some (.lst (ps.map V.ref)) := hA _ _ (nob eD (fun _ z => by cases z)) eD
            have ppA : Paired (TrpAt A2) ps (diagL b m) := paired_imp (fun x t h => hA _ _ (nob h (fun _ z => by cases z)) h) pp
            have e9A : SqT K A2 q9 (qs.map V.ref) := sqT_keep (sqT_same e9 (s1.trans sg)) eaG fun c o nc e => hA c o nc e
            have pqA : Paired (TrpAt A2) qs ts := paired_imp (fun x t h => hA _ _ (nob ((s1.trans sg) _ _ h) (fun _ z => by cases z)) ((s1.trans sg) _ _ h)) pq
            have nA : ∀ {b'}, A2 b' = none → G b' = none := fun {b'} n => by
              cases c : G b' with
              | none => rfl
              | some o =>
                by_cases e : b' = a
                · rw [e, eA] at n
                  cases n
                · rw [hA _ _ e c] at n
                  cases n
            refine ⟨_, rfl, _, rfl, fun p0 n0 p1 n1 p2 n2 => ⟨Nat.le_of_ble_eq_true rfl, fun R nR => ?_⟩⟩
            have t0 := same_new (o := .dK []) n0
            have t1 := same_new (o := .dK []) n1
            have t2 := same_new (o := .dK []) n2
            have t3 := same_new (o := .tup [.ref p0, .ref p1, .ref p2]) nR
            have tt := ((t0.trans t1).trans t2).trans t3
            have tabs : Tabs (upd (upd (upd (upd A2 p0 (.dK [])) p1 (.dK [])) p2 (.dK [])) R (.tup [.ref p0, .ref p1, .ref p2])) R [] := ⟨p0, p1, p2, upd_same, ((t1.trans t2).trans t3) _ _ upd_same, (t2.trans t3) _ _ upd_same, t3 _ _ upd_same⟩
            generalize upd (upd (upd (upd A2 p0 (.dK [])) p1 (.dK [])) p2 (.dK [])) R (.tup [.ref p0, .ref p1, .ref p2]) = A3 at tt tabs ⊢
            have dl := @diag_len b m
            refine ⟨_, rfl, tk, R, D, z, b, false, [], diagL b m, ps, rfl, ekA.same tt, hz, tabs, .nil, by decide, SqL.of (tt _ _ eDA), paired_imp (fun x t h => tt _ _ h) ppA, fun t ht => (diag_bd t ht).up hm, by omega, ?_⟩
            rw [addA_diag zm hm]
            intro tb1 A4 s4 u4
            have sA := tt.trans s4
            refine ⟨_, rfl, tk, tb1, q9, z, b, true, diagL b m, ts, qs, rfl, ekA.same sA, hz, u4, (diag_ok zm hm).up hm, by omega, sqT_same e9A sA, paired_imp (fun x t h => sA _ _ h) pqA, fun t ht => (bts t ht).up hm, by omega, ?_⟩
            have sB4 : ∀ {G9}, Same A4 G9 → SameB a H G9 := fun {G9} s9 b' o nb e => (sA.trans s9) _ _ (sB _ _ nb e)
            cases ce : addA (lotOf z) (diagL b m) 0 ts with
            | error i =>
              rw [ce] at q
              intro d H' s9 nd x
              refine q d H' (sB4 s9) ?_ x
              have := none_back (sA) nd
              exact none_back (s1.trans sg) (nA this)
            | ok T =>
              rw [ce] at q
              intro tb2 A5 s5 u5
              have e5 := (sA.trans s5) _ _ eA
              refine ⟨_, rfl, a, BC, dx, _, rfl, e5, BF.cls, BF.noT, Nat.le_of_ble_eq_true rfl, ?_⟩
              refine q _ (fun b' o nb e => by rw [upd_ne nb]; exact sB4 s5 _ _ nb e) ⟨dx, tk, tb2, upd_same, ?_, u5.put e5⟩
              obtain ⟨dk2, ek2⟩ := ekA.same (sA.trans s5)
              refine ⟨dk2, ?_⟩
              rw [upd_ne fun z9 => ?_]
              · exact ek2
              · rw [z9, e5] at ek2
                have ek2 := Option.some.inj ek2
                injection ek2 with _ _ h9
                cases h9
end
end L2.K15
set_option Elab.async false
set_option linter.all false
set_option maxRecDepth 100000
set_option maxHeartbeats 8000000
namespace L2.K15
open PySem PySem.Spec PyProof.Rows L2.Tb
open SX (S)
abbrev s_bsize : Stmt := inClass (top 45) 2
abbrev N_bsize : List Str := ["self"]
theorem sc_bsize : FnScope N_bsize ["self"] (defScope s_bsize) := ⟨rfl, rfl, rfl, by decide +kernel, rfl, by decide +kernel, by decide +kernel⟩
abbrev s_blen : Stmt := inClass (top 45) 11
abbrev N_blen : List Str := ["self"]
theorem sc_blen : FnScope N_blen ["self"] (defScope s_blen) := ⟨rfl, rfl, rfl, by decide +kernel, rfl, by decide +kernel, by decide +kernel⟩
abbrev s_bfirst : Stmt := inClass (top 45) 6
abbrev N_bfirst : List Str := ["self", "mixed", "second"]
theorem sc_bfirst : FnScope N_bfirst ["self", "mixed", "second"] (defScope s_bfirst) := ⟨rfl, rfl, rfl, by decide +kernel, rfl, by decide +kernel, by decide +kernel⟩
def spMade (K : PySem.W.Frag) (C BC : Addr) : Sp := fun vs H Q _ => ∃ (tk tb : Addr) (d : Bg), vs = [.ref tk, .int (d.n : Nat), .ref tb] ∧ KindAt C H tk d.z d.b ∧ wordsD.contains d.z = true ∧ Tabs H tb d.T ∧ ∀ a H', Same H H' → BgAt C BC H' a d → Q (.ref a) H'
def spBsize (C BC : Addr) : Sp := fun vs H Q _ => ∃ (a : Addr) (d : Bg), vs = [.ref a] ∧ BgAt C BC H a d ∧ Q (.int (d.n : Nat)) H
def spBlen (C BC : Addr) : Sp := fun vs H Q _ => ∃ (a : Addr) (d : Bg), vs = [.ref a] ∧ BgAt C BC H a d ∧ Q (.int (d.T.length : Nat)) H
/-- the first thing of the triple with mixed (m) and second (s) -/
def spBfirst (K : PySem.W.Frag) (C BC CN : Addr) : Sp := fun vs H Q E => ∃ (a : Addr) (d : Bg) (vm vs' : V) (bm bs : Bool), vs = [.ref a, vm, vs'] ∧ BgAt C BC H a d ∧ d.n ≤ 600 ∧ IsTh K H d.n vm bm ∧ IsTh K H d.n vs' bs ∧
  ((bm = false ∧ ErrG H CN E vm) ∨ (bm = true ∧ bs = false ∧ ErrG H CN E vs') ∨ (∃ m s : Nat, vm = .int (m : Int) ∧ vs' = .int (s : Int) ∧ m < d.n ∧ s < d.n ∧ ∀ H', Same H H' → Q (oV (lookT d.T k0 (·.1) (s * 600 + m))) H'))
section
variable {P : Program} {w : World} {K : PySem.W.Frag} {mg : Str → Option Value} {base : Heap} {f : Addr} {fd : FuncData} {C BC CK CN CT CC fi e0 : Addr} {fdi : FuncData} {ds9 : List Value}
theorem c_made (BF : BgF K mg BC) (BM : Mk K BC fi) (FiB : FnOk P w K mg base (L2.CX P w) 4 fi fdi ["self", "kind", "size", "triples"] (spBinit K C BC CK CN CT CC)) (BiB : Binds K fdi ["self", "kind", "size", "triples"] ds9) (DvB : Vals [V.ref e0] ds9) (hE : ∀ H, SqT K H e0 [])
    (F : FnP K "_made" s_made f fd) (hm : mg "_made" = some (.ref f)) : Cal P w K mg base 6 "_made" (spMade K C BC) := by
  have hnd := sc_made.nd
  refine cal_mk F hm sc_made (fun _ _ _ _ _ _ us hl => match us, hl with | [_, _, _], _ => rfl) (fun vs H Q E h => ?_) (fun cdv A outer s H vs Q E hr h => ?_)
  · obtain ⟨tk, tb, d, rfl, _⟩ := h
    rfl
  · obtain ⟨tk, tb, d, rfl, ek, hz, tt, q⟩ := h
    refine ⟨_, (pss_cons (ps_set (i := 3) hnd rfl (by first | exact Or.inl rfl | exact Or.inr rfl) (pe_make BM FiB (hr.mono (by omega)) (by rfl) BF.mgB BiB DvB pass_none (pa_cons (pv 0) (pa_cons pe_int pa_nil))))
      (pss_cons (ps_fld (pv 3) (pv 1) (by rfl))
      (pss_cons (ps_fld (pv 3) (pv 2) (by rfl))
      (pss_one (ps_ret (pv 3)))))), ?_⟩
    refine ⟨_, rfl, fun x dx nx ndx dne => ⟨x, dx, _, _, _, rfl, upd_same, .inr ⟨tk, d.z, d.b, rfl, ?_, hz, .inr ⟨0, rfl, by decide, .inr (.inr ⟨e0, [], [], rfl, hE _, .nil, (fun _ h => by cases h), by decide, ?_⟩)⟩⟩⟩⟩
    · exact (ek.same (same_new (o := .own x) ndx)).same (same_new (by rw [upd_ne (Ne.symm dne)]; exact nx))
    · intro H1 sB bg
      refine ⟨rfl, gname_go ?_⟩
      have s1 : ∀ b' o, H b' = some o → H1 b' = some o := fun b' o e => by
        have e1 : b' ≠ x := fun z => by rw [z, nx] at e; cases e
        have e2 : b' ≠ dx := fun z => by rw [z, ndx] at e; cases e
        refine sB _ _ e1 ?_
        rw [upd_ne e1, upd_ne e2]
        exact e
      have nex : ∀ {b' o}, H b' = some o → b' ≠ x := fun {b' o} e z => by rw [z, nx] at e; cases e
      obtain ⟨dx2, tk2, tb2, h1, ⟨dk, h2⟩, h3⟩ := bg
      refine ⟨_, rfl, _, rfl, x, BC, dx2, _, rfl, h1, BF.cls, BF.noS, Nat.le_of_ble_eq_true rfl, ?_⟩
      refine ⟨_, rfl, _, rfl, x, BC, dx2, _, rfl, upd_same, BF.cls, BF.noT, Nat.le_of_ble_eq_true rfl, ?_⟩
      refine ⟨_, rfl, ?_⟩
      refine q x _ (fun b' o e => by rw [upd_ne (nex e), upd_ne (nex e)]; exact s1 _ _ e) ⟨dx2, tk2, tb, upd_same, ⟨dk, ?_⟩, ?_⟩
      · rw [upd_ne, upd_ne]
        · exact h2
        all_goals
          intro z
          rw [z, h1] at h2
          have h2 := Option.some.inj h2
          injection h2 with _ _ h9
          cases h9
      · obtain ⟨d0, d1, d2, et, f0, f1, f2⟩ := tt
        have up : ∀ b' o, H b' = some o → upd (upd H1 x (.ins BC dx2 (putF "_size" (.int (d.n : Nat)) (bgF (.ref tk2) (.int ((0 : Nat) : Int)) (.ref tb2))))) x (.ins BC dx2 (putF "_tables" (.ref tb) (putF "_size" (.int (d.n : Nat)) (bgF (.ref tk2) (.int ((0 : Nat) : Int)) (.ref tb2))))) b' = some o := fun b' o e => by
          rw [upd_ne (nex e), upd_ne (nex e)]
          exact s1 _ _ e
        exact ⟨d0, d1, d2, up _ _ et, up _ _ f0, up _ _ f1, up _ _ f2⟩
theorem c_bsize (BF : BgF K mg BC) (F : FunD K "size" "Beginning.size" (defArgs s_bsize) (defBody s_bsize) (defScope s_bsize) [] [] f fd) : FnOk P w K mg base L2.CX0 1 f fd ["self"] (spBsize C BC) := by
  have hnd := sc_bsize.nd
  refine F.ok sc_bsize (fun vs H Q E h => ?_) (fun cdv A outer s H vs Q E hr h => ?_)
  · obtain ⟨a, d, rfl, _⟩ := h
    rfl
  · obtain ⟨a, d, rfl, ⟨dx, tk, tb, ea, _⟩, q⟩ := h
    exact ⟨_, (pss_one (ps_ret (pe_fld (pv 0) (by rfl)))), _, rfl, a, BC, dx, _, _, rfl, ea, BF.cls, BF.noS, rfl, q⟩
theorem c_blen (T : Bt mg) (BF : BgF K mg BC) (F : FunD K "__len__" "Beginning.__len__" (defArgs s_blen) (defBody s_blen) (defScope s_blen) [] [] f fd) : FnOk P w K mg base L2.CX0 1 f fd ["self"] (spBlen C BC) := by
  have hnd := sc_blen.nd
  refine F.ok sc_blen (fun vs H Q E h => ?_) (fun cdv A outer s H vs Q E hr h => ?_)
  · obtain ⟨a, d, rfl, _⟩ := h
    rfl
  · obtain ⟨a, d, rfl, ⟨dx, tk, tb, ea, _, d0, d1, d2, et, f0, f1, f2⟩, q⟩ := h
    refine ⟨_, (pss_one (ps_ret (pe_callB call_lenD (by rfl) T.m_len (by decide +kernel) (pa_cons (pe_ix (show IxR _ (rIxT K) from ix_tup) (pe_fld (pv 0) (by rfl)) pe_int (fun _ _ => rfl)) pa_nil)))), ?_⟩
    refine ⟨_, rfl, a, BC, dx, _, _, rfl, ea, BF.cls, BF.noT, rfl, tb, _, _, .ref d2, rfl, rfl, SqT.of et, atI_nat (j := 2) rfl, d2, _, rfl, f2, ?_⟩
    rw [show (kvT k2 (·.2.2) d.T).length = d.T.length by unfold kvT; rw [List.length_map]]
    exact q
theorem c_bfirst (T : Bt mg) (BF : BgF K mg BC) (x_check_things : CalX P w K mg base 3 "_check_things" (spCheckThings K CN)) (k_completed : Cal P w K mg base 2 "_completed" spCompleted)
    (F : FunD K "first" "Beginning.first" (defArgs s_bfirst) (defBody s_bfirst) (defScope s_bfirst) [] [] f fd) : FnOk P w K mg base (L2.CX P w) 4 f fd ["self", "mixed", "second"] (spBfirst K C BC CN) := by
  have hnd := sc_bfirst.nd
  refine F.ok sc_bfirst (fun vs H Q E h => ?_) (fun cdv A outer s H vs Q E hr h => ?_)
  · obtain ⟨a, d, vm, vs', bm, bs, rfl, _⟩ := h
    rfl
  · obtain ⟨a, d, vm, vs', bm, bs, rfl, ⟨dx, tk, tb, ea, ek, tt⟩, n6, im, is, h⟩ := h
    refine ⟨_, (pss_cons (ps_expr (pe_calX x_check_things hr (by omega) (by rfl) (passes_call (takes_of rfl rfl rfl rfl) (fun _ _ _ _ h => h)) (pa_cons (pe_fld (pv 0) (by rfl)) (pa_cons (pe_tup (pa_cons (pv 1) (pa_cons (pv 2) pa_nil))) pa_nil))))
      (pss_one (ps_ret (pe_cal k_completed hr (by omega) (by rfl) (pa_cons (pe_fld (pv 0) (by rfl)) (pa_cons (pe_tup (pa_cons pe_non (pa_cons (pv 2) (pa_cons (pv 1) pa_nil)))) pa_nil)))))), ?_⟩
    refine ⟨_, rfl, a, BC, dx, _, _, rfl, ea, BF.cls, BF.noS, rfl, _, rfl, _, rfl, Nat.le_of_ble_eq_true rfl, fun R nR => ?_⟩
    have s1 := same_new (o := .tup [vm, vs']) nR
    have eR : upd H R (.tup [vm, vs']) R = _ := upd_same
    generalize upd H R (.tup [vm, vs']) = G at s1 eR ⊢
    refine ⟨d.n, R, [(vm, bm), (vs', bs)], rfl, eR, fun p hp => ?_, ?_⟩
    · rcases List.mem_cons.mp hp with rfl | hp
      · exact im.same s1
      · rw [List.mem_singleton.mp hp]
        exact is.same s1
    rcases h with ⟨rfl, qE⟩ | ⟨rfl, rfl, qE⟩ | ⟨m, s9, rfl, rfl, hm, hs, q⟩
    · exact qE.same s1
    · exact qE.same s1
    · obtain rfl : bm = true := isTh_int im hm
      obtain rfl : bs = true := isTh_int is hs
      show (_ : Prop)
      refine ⟨_, rfl, a, BC, dx, _, _, rfl, s1 _ _ ea, BF.cls, BF.noT, rfl, _, rfl, _, rfl, Nat.le_of_ble_eq_true rfl, fun R2 nR2 => ?_⟩
      have s2 := s1.trans (same_new (o := .tup [.non, .int (s9 : Int), .int (m : Int)]) nR2)
      exact ⟨tb, R2, d.T, rfl, tt.same s2, .inl ⟨s9, m, upd_same, by omega, by omega, fun H' s' => q H' (s2.trans s')⟩⟩
end
def kfP (p : Nat) : Trp → Nat := match p with
  | 0 => k0
  | 1 => k1
  | _ => k2
def gfP (p : Nat) : Trp → Nat := match p with
  | 0 => fun t => t.1
  | 1 => fun t => t.2.1
  | _ => fun t => t.2.2
end L2.K15
set_option Elab.async false
set_option linter.all false
set_option maxRecDepth 100000
set_option maxHeartbeats 8000000
namespace L2.K15
open PySem PySem.Spec PyProof.Rows L2.Tb
open SX (S)
theorem asg_cut {te : TE} {g : TG} {u : TS} {D : Ends} {σ : St} {H : Hp} (Pv : V → Hp → Prop) (hQ : ∀ v H', Pv v H' → g v σ H' (u D)) (h : (∀ v H', Pv v H' → g v σ H' (u D)) → te σ H fun v H' => g v σ H' (u D)) : tSeq (tAsg te g) u D σ H := h hQ
abbrev s_purse : Stmt := top 59
abbrev N_purse : List Str := ["_law_script", "_law_spot", "_law_own", "_law_mixed_here", "_law_cell"]
theorem sc_purse : FnScope N_purse ["_law_script", "_law_spot"] (defScope s_purse) := ⟨rfl, rfl, rfl, by decide +kernel, rfl, by decide +kernel, by decide +kernel⟩
abbrev s_pick : Stmt := top 60
abbrev N_pick : List Str := ["_law_purse_here", "_law_length", "_law_seed", "_law_again", "_law_digit"]
theorem sc_pick : FnScope N_pick ["_law_purse_here", "_law_length"] (defScope s_pick) := ⟨rfl, rfl, rfl, by decide +kernel, rfl, by decide +kernel, by decide +kernel⟩
/-- where the draws come from -/
structure Pk (H : Hp) (p : Addr) : Prop where
  ex : ∃ g m c : Int, H p = some (.lst [.int g, .int m, .int c]) ∧ 0 ≤ g ∧ 0 ≤ m ∧ m < 2147483629
theorem Pk.same {H H' : Hp} {p : Addr} (h : Pk H p) (s : Same H H') : Pk H' p := by
  obtain ⟨g, m, c, e, r⟩ := h.ex
  exact ⟨g, m, c, s _ _ e, r⟩
def spPurse (K : PySem.W.Frag) : Sp := fun vs H Q _ => ∃ (a : Addr) (ns : List Int) (k : Nat), vs = [.ref a, .int (k : Int)] ∧ SqL K H a (ns.map V.int) ∧ ns.length ≤ 64 ∧ k ≤ 64 ∧ ∀ (p : Addr) (H' : Hp), Same H H' → H p = none → Pk H' p → Q (.ref p) H'
def spPick : Sp := fun vs H Q _ => ∃ (p : Addr) (m : Nat), vs = [.ref p, .int (m : Int)] ∧ Pk H p ∧ 0 < m ∧ m < 2 ^ 200 ∧ ∀ (d : Nat) (H' : Hp), d < m → SameB p H H' → Pk H' p → Q (.int (d : Int)) H'
section
variable {P : Program} {w : World} {K : PySem.W.Frag} {mg : Str → Option Value} {base : Heap} {f : Addr} {fd : FuncData}
theorem c_purse (T : Bt mg) (F : FnP K "_law_purse" s_purse f fd) (hm : mg "_law_purse" = some (.ref f)) : Cal P w K mg base 1 "_law_purse" (spPurse K) := by
  have hnd := sc_purse.nd
  refine cal_mk F hm sc_purse (fun _ _ _ _ _ _ us hl => match us, hl with | [_, _], _ => rfl) (fun vs H Q E h => ?_) (fun cdv A outer s H vs Q E hr h => ?_)
  · obtain ⟨a, ns, k, rfl, _⟩ := h
    rfl
  · obtain ⟨a, ns, k, rfl, hS, hl, hk, q⟩ := h
    refine ⟨_, (pss_cons (ps_set (i := 2) hnd rfl (by first | exact Or.inl rfl | exact Or.inr rfl) (pe_ifExp (pt_cmpR op_lt (pv 1) (pe_callB call_len_seq (by rfl) T.m_len (by decide +kernel) (pa_cons (pv 0) pa_nil)) (nomark _)) (pe_ix ix_list (pv 0) (pv 1) (fun _ _ => rfl)) pe_int))
      (pss_cons (ps_set (i := 3) hnd rfl (by first | exact Or.inl rfl | exact Or.inr rfl) (pe_op op_add pe_int (pe_op op_mul pe_int (pv 1))))
      (pss_cons (ps_for PassesOwn.never (by rfl) (pi_list (pe_op op_cat (pe_slice sl_list (pv 0) po_none (po_some pe_int)) (pe_slice sl_list (pv 0) (po_some (pv 1)) (po_some (pe_op op_add (pv 1) pe_int))))) (pg_name (i := 4) hnd rfl (by first | exact Or.inl rfl | exact Or.inr rfl))
      (pss_one (ps_set (i := 3) hnd rfl (by first | exact Or.inl rfl | exact Or.inr rfl) (pe_op op_mod (pe_callTy call_int1 (by rfl) T.m_int (by decide +kernel) (pa_cons (pe_op op_add (pe_op op_add (pe_op op_mul (pv 3) pe_int) (pe_op op_mul (pv 4) pe_int)) pe_int) pa_nil)) pe_int))))
      (pss_one (ps_ret (pe_lst (pa_cons (pe_ifExp (pt_cmpR op_ge (pe_callB call_abs (by rfl) T.m_abs (by decide +kernel) (pa_cons (pv 2) pa_nil)) (pe_op op_pow pe_int pe_int) (nomark _)) (pe_callB call_abs (by rfl) T.m_abs (by decide +kernel) (pa_cons (pv 2) pa_nil)) pe_int) (pa_cons (pv 3) (pa_cons pe_int pa_nil))))))))), ?_⟩
    refine asg_cut (fun v H1 => H1 = H ∧ ∃ z : Int, v = .int z) ?_ fun hQ => ?_
    rotate_left
    · refine ⟨_, rfl, _, rfl, a, _, rfl, .inl hS, _, _, rfl, rfl, _, rfl, ite2 (fun hlt => ?_) (fun hge => ?_)⟩
      · have hl : k < ns.length := by
          have z := of_decide_eq_true hlt
          rw [List.length_map] at z
          omega
        refine ⟨_, rfl, _, rfl, a, _, _, .int (ns[k]), rfl, rfl, hS, atI_nat (by simp [hl]), hQ _ _ ⟨rfl, _, rfl⟩⟩
      · exact hQ _ _ ⟨rfl, _, rfl⟩
    rintro _ H1 ⟨rfl, z, rfl⟩
    refine gname_go ?_
    refine ⟨_, rfl, _, _, rfl, rfl, .inl ⟨by decide, by decide⟩, _, _, rfl, rfl, gname_go ?_⟩
    refine ⟨_, rfl, _, rfl, a, _, rfl, hS, fun p1 n1 => ?_⟩
    have s1 := same_new (o := .lst (cutV (ns.map V.int) none (some 4))) n1
    refine ⟨_, rfl, _, rfl, _, rfl, _, rfl, _, _, rfl, rfl, _, rfl, a, _, rfl, SqX.same (b := false) hS s1, fun p2 n2 => ?_⟩
    have s2 := s1.trans (same_new (o := .lst (cutV (ns.map V.int) (some (k : Int)) (some ((k : Int) + 1)))) n2)
    have l1 := cutV_length (ns.map V.int) none (some 4)
    have l2 := cutV_length (ns.map V.int) (some (k : Int)) (some ((k : Int) + 1))
    rw [List.length_map] at l1 l2
    refine ⟨p1, p2, _, _, rfl, rfl, (same_new n2) _ _ upd_same, upd_same, by rw [sizeLine_eq]; omega, fun p3 n3 => ?_⟩
    have s3 := s2.trans (same_new (o := .lst (cutV (ns.map V.int) none (some 4) ++ cutV (ns.map V.int) (some (k : Int)) (some ((k : Int) + 1)))) n3)
    have e3 := upd_same (H := upd (upd H1 p1 (.lst (cutV (ns.map V.int) none (some 4)))) p2 (.lst (cutV (ns.map V.int) (some (k : Int)) (some ((k : Int) + 1))))) (a := p3) (o := .lst (cutV (ns.map V.int) none (some 4) ++ cutV (ns.map V.int) (some (k : Int)) (some ((k : Int) + 1))))
    generalize upd (upd (upd H1 p1 (.lst (cutV (ns.map V.int) none (some 4)))) p2 (.lst (cutV (ns.map V.int) (some (k : Int)) (some ((k : Int) + 1))))) p3 (.lst (cutV (ns.map V.int) none (some 4) ++ cutV (ns.map V.int) (some (k : Int)) (some ((k : Int) + 1)))) = G at s3 e3 ⊢
    refine ⟨p3, rfl, ⟨_, SqL.of e3⟩, for_list (K := K) (a := p3) (xs := cutV (ns.map V.int) none (some 4) ++ cutV (ns.map V.int) (some (k : Int)) (some ((k : Int) + 1))) (fun i σ H' => ∃ (m : Int) (v : Option V), σ = [some (.ref a), some (.int k), some (.int z), some (.int m), v] ∧ H' = G ∧ 0 ≤ m ∧ m < 2147483629)
      ⟨_, none, rfl, rfl, by omega, by omega⟩ (fun i σ H' _ ⟨_, _, _, e, _⟩ => by rw [e]; exact SqL.of e3) ?_ ?_⟩
    · rintro i y σ H' hi ⟨m, v, rfl, rfl, h0, h1⟩
      obtain ⟨u, rfl⟩ : ∃ u, y = V.int u := by
        have hm : y ∈ ns.map V.int := by
          rcases List.mem_append.mp (List.mem_of_getElem? hi) with h | h
          · exact List.mem_of_mem_drop (List.mem_of_mem_take h)
          · exact List.mem_of_mem_drop (List.mem_of_mem_take h)
        obtain ⟨u, hu, rfl⟩ := List.mem_map.mp hm
        exact ⟨u, rfl⟩
      refine ⟨_, rfl, _, _, rfl, rfl, .inr ⟨by decide, by decide⟩, _, rfl, _, _, rfl, rfl, .inr ⟨by decide, by decide⟩, _, _, rfl, rfl, _, _, rfl, rfl, .inl ⟨_, rfl, _, _, rfl, rfl, by show (0 : Int) < 2147483587; decide, ?_⟩⟩
      exact ⟨_, _, rfl, rfl, Int.emod_nonneg _ (by decide), Int.lt_trans (Int.emod_lt_of_pos _ (by decide)) (by decide)⟩
    · rintro σ H' ⟨m, v, rfl, rfl, h0, h1⟩
      have fin : ∀ p, H' p = none → ∀ g : Int, 0 ≤ g → Q (.ref p) (upd H' p (.lst [.int g, .int m, .int 0])) := fun p np g hg => q _ _ (s3.trans (same_new np)) (none_back s3 np) ⟨_, _, _, upd_same, hg, h0, h1⟩
      refine ⟨_, rfl, _, rfl, _, _, rfl, rfl, ⟨by decide, by decide, by decide⟩, _, _, rfl, rfl, _, rfl, ite2 (fun hlt => ?_) (fun hge => ?_)⟩
      · refine ⟨_, rfl, _, rfl, _, rfl, Nat.le_of_ble_eq_true rfl, fun p np => fin p np _ ?_⟩
        split <;> omega
      · exact ⟨_, rfl, Nat.le_of_ble_eq_true rfl, fun p np => fin p np 0 (by decide)⟩
theorem c_pick (T : Bt mg) (F : FnP K "_law_pick" s_pick f fd) (hm : mg "_law_pick" = some (.ref f)) : Cal P w K mg base 1 "_law_pick" spPick := by
  have hnd := sc_pick.nd
  refine cal_mk F hm sc_pick (fun _ _ _ _ _ _ us hl => match us, hl with | [_, _], _ => rfl) (fun vs H Q E h => ?_) (fun cdv A outer s H vs Q E hr h => ?_)
  · obtain ⟨p, m, rfl, _⟩ := h
    rfl
  · obtain ⟨p, m, rfl, hp, m0, m1, q⟩ := h
    obtain ⟨g, st, c, e, g0, h0, h1⟩ := hp.ex
    refine ⟨_, (pss_cons (ps_asg (pe_op op_add (pe_ix (show IxR _ (rIxL K) from ix_list) (pv 0) pe_int (fun _ _ => rfl)) pe_int) (pg_sub (pv 0) pe_int set_list))
      (pss_cons (ps_set (i := 2) hnd rfl (by first | exact Or.inl rfl | exact Or.inr rfl) (pe_callTy call_int1 (by rfl) T.m_int (by decide +kernel) (pa_cons (pe_ix (show IxR _ (rIxL K) from ix_list) (pv 0) pe_int (fun _ _ => rfl)) pa_nil)))
      (pss_cons (ps_set (i := 3) hnd rfl (by first | exact Or.inl rfl | exact Or.inr rfl) (pe_op op_mul (pe_op op_add (pe_op op_mod (pe_callTy call_int1 (by rfl) T.m_int (by decide +kernel) (pa_cons (pv 2) pa_nil)) pe_int) pe_int) (pe_op op_add (pe_op op_fdiv (pv 2) pe_int) pe_int)))
      (pss_cons (ps_asg (pe_op op_mod (pe_callTy call_int1 (by rfl) T.m_int (by decide +kernel) (pa_cons (pe_op op_add (pv 3) (pe_op op_mul (pe_ix (show IxR _ (rIxL K) from ix_list) (pv 0) pe_int (fun _ _ => rfl)) pe_int)) pa_nil)) pe_int) (pg_sub (pv 0) pe_int set_list))
      (pss_cons (ps_if (pt_cmpR op_gt (pe_ix (show IxR _ (rIxL K) from ix_list) (pv 0) pe_int (fun _ _ => rfl)) pe_int (nomark _))
      (pss_cons (ps_asg (pe_callB call_divmodW (by rfl) T.m_divmod (by decide +kernel) (pa_cons (pe_ix (show IxR _ (rIxL K) from ix_list) (pv 0) pe_int (fun _ _ => rfl)) (pa_cons (pv 1) pa_nil))) (pg_tup (by rfl) (pgs_cons (pg_sub (pv 0) pe_int set_list) (pgs_cons (pg_name (i := 4) hnd rfl (by first | exact Or.inl rfl | exact Or.inr rfl)) pgs_nil))))
      (pss_one (ps_ret (pv 4))))
      pss_nil)
      (pss_one (ps_ret (pe_op op_mod (pe_callTy call_int1 (by rfl) T.m_int (by decide +kernel) (pa_cons (pe_op op_fdiv (pe_ix (show IxR _ (rIxL K) from ix_list) (pv 0) pe_int (fun _ _ => rfl)) pe_int) pa_nil)) (pv 1))))))))), ?_⟩
    refine ⟨_, rfl, p, _, _, _, rfl, rfl, SqL.of e, rfl, _, _, rfl, rfl, _, rfl, p, _, _, 2, rfl, rfl, e, rfl, ?_⟩
    have e1 : (upd H p (.lst ([V.int g, .int st, .int c].set 2 (.int (c + 1))))) p = some (.lst [.int g, .int st, .int (c + 1)]) := upd_same
    refine ⟨_, rfl, p, _, _, _, rfl, rfl, SqL.of e1, rfl, .inl ⟨_, rfl, gname_go ?_⟩⟩
    refine ⟨_, rfl, .inl ⟨_, rfl, _, _, rfl, rfl, by show (0 : Int) < 65521; decide, _, _, rfl, rfl, _, rfl, _, _, rfl, rfl, ⟨by decide, by decide⟩, _, _, rfl, rfl, _, _, rfl, rfl, ?_, gname_go ?_⟩⟩
    · exact .inl ⟨by omega, by omega⟩
    refine ⟨_, rfl, _, rfl, p, _, _, _, rfl, rfl, SqL.of e1, rfl, _, _, rfl, rfl, .inr ⟨by decide, by decide⟩, _, _, rfl, rfl, .inl ⟨_, rfl, _, _, rfl, rfl, by show (0 : Int) < 2147483629; decide, _, rfl, p, _, _, 1, rfl, rfl, e1, rfl, ?_⟩⟩
    dsimp only
    generalize hm2 : ((st % 65521 + 29) * (st / 65521 + 40503) + (c + 1) * 7919) % 2147483629 = st2
    have z0 : 0 ≤ st2 := hm2 ▸ Int.emod_nonneg _ (by decide)
    have z1 : st2 < 2147483629 := hm2 ▸ Int.emod_lt_of_pos _ (by decide)
    have e2 : (upd (upd H p (.lst ([V.int g, .int st, .int c].set 2 (.int (c + 1))))) p (.lst ([V.int g, .int st, .int (c + 1)].set 1 (.int st2)))) p = some (.lst [.int g, .int st2, .int (c + 1)]) := upd_same
    have s2 : SameB p H (upd (upd H p (.lst ([V.int g, .int st, .int c].set 2 (.int (c + 1))))) p (.lst ([V.int g, .int st, .int (c + 1)].set 1 (.int st2)))) := SameB.set.put
    generalize upd (upd H p (.lst ([V.int g, .int st, .int c].set 2 (.int (c + 1))))) p (.lst ([V.int g, .int st, .int (c + 1)].set 1 (.int st2))) = G at e2 s2 ⊢
    have toNat : ∀ {z : Int} {H' : Hp}, 0 ≤ z → z < m → SameB p H H' → Pk H' p → Q (.int z) H' := fun {z H'} a b s k => by
      have := q z.toNat H' (by omega) s k
      rwa [show ((z.toNat : Nat) : Int) = z by omega] at this
    refine ⟨_, rfl, p, _, _, _, rfl, rfl, SqL.of e2, rfl, _, _, rfl, rfl, _, rfl, ite2 (fun hgt => ?_) (fun hle => ?_)⟩
    · refine ⟨_, rfl, p, _, _, _, rfl, rfl, SqL.of e2, rfl, _, rfl, _, _, rfl, divp_small (by omega) (by exact_mod_cast m1), fun t nt => ?_⟩
      have npt : p ≠ t := ne_of_none e2 nt
      have e3 := Eq.trans (upd_ne (o := .tup [.int (g / m), .int (g % m)]) npt) e2
      refine ⟨t, _, rfl, SqT.of upd_same, rfl, _, _, rfl, ⟨_, rfl, p, _, _, 0, rfl, rfl, e3, rfl, _, _, rfl, rfl, _, rfl, ?_⟩⟩
      refine toNat (Int.emod_nonneg _ (by omega)) (Int.emod_lt_of_pos _ (by omega)) (SameB.put fun b o n h => ?_) ⟨_, _, _, upd_same, Int.ediv_nonneg g0 (by omega), z0, z1⟩
      exact same_new nt _ _ (s2 b o n h)
    · refine ⟨_, rfl, p, _, _, _, rfl, rfl, SqL.of e2, rfl, _, _, rfl, rfl, ⟨by decide, by decide⟩, .inl ⟨_, rfl, _, rfl, _, _, rfl, rfl, by show (0 : Int) < (m : Int); omega, ?_⟩⟩
      exact toNat (Int.emod_nonneg _ (by omega)) (Int.emod_lt_of_pos _ (by omega)) s2 ⟨_, _, _, e2, g0, z0, z1⟩
end
end L2.K15
set_option Elab.async false
set_option linter.all false
set_option maxRecDepth 100000
set_option maxHeartbeats 8000000
namespace L2.K15
open PySem PySem.Spec PyProof.Rows L2.Tb
open SX (S)
abbrev s_lkind : Stmt := top 61
abbrev N_lkind : List Str := ["_law_purse_here", "_law_lots"]
theorem sc_lkind : FnScope N_lkind ["_law_purse_here"] (defScope s_lkind) := ⟨rfl, rfl, rfl, by decide +kernel, rfl, by decide +kernel, by decide +kernel⟩
abbrev s_lturns : Stmt := top 62
abbrev N_lturns : List Str := ["_law_lot", "_law_lots"]
theorem sc_lturns : FnScope N_lturns ["_law_lot"] (defScope s_lturns) := ⟨rfl, rfl, rfl, by decide +kernel, rfl, by decide +kernel, by decide +kernel⟩
abbrev s_limages : Stmt := top 63
abbrev N_limages : List Str := ["_law_lot", "_law_triple", "_law_found", "_law_turn", "_law_image"]
theorem sc_limages : FnScope N_limages ["_law_lot", "_law_triple"] (defScope s_limages) := ⟨rfl, rfl, rfl, by decide +kernel, rfl, by decide +kernel, by decide +kernel⟩
def LotL (H : Hp) (l : Addr) (lot : List Turn) : Prop := ∃ ts : List Addr, H l = some (.lst (ts.map V.ref)) ∧ Paired (fun t u => H t = some (.tup (turnV u))) ts lot
theorem LotL.same {H H' : Hp} {l : Addr} {lot : List Turn} (h : LotL H l lot) (s : Same H H') : LotL H' l lot := by
  obtain ⟨ts, h1, h2⟩ := h
  exact ⟨ts, s _ _ h1, paired_imp (fun _ _ e => s _ _ e) h2⟩
theorem LotL.keep {H H' : Hp} {p l : Addr} {kvs : List (Key × V)} {lot : List Turn} (h : LotL H l lot) (hp : H p = some (.dK kvs)) (s : SameB p H H') : LotL H' l lot := by
  obtain ⟨ts, h1, h2⟩ := h
  refine ⟨ts, s _ _ (fun z => ?_) h1, paired_imp (fun t u e => s _ _ (fun z => ?_) e) h2⟩
  · rw [z, hp] at h1
    cases h1
  · rw [z, hp] at e
    cases e
def tLotT : List Turn → TA
  | [] => tNil
  | t :: r => tCons (tTup (tCons (tC (.int t.1)) (tCons (tC (.int t.2.1)) (tCons (tC (.int t.2.2)) tNil)))) (tLotT r)
theorem lot_args : ∀ (lot : List Turn) {σ : St} {H : Hp} {R : List V → Hp → Prop}, (∀ (ts : List Addr) (H' : Hp), Same H H' → Paired (fun t u => H' t = some (.tup (turnV u))) ts lot → R (ts.map V.ref) H') → tLotT lot σ H R
  | [], σ, H, R, h => h [] H (fun _ _ e => e) .nil
  | t :: r, σ, H, R, h => ⟨Nat.le_of_ble_eq_true rfl, fun p np => lot_args r fun ts H' s hp => h (p :: ts) H' ((same_new np).trans s) (.cons (s _ _ upd_same) hp)⟩
theorem lot_run (lot : List Turn) (hz : lot.length ≤ 100) {σ : St} {H : Hp} {Q : VK} (h : ∀ (l : Addr) (H' : Hp), Same H H' → LotL H' l lot → Q (.ref l) H') : tLst (tLotT lot) σ H Q := by
  refine lot_args lot fun ts H' s hp => ⟨?_, fun l n => ?_⟩
  · rw [List.length_map, Paired.length hp, sizeLine_eq]
    omega
  · have s2 := same_new (o := .lst (ts.map V.ref)) n
    exact h l _ (s.trans s2) ⟨ts, upd_same, paired_imp (fun _ _ e => s2 _ _ e) hp⟩
theorem pair_step {k : Str} {tv : TE} {r : List (TE × TE)} {σ : St} {H : Hp} {Q : List (V × V) → Hp → Prop} (h : tv σ H fun y H2 => tPairs r σ H2 fun ps H3 => Q ((.str k, y) :: ps) H3) : tPairs ((tC (.str k), tv) :: r) σ H Q := h
theorem asg_step {te : TE} {g : TG} {b : TS} {D : Ends} {σ : St} {H : Hp} (h : te σ H fun x H1 => g x σ H1 (b D)) : tSeq (tAsg te g) b D σ H := h
/-- a drawn kind -/
def spLkind : Sp := fun vs H Q _ => ∃ p : Addr, vs = [.ref p] ∧ Pk H p ∧ ∀ (q : Addr) (z : Str) (b : Bool) (H' : Hp), wordsD.contains z = true → SameB p H H' → Pk H' p → H' q = some (.tup [.str z, .bl b]) → Q (.ref q) H'
/-- the turns besides the first -/
def restD : List (Str × List Turn) := [("plain", []), ("sides", [(1, 0, 2)]), ("front", [(2, 1, 0)]), ("back", [(0, 2, 1)]), ("round", [(1, 2, 0), (2, 0, 1)]), ("all", [(0, 2, 1), (1, 0, 2), (1, 2, 0), (2, 0, 1), (2, 1, 0)])]
def spLturns : Sp := fun vs H Q _ => ∃ z : Str, vs = [.str z] ∧ wordsD.contains z = true ∧ ∀ (l : Addr) (H' : Hp), Same H H' → LotL H' l (lotOf z) → Q (.ref l) H'
theorem lot_rest : ∀ z ∈ wordsD, ∃ r, restD.lookup z = some r ∧ lotOf z = (0, 1, 2) :: r := by
  intro z hz
  have h : ∀ z ∈ wordsD, (match restD.lookup z with
    | some r => decide (lotOf z = (0, 1, 2) :: r)
    | none => false) = true := by decide +kernel
  have := h z hz
  cases e : restD.lookup z with
  | none => rw [e] at this; cases this
  | some r =>
    rw [e] at this
    exact ⟨r, rfl, of_decide_eq_true this⟩
theorem lots_val {H : Hp} : ∀ {kvs : List (Key × V)} {ds : List (Str × List Turn)} {z : Str} {r : List Turn}, Paired (fun (kv : Key × V) (d : Str × List Turn) => kv.1 = Sum.inr d.1 ∧ ∃ l, kv.2 = V.ref l ∧ LotL H l d.2) kvs ds → ds.lookup z = some r → ∃ l, valV kvs (.inr z) = some (.ref l) ∧ LotL H l r
  | _, _, z, r, .nil, h => by cases h
  | (k, v) :: kvs, (y, lot) :: ds, z, r, .cons ⟨hk, l, hv, q⟩ t, h => by
    have hk : k = Sum.inr y := hk
    have hv : v = V.ref l := hv
    subst hk
    subst hv
    by_cases c : z = y
    · subst c
      rw [List.lookup_cons_self] at h
      cases h
      exact ⟨l, valV_pos rfl, q⟩
    · have hne : (z == y) = false := by simpa using c
      rw [List.lookup_cons, hne] at h
      obtain ⟨l2, h1, h2⟩ := lots_val t h
      exact ⟨l2, by rw [valV_neg (fun e => c (by injection e with e; exact e.symm))]; exact h1, h2⟩
theorem rest_len (z : Str) (r : List Turn) (h : restD.lookup z = some r) : r.length ≤ 5 := by
  have g : ∀ d ∈ restD, d.2.length ≤ 5 := by decide +kernel
  have : ∀ (ds : List (Str × List Turn)), (∀ d ∈ ds, d.2.length ≤ 5) → ds.lookup z = some r → r.length ≤ 5 := by
    intro ds
    induction ds with
    | nil => intro _ h; cases h
    | cons d ds ih =>
      intro hd h
      rw [List.lookup_cons] at h
      split at h
      · cases h
        exact hd d List.mem_cons_self
      · exact ih (fun x hx => hd x (List.mem_cons_of_mem _ hx)) h
  exact this _ g h
/-- different images in the order of the turns -/
def imgsL (t : Trp) (lot : List Turn) : List Trp := lot.foldl (fun acc u => if imgT t u ∈ acc then acc else acc ++ [imgT t u]) []
def TrpsAt (H : Hp) (l : Addr) (ts : List Trp) : Prop := ∃ qs : List Addr, H l = some (.lst (qs.map V.ref)) ∧ Paired (TrpAt H) qs ts
theorem TrpsAt.same {H H' : Hp} {l : Addr} {ts : List Trp} (h : TrpsAt H l ts) (s : Same H H') : TrpsAt H' l ts := let ⟨qs, a, b⟩ := h; ⟨qs, s _ _ a, paired_imp (fun _ _ e => s _ _ e) b⟩
def spLimages (K : PySem.W.Frag) : Sp := fun vs H Q _ => ∃ (z : Str) (q : Addr) (t : Trp), vs = [.str z, .ref q] ∧ wordsD.contains z = true ∧ SqT K H q (tV t) ∧ ∀ (l : Addr) (H' : Hp), Same H H' → H l = none → TrpsAt H' l (imgsL t (lotOf z)) → Q (.ref l) H'
def trpD (t : Trp) : PyData := .tuple [.int (t.1 : Nat), .int (t.2.1 : Nat), .int (t.2.2 : Nat)]
theorem dp_trp {K : PySem.W.Frag} {H : Hp} {q : Addr} {t : Trp} (h : SqT K H q (tV t)) : Dp K H (.ref q) (trpD t) := .tup h (.cons (.int _) (.cons (.int _) (.cons (.int _) .nil)))
theorem dp_trps {K : PySem.W.Frag} {H : Hp} : ∀ {qs : List Addr} {ts : List Trp}, Paired (TrpAt H) qs ts → DpAll K H (qs.map V.ref) (ts.map trpD)
  | _, _, .nil => .nil
  | _, _, .cons h r => .cons (dp_trp (SqT.of h)) (dp_trps r)
theorem dp_trpL {K : PySem.W.Frag} {H : Hp} {l : Addr} {ts : List Trp} (h : TrpsAt H l ts) : Dp K H (.ref l) (.list (ts.map trpD)) := by
  obtain ⟨qs, e, p⟩ := h
  exact .lst (SqL.of e) (dp_trps p)
theorem eqv_trp {s t : Trp} : PyData.eqv (trpD s) (trpD t) = decide (s = t) := by
  obtain ⟨a, b, c⟩ := s
  obtain ⟨a', b', c'⟩ := t
  unfold trpD
  rw [Bool.eq_iff_iff]
  simp [PyData.eqv, PyData.eqvAll]
  omega
theorem trps_lay : ∀ ts : List Trp, PyData.canLayAll0 (ts.map trpD) = true
  | [] => rfl
  | t :: ts => by
    rw [List.map_cons]
    simp only [PyData.canLayAll0, trpD, PyData.canLay0, Bool.and_eq_true]
    exact ⟨by simp [PyData.canLayAll0, PyData.canLay0], trps_lay ts⟩
theorem trps_depth : ∀ ts : List Trp, PyData.depthAll (ts.map trpD) ≤ 1
  | [] => by simp [PyData.depthAll]
  | t :: ts => by
    have h := trps_depth ts
    have h2 : (trpD t).depth = 1 := by simp [trpD, PyData.depth, PyData.depthAll]
    simp only [List.map_cons, PyData.depthAll]
    omega
theorem shaped_trps (ts : List Trp) : SeqAt.shaped (.list (ts.map trpD)) = true := by
  show (PyData.canLay0 (.list (ts.map trpD)) && decide (PyData.depth (.list (ts.map trpD)) ≤ 64)) = true
  rw [Bool.and_eq_true]
  exact ⟨by simp only [PyData.canLay0]; exact trps_lay ts, decide_eq_true (by have := trps_depth ts; simp only [PyData.depth]; omega)⟩
theorem any_trp {s : Trp} {ts : List Trp} : (ts.map trpD).any (fun z => PyData.eqv z (trpD s)) = decide (s ∈ ts) := by
  rw [List.any_map, Bool.eq_iff_iff, decide_eq_true_iff, List.any_eq_true]
  constructor
  · rintro ⟨x, hx, e⟩
    have e : PyData.eqv (trpD x) (trpD s) = true := e
    rw [eqv_trp, decide_eq_true_iff] at e
    exact e ▸ hx
  · intro h
    exact ⟨s, h, by show PyData.eqv (trpD s) (trpD s) = true; rw [eqv_trp, decide_eq_true_iff]⟩
theorem imgs_take {t : Trp} {lot : List Turn} {i : Nat} {u : Turn} (h : lot[i]? = some u) : imgsL t (lot.take (i + 1)) = if imgT t u ∈ imgsL t (lot.take i) then imgsL t (lot.take i) else imgsL t (lot.take i) ++ [imgT t u] := by
  unfold imgsL
  rw [take_at h, List.foldl_append]
  rfl
theorem imgs_len {t : Trp} : ∀ lot : List Turn, ∀ acc : List Trp, (lot.foldl (fun acc u => if imgT t u ∈ acc then acc else acc ++ [imgT t u]) acc).length ≤ acc.length + lot.length
  | [], acc => Nat.le_refl _
  | u :: lot, acc => by
    rw [List.foldl_cons, List.length_cons]
    have := imgs_len (t := t) lot (if imgT t u ∈ acc then acc else acc ++ [imgT t u])
    have h2 : (if imgT t u ∈ acc then acc else acc ++ [imgT t u]).length ≤ acc.length + 1 := by
      split
      · omega
      · rw [List.length_append, List.length_singleton]
        exact Nat.le_refl _
    omega
section
variable {P : Program} {w : World} {K : PySem.W.Frag} {mg : Str → Option Value} {base : Heap} {f : Addr} {fd : FuncData}
theorem c_lkind (T : Bt mg) (k_pick : Cal P w K mg base 1 "_law_pick" spPick) (F : FnP K "_law_kind" s_lkind f fd) (hm : mg "_law_kind" = some (.ref f)) : Cal P w K mg base 2 "_law_kind" spLkind := by
  have hnd := sc_lkind.nd
  refine cal_mk F hm sc_lkind (fun _ _ _ _ _ _ us hl => match us, hl with | [_], _ => rfl) (fun vs H Q E h => ?_) (fun cdv A outer s H vs Q E hr h => ?_)
  · obtain ⟨p, rfl, _⟩ := h
    rfl
  · obtain ⟨p, rfl, hp, q⟩ := h
    refine ⟨_, (pss_cons (ps_set (i := 1) hnd rfl (by first | exact Or.inl rfl | exact Or.inr rfl) (pe_lst (pa_cons pe_str (pa_cons pe_str (pa_cons pe_str (pa_cons pe_str (pa_cons pe_str (pa_cons pe_str (pa_cons pe_str pa_nil)))))))))
      (pss_one (ps_ret (pe_tup (pa_cons (pe_ix (show IxR _ (rIxL K) from ix_list) (pv 1) (pe_cal k_pick hr (by omega) (by rfl) (pa_cons (pv 0) (pa_cons pe_int pa_nil))) (fun _ _ => rfl)) (pa_cons (pe_cmpR op_eq (pe_cal k_pick hr (by omega) (by rfl) (pa_cons (pv 0) (pa_cons pe_int pa_nil))) pe_int (nomark _)) pa_nil)))))), ?_⟩
    refine ⟨Nat.le_of_ble_eq_true rfl, fun L nL => gname_go ?_⟩
    have s1 := same_new (o := .lst [.str "plain", .str "sides", .str "front", .str "back", .str "round", .str "all", .str "plain"]) nL
    have eL := upd_same (H := H) (a := L) (o := .lst [.str "plain", .str "sides", .str "front", .str "back", .str "round", .str "all", .str "plain"])
    have npL : L ≠ p := fun z => by
      obtain ⟨g, m, c, e, _⟩ := hp.ex
      rw [z, e] at nL
      cases nL
    generalize upd H L (.lst [.str "plain", .str "sides", .str "front", .str "back", .str "round", .str "all", .str "plain"]) = G at s1 eL ⊢
    refine ⟨_, rfl, _, rfl, p, 7, rfl, hp.same s1, by decide, by decide, fun d H1 hd b1 pk1 => ?_⟩
    obtain ⟨z, hx, hz⟩ : ∃ z : Str, [V.str "plain", .str "sides", .str "front", .str "back", .str "round", .str "all", .str "plain"][d]? = some (.str z) ∧ wordsD.contains z = true := match d, hd with
      | 0, _ => ⟨_, rfl, by decide +kernel⟩
      | 1, _ => ⟨_, rfl, by decide +kernel⟩
      | 2, _ => ⟨_, rfl, by decide +kernel⟩
      | 3, _ => ⟨_, rfl, by decide +kernel⟩
      | 4, _ => ⟨_, rfl, by decide +kernel⟩
      | 5, _ => ⟨_, rfl, by decide +kernel⟩
      | 6, _ => ⟨_, rfl, by decide +kernel⟩
      | d + 7, h => absurd h (by omega)
    refine ⟨L, _, _, .str z, rfl, rfl, SqL.of (b1 _ _ npL eL), atI_nat hx, ?_⟩
    refine ⟨_, rfl, p, 3, rfl, pk1, by decide, by decide, fun d2 H2 hd2 b2 pk2 => ⟨rfl, Nat.le_of_ble_eq_true rfl, fun R nR => ?_⟩⟩
    refine q R z _ _ hz (fun b o n e => (same_new nR) _ _ (b2 _ _ n (b1 _ _ n (s1 _ _ e)))) (pk2.same (same_new nR)) upd_same
theorem c_lturns (F : FnP K "_law_turns" s_lturns f fd) (hm : mg "_law_turns" = some (.ref f)) : Cal P w K mg base 1 "_law_turns" spLturns := by
  have hnd := sc_lturns.nd
  refine cal_mk F hm sc_lturns (fun _ _ _ _ _ _ us hl => match us, hl with | [_], _ => rfl) (fun vs H Q E h => ?_) (fun cdv A outer s H vs Q E hr h => ?_)
  · obtain ⟨z, rfl, _⟩ := h
    rfl
  · obtain ⟨z, rfl, hz, q⟩ := h
    refine ⟨_, (pss_cons (ps_set (i := 1) hnd rfl (by first | exact Or.inl rfl | exact Or.inr rfl) (pe_disp (pps_cons pe_str (pe_lst pa_nil) (pps_cons pe_str (pe_lst (pa_cons (pe_tup (pa_cons pe_int (pa_cons pe_int (pa_cons pe_int pa_nil)))) pa_nil)) (pps_cons pe_str (pe_lst (pa_cons (pe_tup (pa_cons pe_int (pa_cons pe_int (pa_cons pe_int pa_nil)))) pa_nil)) (pps_cons pe_str (pe_lst (pa_cons (pe_tup (pa_cons pe_int (pa_cons pe_int (pa_cons pe_int pa_nil)))) pa_nil)) pps_nil)))) (by rfl) (by rfl) (fun z => by cases z) (by decide)))
      (pss_cons (ps_asg (pe_lst (pa_cons (pe_tup (pa_cons pe_int (pa_cons pe_int (pa_cons pe_int pa_nil)))) (pa_cons (pe_tup (pa_cons pe_int (pa_cons pe_int (pa_cons pe_int pa_nil)))) pa_nil))) (pg_sub (pv 1) pe_str (set_dict (Nat.lt_of_le_of_lt (Nat.add_le_add_left (by decide) _) hr.units))))
      (pss_cons (ps_asg (pe_lst (pa_cons (pe_tup (pa_cons pe_int (pa_cons pe_int (pa_cons pe_int pa_nil)))) (pa_cons (pe_tup (pa_cons pe_int (pa_cons pe_int (pa_cons pe_int pa_nil)))) (pa_cons (pe_tup (pa_cons pe_int (pa_cons pe_int (pa_cons pe_int pa_nil)))) (pa_cons (pe_tup (pa_cons pe_int (pa_cons pe_int (pa_cons pe_int pa_nil)))) (pa_cons (pe_tup (pa_cons pe_int (pa_cons pe_int (pa_cons pe_int pa_nil)))) pa_nil)))))) (pg_sub (pv 1) pe_str (set_dict (Nat.lt_of_le_of_lt (Nat.add_le_add_left (by decide) _) hr.units))))
      (pss_one (ps_ret (pe_op op_cat (pe_lst (pa_cons (pe_tup (pa_cons pe_int (pa_cons pe_int (pa_cons pe_int pa_nil)))) pa_nil)) (pe_dget (Nat.lt_of_le_of_lt (Nat.add_le_add_left (by decide) _) hr.units) (pv 1) (pv 0) (fun _ _ => rfl)))))))), ?_⟩
    refine fun p np => ?_
    have y0 := same_new (o := .dK []) np
    have f0 := upd_same (H := H) (a := p) (o := .dK [])
    generalize upd H p (.dK []) = G0 at y0 f0 ⊢
    refine pair_step (lot_run [] (by decide) fun l0 G1 s1 q0 => pair_step (lot_run [(1, 0, 2)] (by decide) fun l1 G2 s2 q1 => pair_step (lot_run [(2, 1, 0)] (by decide) fun l2 G3 s3 q2 => pair_step (lot_run [(0, 2, 1)] (by decide) fun l3 G4 s4 q3 => ?_))))
    have f4 := s4 _ _ (s3 _ _ (s2 _ _ (s1 _ _ f0)))
    refine ⟨f4, [(.inr ("plain" : Str), .ref l0), (.inr ("sides" : Str), .ref l1), (.inr ("front" : Str), .ref l2), (.inr ("back" : Str), .ref l3)], rfl, Nat.le_of_ble_eq_true rfl, ?_⟩
    have b4 : SameB p G4 (upd G4 p (.dK (mergeK [] [(.inr ("plain" : Str), .ref l0), (.inr ("sides" : Str), .ref l1), (.inr ("front" : Str), .ref l2), (.inr ("back" : Str), .ref l3)]))) := SameB.set
    have e4 : upd G4 p (.dK (mergeK [] [(.inr ("plain" : Str), .ref l0), (.inr ("sides" : Str), .ref l1), (.inr ("front" : Str), .ref l2), (.inr ("back" : Str), .ref l3)])) p = some (.dK [(.inr ("plain" : Str), .ref l0), (.inr ("sides" : Str), .ref l1), (.inr ("front" : Str), .ref l2), (.inr ("back" : Str), .ref l3)]) := upd_same
    show gName 1 _ _ (upd G4 p (.dK (mergeK [] [(.inr ("plain" : Str), .ref l0), (.inr ("sides" : Str), .ref l1), (.inr ("front" : Str), .ref l2), (.inr ("back" : Str), .ref l3)]))) _
    generalize upd G4 p (.dK (mergeK [] [(.inr ("plain" : Str), .ref l0), (.inr ("sides" : Str), .ref l1), (.inr ("front" : Str), .ref l2), (.inr ("back" : Str), .ref l3)])) = K4 at b4 e4 ⊢
    have B4 : SameB p H K4 := (SameB.of (y0.trans (s1.trans (s2.trans (s3.trans s4))))).trans b4
    have q0 := (((q0.same s2).same s3).same s4).keep f4 b4
    have q1 := ((q1.same s3).same s4).keep f4 b4
    have q2 := (q2.same s4).keep f4 b4
    have q3 := q3.keep f4 b4
    refine gname_go ?_
    try dsimp only
    refine asg_step (lot_run [(1, 2, 0), (2, 0, 1)] (by decide) fun l4 G5 s5 q4 => ?_)
    have f5 := s5 _ _ e4
    refine ⟨_, rfl, p, _, rfl, DPut.k (k := .inr ("round" : Str)) f5 (by rw [sizeLine_eq]; exact Nat.le_of_ble_eq_true rfl), ?_⟩
    have b5 : SameB p G5 (upd G5 p (.dK (putK [(.inr ("plain" : Str), .ref l0), (.inr ("sides" : Str), .ref l1), (.inr ("front" : Str), .ref l2), (.inr ("back" : Str), .ref l3)] (.inr ("round" : Str)) (.ref l4)))) := SameB.set
    have e5 : upd G5 p (.dK (putK [(.inr ("plain" : Str), .ref l0), (.inr ("sides" : Str), .ref l1), (.inr ("front" : Str), .ref l2), (.inr ("back" : Str), .ref l3)] (.inr ("round" : Str)) (.ref l4))) p = some (.dK [(.inr ("plain" : Str), .ref l0), (.inr ("sides" : Str), .ref l1), (.inr ("front" : Str), .ref l2), (.inr ("back" : Str), .ref l3), (.inr ("round" : Str), .ref l4)]) := upd_same
    show tSeq _ _ _ _ (upd G5 p (.dK (putK [(.inr ("plain" : Str), .ref l0), (.inr ("sides" : Str), .ref l1), (.inr ("front" : Str), .ref l2), (.inr ("back" : Str), .ref l3)] (.inr ("round" : Str)) (.ref l4))))
    generalize upd G5 p (.dK (putK [(.inr ("plain" : Str), .ref l0), (.inr ("sides" : Str), .ref l1), (.inr ("front" : Str), .ref l2), (.inr ("back" : Str), .ref l3)] (.inr ("round" : Str)) (.ref l4))) = K5 at b5 e5 ⊢
    have B5 := (B4.trans (SameB.of s5)).trans b5
    have q0 := (q0.same s5).keep f5 b5
    have q1 := (q1.same s5).keep f5 b5
    have q2 := (q2.same s5).keep f5 b5
    have q3 := (q3.same s5).keep f5 b5
    have q4 := q4.keep f5 b5
    refine asg_step (lot_run [(0, 2, 1), (1, 0, 2), (1, 2, 0), (2, 0, 1), (2, 1, 0)] (by decide) fun l5 G6 s6 q5 => ?_)
    have f6 := s6 _ _ e5
    refine ⟨_, rfl, p, _, rfl, DPut.k (k := .inr ("all" : Str)) f6 (by rw [sizeLine_eq]; exact Nat.le_of_ble_eq_true rfl), ?_⟩
    have b6 : SameB p G6 (upd G6 p (.dK (putK [(.inr ("plain" : Str), .ref l0), (.inr ("sides" : Str), .ref l1), (.inr ("front" : Str), .ref l2), (.inr ("back" : Str), .ref l3), (.inr ("round" : Str), .ref l4)] (.inr ("all" : Str)) (.ref l5)))) := SameB.set
    have e6 : upd G6 p (.dK (putK [(.inr ("plain" : Str), .ref l0), (.inr ("sides" : Str), .ref l1), (.inr ("front" : Str), .ref l2), (.inr ("back" : Str), .ref l3), (.inr ("round" : Str), .ref l4)] (.inr ("all" : Str)) (.ref l5))) p = some (.dK [(.inr ("plain" : Str), .ref l0), (.inr ("sides" : Str), .ref l1), (.inr ("front" : Str), .ref l2), (.inr ("back" : Str), .ref l3), (.inr ("round" : Str), .ref l4), (.inr ("all" : Str), .ref l5)]) := upd_same
    show tRet _ _ _ (upd G6 p (.dK (putK [(.inr ("plain" : Str), .ref l0), (.inr ("sides" : Str), .ref l1), (.inr ("front" : Str), .ref l2), (.inr ("back" : Str), .ref l3), (.inr ("round" : Str), .ref l4)] (.inr ("all" : Str)) (.ref l5))))
    generalize upd G6 p (.dK (putK [(.inr ("plain" : Str), .ref l0), (.inr ("sides" : Str), .ref l1), (.inr ("front" : Str), .ref l2), (.inr ("back" : Str), .ref l3), (.inr ("round" : Str), .ref l4)] (.inr ("all" : Str)) (.ref l5))) = K6 at b6 e6 ⊢
    have B6 := (B5.trans (SameB.of s6)).trans b6
    have q0 := (q0.same s6).keep f6 b6
    have q1 := (q1.same s6).keep f6 b6
    have q2 := (q2.same s6).keep f6 b6
    have q3 := (q3.same s6).keep f6 b6
    have q4 := (q4.same s6).keep f6 b6
    have q5 := q5.keep f6 b6
    obtain ⟨r, hr9, hlot⟩ := lot_rest z (List.contains_iff_mem.mp hz)
    refine ret_go (lot_run [(0, 1, 2)] (by decide) fun l9 G9 s9 q9 => ?_)
    have pk : Paired (fun (kv : Key × V) (d : Str × List Turn) => kv.1 = Sum.inr d.1 ∧ ∃ l, kv.2 = V.ref l ∧ LotL G9 l d.2) [(.inr ("plain" : Str), .ref l0), (.inr ("sides" : Str), .ref l1), (.inr ("front" : Str), .ref l2), (.inr ("back" : Str), .ref l3), (.inr ("round" : Str), .ref l4), (.inr ("all" : Str), .ref l5)] restD := .cons ⟨rfl, l0, rfl, q0.same s9⟩ (.cons ⟨rfl, l1, rfl, q1.same s9⟩ (.cons ⟨rfl, l2, rfl, q2.same s9⟩ (.cons ⟨rfl, l3, rfl, q3.same s9⟩ (.cons ⟨rfl, l4, rfl, q4.same s9⟩ (.cons ⟨rfl, l5, rfl, q5.same s9⟩ (.nil))))))
    obtain ⟨lx, hv, qx⟩ := lots_val pk hr9
    obtain ⟨t9, e9, p9⟩ := q9
    obtain ⟨tx, ex, px⟩ := qx
    have lx5 : r.length ≤ 5 := rest_len z r hr9
    have := pf_len p9
    have := pf_len px
    refine ⟨_, rfl, _, rfl, p, .ref lx, rfl, .inl ⟨_, .inr z, .inl (s9 _ _ e6), rfl, hv.symm⟩, l9, lx, _, _, rfl, rfl, e9, ex, by rw [List.length_map, List.length_map, sizeLine_eq]; simp only [List.length_singleton] at *; omega, fun R nR => ?_⟩
    have sR := same_new (o := .lst (t9.map V.ref ++ tx.map V.ref)) nR
    refine q R _ (fun b o e => sR _ _ (s9 _ _ (B6 b o (ne_of_none e np) e))) ⟨t9 ++ tx, by rw [upd_same, List.map_append], ?_⟩
    rw [hlot]
    exact paired_app (paired_imp (fun _ _ e => sR _ _ e) p9) (paired_imp (fun _ _ e => sR _ _ e) px)
theorem c_limages (T : Bt mg) (k_lturns : Cal P w K mg base 1 "_law_turns" spLturns) (F : FnP K "_law_images" s_limages f fd) (hm : mg "_law_images" = some (.ref f)) : Cal P w K mg base 2 "_law_images" (spLimages K) := by
  have hnd := sc_limages.nd
  refine cal_mk F hm sc_limages (fun _ _ _ _ _ _ us hl => match us, hl with | [_, _], _ => rfl) (fun vs H Q E h => ?_) (fun cdv A outer s H vs Q E hr h => ?_)
  · obtain ⟨z, q9, t, rfl, _⟩ := h
    rfl
  · obtain ⟨z, q9, t, rfl, hz, e9, q⟩ := h
    have hu65 : (A.deeper (envOfC "_law_images" (defScope s_limages) s.heap.objs.size f cdv)).units + 65 < cLine := by
      have := hr.un
      omega
    refine ⟨_, (pss_cons (ps_set (i := 2) hnd rfl (by first | exact Or.inl rfl | exact Or.inr rfl) (pe_lst pa_nil))
      (pss_cons (ps_for PassesOwn.never (by rfl) (pi_list (pe_cal k_lturns hr (by omega) (by rfl) (pa_cons (pv 0) pa_nil))) (pg_name (i := 3) hnd rfl (by first | exact Or.inl rfl | exact Or.inr rfl))
      (pss_cons (ps_set (i := 4) hnd rfl (by first | exact Or.inl rfl | exact Or.inr rfl) (pe_tup (pa_cons (pe_ix (show IxR _ (rIxT K) from ix_tup) (pv 1) (pe_ix (show IxR _ (rIxT K) from ix_tup) (pv 3) pe_int (fun _ _ => rfl)) (fun _ _ => rfl)) (pa_cons (pe_ix (show IxR _ (rIxT K) from ix_tup) (pv 1) (pe_ix (show IxR _ (rIxT K) from ix_tup) (pv 3) pe_int (fun _ _ => rfl)) (fun _ _ => rfl)) (pa_cons (pe_ix (show IxR _ (rIxT K) from ix_tup) (pv 1) (pe_ix (show IxR _ (rIxT K) from ix_tup) (pv 3) pe_int (fun _ _ => rfl)) (fun _ _ => rfl)) pa_nil)))))
      (pss_one (ps_set (i := 2) hnd rfl (by first | exact Or.inl rfl | exact Or.inr rfl) (pe_ifExp (pt_cmpR (op_inD hu65) (pv 4) (pv 2) (by rfl)) (pv 2) (pe_op op_cat (pv 2) (pe_lst (pa_cons (pv 4) pa_nil))))))))
      (pss_one (ps_ret (pv 2))))), ?_⟩
    refine ⟨Nat.le_of_ble_eq_true rfl, fun L nL => gname_go ?_⟩
    have s0 := same_new (o := .lst []) nL
    have t0 : TrpsAt (upd H L (.lst [])) L [] := ⟨[], upd_same, .nil⟩
    generalize upd H L (.lst []) = G0 at s0 t0 ⊢
    refine ⟨_, rfl, z, rfl, hz, fun lp H2 s2 LL => ?_⟩
    obtain ⟨us, e2, p2⟩ := LL
    have ul := pf_len p2
    have lot6 := lots_len6 z (List.contains_iff_mem.mp hz)
    have ok := fun u hu => List.all_eq_true.mp (lots_okU z (List.contains_iff_mem.mp hz)) u hu
    refine ⟨lp, rfl, ⟨_, SqL.of e2⟩, ?_⟩
    refine for_list (xs := us.map V.ref) (fun i σ' G => Same H2 G ∧ ∃ (l : Addr) (x3 x4 : Option V), σ' = [some (.str z), some (.ref q9), some (.ref l), x3, x4] ∧ H l = none ∧ TrpsAt G l (imgsL t ((lotOf z).take i))) ⟨Same.refl _, L, _, _, rfl, nL, t0.same s2⟩ (fun i σ' G _ h => SqL.of (h.1 _ _ e2)) ?_ ?_
    · rintro i x σ' G hx ⟨sg, l, x3, x4, rfl, hl0, tl⟩
      rw [List.getElem?_map] at hx
      obtain ⟨ua, hua, rfl⟩ := Option.map_eq_some_iff.mp hx
      obtain ⟨u, hu, eu⟩ := pairedNth p2 hua
      have ou := ok u (List.mem_of_getElem? hu)
      unfold okU at ou
      have o1 := (He.ba ou).1
      have o2 := (He.ba (He.ba ou).2).1
      have o3 := (He.ba (He.ba ou).2).2
      have il := (List.getElem?_eq_some_iff.mp hu).1
      have eu' := SqT.of (K := K) (sg _ _ eu)
      have sq : SqT K G q9 (tV t) := sqT_same e9 ((s0.trans s2).trans sg)
      refine gname_go ?_
      refine ⟨_, rfl, _, rfl, ua, _, _, _, rfl, rfl, eu', atI_nat (j := 0) rfl, q9, _, _, _, rfl, rfl, sq, pl_at o1, _, rfl, _, rfl, ua, _, _, _, rfl, rfl, eu', atI_nat (j := 1) rfl, q9, _, _, _, rfl, rfl, sq, pl_at o2, _, rfl, _, rfl, ua, _, _, _, rfl, rfl, eu', atI_nat (j := 2) rfl, q9, _, _, _, rfl, rfl, sq, pl_at o3, Nat.le_of_ble_eq_true rfl, fun R nR => gname_go ?_⟩
      have sR := same_new (o := .tup [.int (pl t u.1 : Nat), .int (pl t u.2.1 : Nat), .int (pl t u.2.2 : Nat)]) nR
      have eR : TrpAt (upd G R (.tup [.int (pl t u.1 : Nat), .int (pl t u.2.1 : Nat), .int (pl t u.2.2 : Nat)])) R (imgT t u) := upd_same
      generalize upd G R (.tup [.int (pl t u.1 : Nat), .int (pl t u.2.1 : Nat), .int (pl t u.2.2 : Nat)]) = G1 at sR eR ⊢
      have tl1 := tl.same sR
      refine ⟨_, rfl, _, rfl, _, _, dp_trp (SqT.of eR), dp_trpL tl1, rfl, ?_, ?_⟩
      · exact shaped_trps _
      rw [any_trp]
      refine ⟨_, rfl, ?_⟩
      by_cases c : imgT t u ∈ imgsL t ((lotOf z).take i)
      · refine iteT2 (decide_eq_true c) ⟨_, rfl, sg.trans sR, l, _, _, rfl, hl0, ?_⟩
        rw [imgs_take hu, if_pos c]
        exact tl1
      · obtain ⟨qs, el, pq⟩ := tl1
        have := pf_len pq
        have := imgs_len (t := t) ((lotOf z).take i) []
        rw [List.length_take] at this
        refine iteN2 (decide_eq_false c) ⟨_, rfl, _, rfl, Nat.le_of_ble_eq_true rfl, fun L9 n9 => ?_⟩
        have s9 := same_new (o := .lst [.ref R]) n9
        refine ⟨l, L9, _, _, rfl, rfl, s9 _ _ el, upd_same, ?_, fun L8 n8 => ⟨(sg.trans sR).trans (s9.trans (same_new n8)), L8, _, _, rfl, none_back (((s0.trans s2).trans sg).trans (sR.trans s9)) n8, ?_⟩⟩
        · rw [List.length_map, List.length_singleton, sizeLine_eq]
          unfold imgsL at pq
          have h9 := pf_len pq
          simp only [List.length_nil] at this
          omega
        · have s8 := same_new (o := .lst (qs.map V.ref ++ [.ref R])) n8
          rw [imgs_take hu, if_neg c]
          exact ⟨qs ++ [R], by rw [upd_same, List.map_append]; rfl, paired_app (paired_imp (fun _ _ e => s8 _ _ (s9 _ _ e)) pq) (.cons (s8 _ _ (s9 _ _ eR)) .nil)⟩
    · rintro σ' G ⟨sg, l, x3, x4, rfl, hl0, tl⟩
      rw [List.length_map, ul, List.take_length] at tl
      exact ⟨_, rfl, q l G ((s0.trans s2).trans sg) hl0 tl⟩
end
end L2.K15
set_option Elab.async false
set_option linter.all false
set_option maxRecDepth 100000
set_option maxHeartbeats 8000000
namespace L2.K15
open PySem PySem.Spec PyProof.Rows L2.Tb
open SX (S)
/-! ### images form groups -/
def imgs (z : Str) (t : Trp) : List Trp := (lotOf z).map (imgT t)
def plU (u : Turn) (i : Int) : Int := if i = 0 then u.1 else if i = 1 then u.2.1 else u.2.2
def compU (u v : Turn) : Turn := (plU u v.1, plU u v.2.1, plU u v.2.2)
theorem pl_img {t : Trp} {u : Turn} {i : Int} : pl (imgT t u) i = pl t (plU u i) := by
  unfold pl plU imgT
  dsimp only
  split
  · rfl
  · split
    · rfl
    · rfl
theorem imgT_comp {t : Trp} {u v : Turn} : imgT (imgT t u) v = imgT t (compU u v) := by
  show (pl (imgT t u) v.1, pl (imgT t u) v.2.1, pl (imgT t u) v.2.2) = _
  rw [pl_img, pl_img, pl_img]
  rfl
theorem lots_inU : ∀ z ∈ wordsD, ∀ u ∈ lotOf z, ∀ v ∈ lotOf z, compU u v ∈ lotOf z := by decide +kernel
theorem lots_all : ∀ z ∈ wordsD, ∀ u ∈ lotOf z, u ∈ lotOf ("all" : Str) := by decide +kernel
theorem lot_sum {z : Str} (hz : z ∈ wordsD) {u : Turn} (hu : u ∈ lotOf z) (t : Trp) : pl t u.1 + pl t u.2.1 + pl t u.2.2 = t.1 + t.2.1 + t.2.2 := by
  have h : u ∈ [((0 : Int), (1 : Int), (2 : Int)), (0, 2, 1), (1, 0, 2), (1, 2, 0), (2, 0, 1), (2, 1, 0)] := lots_all z hz u hu
  simp only [List.mem_cons, List.not_mem_nil, or_false] at h
  rcases h with rfl | rfl | rfl | rfl | rfl | rfl <;> simp [pl] <;> omega
theorem mem_self {z : Str} (hz : z ∈ wordsD) {t : Trp} : t ∈ imgs z t := by
  obtain ⟨r, _, e⟩ := lot_rest z hz
  unfold imgs
  rw [e, List.map_cons]
  exact List.mem_cons_self
def Hit (s x : Trp) : Prop := k0 s = k0 x ∨ k1 s = k1 x ∨ k2 s = k2 x
theorem hit_two {s x : Trp} (bs : Bd 600 s) (bx : Bd 600 x) (h : Hit s x) : (s.2.1 = x.2.1 ∧ s.2.2 = x.2.2) ∨ (s.1 = x.1 ∧ s.2.2 = x.2.2) ∨ (s.1 = x.1 ∧ s.2.1 = x.2.1) := by
  rcases h with e | e | e
  · exact .inl (key_inj (a := s.2.1) (b := s.2.2) (c := x.2.1) (d := x.2.2) bs.2.2 bx.2.2 e)
  · exact .inr (.inl (key_inj (a := s.1) (b := s.2.2) (c := x.1) (d := x.2.2) bs.2.2 bx.2.2 e))
  · exact .inr (.inr (key_inj (a := s.1) (b := s.2.1) (c := x.1) (d := x.2.1) bs.2.1 bx.2.1 e))
theorem two_hit {s x : Trp} (h : (s.2.1 = x.2.1 ∧ s.2.2 = x.2.2) ∨ (s.1 = x.1 ∧ s.2.2 = x.2.2) ∨ (s.1 = x.1 ∧ s.2.1 = x.2.1)) : Hit s x := by
  unfold Hit k0 k1 k2
  rcases h with ⟨a, b⟩ | ⟨a, b⟩ | ⟨a, b⟩
  · exact .inl (by rw [a, b])
  · exact .inr (.inl (by rw [a, b]))
  · exact .inr (.inr (by rw [a, b]))
theorem trp_ext {s x : Trp} (a : s.1 = x.1) (b : s.2.1 = x.2.1) (c : s.2.2 = x.2.2) : s = x := by
  obtain ⟨s1, s2, s3⟩ := s
  obtain ⟨x1, x2, x3⟩ := x
  dsimp only at a b c
  subst a
  subst b
  subst c
  rfl
theorem imgs_bd {z : Str} {n : Nat} {t : Trp} (b : Bd n t) : ∀ s ∈ imgs z t, Bd n s := fun s hs => by
  obtain ⟨u, _, rfl⟩ := List.mem_map.mp hs
  exact imgT_bd b u
theorem imgs_hit {z : Str} (hz : z ∈ wordsD) {t x y : Trp} (bt : Bd 600 t) (hx : x ∈ imgs z t) (hy : y ∈ imgs z t) (h : Hit x y) : x = y := by
  have bx := imgs_bd bt x hx
  have by' := imgs_bd bt y hy
  have h := hit_two bx by' h
  obtain ⟨u, hu, rfl⟩ := List.mem_map.mp hx
  obtain ⟨v, hv, rfl⟩ := List.mem_map.mp hy
  have su : (imgT t u).1 + (imgT t u).2.1 + (imgT t u).2.2 = t.1 + t.2.1 + t.2.2 := lot_sum hz hu t
  have sv : (imgT t v).1 + (imgT t v).2.1 + (imgT t v).2.2 = t.1 + t.2.1 + t.2.2 := lot_sum hz hv t
  rcases h with ⟨a, b⟩ | ⟨a, b⟩ | ⟨a, b⟩
  · exact trp_ext (by omega) a b
  · exact trp_ext a (by omega) b
  · exact trp_ext a b (by omega)
/-! ### clashes -/
def agr (s x : Trp) : Nat := (if s.1 = x.1 then 1 else 0) + (if s.2.1 = x.2.1 then 1 else 0) + (if s.2.2 = x.2.2 then 1 else 0)
def clashB (s x : Trp) : Bool := decide (agr s x = 2)
theorem clash_iff {s x : Trp} (bs : Bd 600 s) (bx : Bd 600 x) : clashB s x = true ↔ (s ≠ x ∧ Hit s x) := by
  unfold clashB agr
  rw [decide_eq_true_iff]
  constructor
  · intro h
    refine ⟨fun e => ?_, two_hit ?_⟩
    · subst e
      simp at h
    · by_cases a : s.1 = x.1 <;> by_cases b : s.2.1 = x.2.1 <;> by_cases c : s.2.2 = x.2.2 <;> simp [a, b, c] at h ⊢
  · rintro ⟨n, h⟩
    have h := hit_two bs bx h
    by_cases a : s.1 = x.1 <;> by_cases b : s.2.1 = x.2.1 <;> by_cases c : s.2.2 = x.2.2 <;> simp [a, b, c] at h ⊢
    exact n (trp_ext a b c)
def fitsB (xs held : List Trp) : Bool := xs.all fun x => held.all fun s => !clashB x s
theorem hit_comm {s x : Trp} (h : Hit s x) : Hit x s := by
  rcases h with h | h | h
  · exact .inl h.symm
  · exact .inr (.inl h.symm)
  · exact .inr (.inr h.symm)
theorem fits_free {xs T : List Trp} (h : fitsB xs T = true) (bx : ∀ x ∈ xs, Bd 600 x) (bT : ∀ s ∈ T, Bd 600 s) : ∀ x ∈ xs, ∀ s ∈ T, Hit s x → s = x := fun x hx s hs hh => by
  have h1 := List.all_eq_true.mp (List.all_eq_true.mp h x hx) s hs
  by_cases e : s = x
  · exact e
  · rw [(clash_iff (bx x hx) (bT s hs)).mpr ⟨fun z => e z.symm, hit_comm hh⟩] at h1
    cases h1
/-! ### new triples -/
def dd (xs : List Trp) : List Trp := xs.foldl (fun acc x => if x ∈ acc then acc else acc ++ [x]) []
theorem dd_snoc {xs : List Trp} {x : Trp} : dd (xs ++ [x]) = if x ∈ dd xs then dd xs else dd xs ++ [x] := by
  unfold dd
  rw [List.foldl_append]
  rfl
theorem fold_mem : ∀ {xs acc : List Trp} {y : Trp}, y ∈ xs.foldl (fun acc x => if x ∈ acc then acc else acc ++ [x]) acc ↔ y ∈ acc ∨ y ∈ xs
  | [], acc, y => by simp
  | x :: xs, acc, y => by
    rw [List.foldl_cons, fold_mem]
    split
    · rename_i h
      constructor
      · rintro (a | a)
        · exact .inl a
        · exact .inr (List.mem_cons_of_mem _ a)
      · rintro (a | a)
        · exact .inl a
        · rcases List.mem_cons.mp a with rfl | a
          · exact .inl h
          · exact .inr a
    · rw [List.mem_append, List.mem_singleton, List.mem_cons, or_assoc]
theorem dd_mem {xs : List Trp} {y : Trp} : y ∈ dd xs ↔ y ∈ xs := by
  unfold dd
  rw [fold_mem]
  simp
theorem fold_nodup : ∀ {xs acc : List Trp}, acc.Nodup → (xs.foldl (fun acc x => if x ∈ acc then acc else acc ++ [x]) acc).Nodup
  | [], acc, h => h
  | x :: xs, acc, h => by
    rw [List.foldl_cons]
    split
    · exact fold_nodup h
    · rename_i hx
      exact fold_nodup (List.nodup_append.mpr ⟨h, by simp, fun a ha b hb e => hx (by rw [List.mem_singleton] at hb; rw [← hb, ← e]; exact ha)⟩)
theorem dd_nodup {xs : List Trp} : (dd xs).Nodup := fold_nodup .nil
theorem imgsL_dd {t : Trp} {lot : List Turn} : imgsL t lot = dd (lot.map (imgT t)) := by
  unfold imgsL dd
  rw [List.foldl_map]
def newT (T xs : List Trp) : List Trp := (dd xs).filter fun x => decide (x ∉ T)
theorem newT_mem {T xs : List Trp} {y : Trp} : y ∈ newT T xs ↔ y ∈ xs ∧ y ∉ T := by
  unfold newT
  rw [List.mem_filter, dd_mem, decide_eq_true_iff]
theorem add1_step {T ys : List Trp} {x : Trp} (hf : ∀ s ∈ T, Hit s x → s = x) (hi : ∀ y ∈ ys, Hit y x → y = x) : add1 (T ++ newT T ys) x = some (T ++ newT T (ys ++ [x])) := by
  by_cases h : x ∈ T ++ newT T ys
  · rw [add1_pos h]
    congr 2
    unfold newT
    rw [dd_snoc]
    rcases List.mem_append.mp h with h | h
    · split
      · rfl
      · rw [List.filter_append, List.filter_cons_of_neg (by simpa using h), List.filter_nil, List.append_nil]
    · rw [if_pos (dd_mem.mpr (newT_mem.mp h).1)]
  · have h1 : x ∉ T := fun z => h (List.mem_append_left _ z)
    have h2 : x ∉ dd ys := fun z => h (List.mem_append_right _ (newT_mem.mpr ⟨dd_mem.mp z, h1⟩))
    rw [add1_new fun s hs => ?_]
    · unfold newT
      rw [dd_snoc, if_neg h2, List.filter_append, List.filter_cons_of_pos (by simpa using h1), List.filter_nil, List.append_assoc]
    · have no : ¬Hit s x := fun z => by
        rcases List.mem_append.mp hs with hs | hs
        · exact h1 ((hf s hs z) ▸ hs)
        · exact h2 (dd_mem.mpr ((hi s (newT_mem.mp hs).1 z) ▸ (newT_mem.mp hs).1))
      exact ⟨fun z => no (.inl z), fun z => no (.inr (.inl z)), fun z => no (.inr (.inr z))⟩
theorem addL_go {T : List Trp} : ∀ {zs ys : List Trp}, (∀ x ∈ zs, ∀ s ∈ T, Hit s x → s = x) → (∀ x ∈ zs, ∀ y ∈ ys ++ zs, Hit y x → y = x) → addL (T ++ newT T ys) zs = some (T ++ newT T (ys ++ zs))
  | [], ys, _, _ => by
    rw [List.append_nil]
    rfl
  | x :: zs, ys, hf, hi => by
    rw [addL_cons, add1_step (hf x List.mem_cons_self) fun y hy => hi x List.mem_cons_self y (List.mem_append_left _ hy)]
    dsimp only
    rw [addL_go (ys := ys ++ [x]) (fun y hy => hf y (List.mem_cons_of_mem _ hy)) (fun y hy w hw => hi y (List.mem_cons_of_mem _ hy) w (by simpa using hw)), List.append_assoc]
    rfl
theorem addL_new {T xs : List Trp} (hf : ∀ x ∈ xs, ∀ s ∈ T, Hit s x → s = x) (hi : ∀ x ∈ xs, ∀ y ∈ xs, Hit y x → y = x) : addL T xs = some (T ++ newT T xs) := by
  have := addL_go (T := T) (zs := xs) (ys := []) hf (by simpa using hi)
  rw [show newT T [] = [] from rfl, List.append_nil, List.nil_append] at this
  exact this
/-- with a triple all its images are there -/
def Closed (z : Str) (T : List Trp) : Prop := ∀ t ∈ T, ∀ u ∈ lotOf z, imgT t u ∈ T
theorem addT_fits {z : Str} (hz : z ∈ wordsD) {T : List Trp} {t : Trp} (cl : Closed z T) (bT : ∀ s ∈ T, Bd 600 s) (bt : Bd 600 t) (hf : fitsB (imgsL t (lotOf z)) T = true) : addT (lotOf z) T t = some (T ++ newT T (imgs z t)) := by
  by_cases h : t ∈ T
  · rw [addT_pos h]
    have e : newT T (imgs z t) = [] := by
      cases c : newT T (imgs z t) with
      | nil => rfl
      | cons y ys =>
        obtain ⟨h1, h2⟩ := newT_mem.mp (show y ∈ newT T (imgs z t) by rw [c]; exact List.mem_cons_self)
        obtain ⟨u, hu, rfl⟩ := List.mem_map.mp h1
        exact absurd (cl t h u hu) h2
    rw [e, List.append_nil]
  · rw [addT_neg h]
    have bi : ∀ x ∈ imgsL t (lotOf z), Bd 600 x := fun x hx => imgs_bd (z := z) bt x (by rw [imgsL_dd, dd_mem] at hx; exact hx)
    exact addL_new (fun x hx => fits_free hf bi bT x (by rw [imgsL_dd, dd_mem]; exact hx)) fun x hx y hy hh => imgs_hit hz bt hy hx hh
theorem closed_new {z : Str} (hz : z ∈ wordsD) {T : List Trp} {t : Trp} (cl : Closed z T) : Closed z (T ++ newT T (imgs z t)) := fun y hy u hu => by
  rcases List.mem_append.mp hy with hy | hy
  · exact List.mem_append_left _ (cl y hy u hu)
  · obtain ⟨v, hv, rfl⟩ := List.mem_map.mp (newT_mem.mp hy).1
    by_cases h : imgT (imgT t v) u ∈ T
    · exact List.mem_append_left _ h
    · refine List.mem_append_right _ (newT_mem.mpr ⟨?_, h⟩)
      rw [imgT_comp]
      exact List.mem_map_of_mem (lots_inU z hz v hv u hu)
theorem nodup_new {T xs : List Trp} (h : T.Nodup) : (T ++ newT T xs).Nodup := List.nodup_append.mpr ⟨h, dd_nodup.filter _, fun a ha b hb e => (newT_mem.mp hb).2 (e ▸ ha)⟩
theorem addA_snoc {lot : List Turn} {t : Trp} : ∀ {ts T T1 T2 : List Trp} {i : Nat}, addA lot T i ts = .ok T1 → addT lot T1 t = some T2 → addA lot T i (ts ++ [t]) = .ok T2
  | [], T, T1, T2, i, h, h2 => by
    cases h
    rw [List.nil_append, addA_cons, h2]
    rfl
  | s :: ts, T, T1, T2, i, h, h2 => by
    rw [List.cons_append, addA_cons]
    rw [addA_cons] at h
    cases e : addT lot T s with
    | none => rw [e] at h; cases h
    | some T3 =>
      rw [e] at h
      exact addA_snoc h h2
theorem diag_closed {z : Str} {b : Bool} {n : Nat} : Closed z (diagL b n) := fun t ht u _ => by
  obtain ⟨hb, i, hi, rfl⟩ := mem_diag.mp ht
  rw [imgT_diag]
  exact ht
theorem diag_nodup {b : Bool} {n : Nat} : (diagL b n).Nodup := by
  unfold diagL
  split
  · rw [List.Nodup, List.pairwise_map]
    exact (List.nodup_range (n := n)).imp fun h e => h (congrArg (·.1) e)
  · exact .nil
/-- what the law holds of what it has drawn -/
structure Held (z : Str) (b : Bool) (n : Nat) (kept T : List Trp) : Prop where
  add : addA (lotOf z) (diagL b n) 0 kept = .ok T
  cl : Closed z T
  nd : T.Nodup
  bd : ∀ t ∈ kept, Bd n t
theorem Held.start {z : Str} {b : Bool} {n : Nat} : Held z b n [] (diagL b n) := ⟨rfl, diag_closed, diag_nodup, fun _ h => by cases h⟩
theorem Held.ok {z : Str} (hz : z ∈ wordsD) {b : Bool} {n : Nat} (hn : n ≤ 600) {kept T : List Trp} (h : Held z b n kept T) : TOk n T := addA_ok (diag_ok hz hn) h.bd h.add
theorem Held.step {z : Str} (hz : z ∈ wordsD) {b : Bool} {n : Nat} (hn : n ≤ 600) {kept T : List Trp} (h : Held z b n kept T) {t : Trp} (bt : Bd n t) (hf : fitsB (imgsL t (lotOf z)) T = true) : Held z b n (kept ++ [t]) (T ++ newT T (imgs z t)) := by
  refine ⟨addA_snoc h.add (addT_fits hz h.cl (fun s hs => ((h.ok hz hn).bd s hs).up hn) (bt.up hn) hf), closed_new hz h.cl, nodup_new h.nd, fun x hx => ?_⟩
  rcases List.mem_append.mp hx with hx | hx
  · exact h.bd x hx
  · rw [List.mem_singleton.mp hx]
    exact bt
end L2.K15
set_option Elab.async false
set_option linter.all false
set_option maxRecDepth 100000
set_option maxHeartbeats 8000000
namespace L2.K15
open PySem PySem.Spec PyProof.Rows L2.Tb
open SX (S)
abbrev s_clash : Stmt := top 64
abbrev N_clash : List Str := ["_law_one", "_law_other", "_law_at", "_law_same"]
theorem sc_clash : FnScope N_clash ["_law_one", "_law_other"] (defScope s_clash) := ⟨rfl, rfl, rfl, by decide +kernel, rfl, by decide +kernel, by decide +kernel⟩
abbrev s_rules : Stmt := top 69
abbrev N_rules : List Str := ["_law_kind_here", "_law_rules_here", "_law_quiet"]
theorem sc_rules : FnScope N_rules ["_law_kind_here"] (defScope s_rules) := ⟨rfl, rfl, rfl, by decide +kernel, rfl, by decide +kernel, by decide +kernel⟩
/-! ### small rules -/
abbrev Rl := Nat × Nat × Nat × Nat
def rlV (r : Rl) : List V := [.int (r.1 : Nat), .int (r.2.1 : Nat), .int (r.2.2.1 : Nat), .int (r.2.2.2 : Nat)]
def RlAt (H : Hp) (a : Addr) (r : Rl) : Prop := H a = some (.tup (rlV r))
def RlsAt (H : Hp) (l : Addr) (rs : List Rl) : Prop := ∃ as : List Addr, H l = some (.lst (as.map V.ref)) ∧ Paired (RlAt H) as rs
def rlOkB (r : Rl) : Bool := decide (0 < r.1) && (decide (r.1 ≤ 9) && (decide (r.2.1 ≤ 9) && (decide (r.2.2.1 ≤ 9) && (decide (r.2.2.2 ≤ 9) && (decide (r.2.1 ≠ 0) || decide (r.1 = 4))))))
structure RlOk (r : Rl) : Prop where
  m0 : 0 < r.1
  m9 : r.1 ≤ 9
  p9 : r.2.1 ≤ 9
  q9 : r.2.2.1 ≤ 9
  r9 : r.2.2.2 ≤ 9
  x4 : r.2.1 = 0 → r.1 = 4
theorem rlOkB_ok {r : Rl} (h : rlOkB r = true) : RlOk r := by
  unfold rlOkB at h
  obtain ⟨h1, h⟩ := He.ba h
  obtain ⟨h2, h⟩ := He.ba h
  obtain ⟨h3, h⟩ := He.ba h
  obtain ⟨h4, h⟩ := He.ba h
  obtain ⟨h5, h⟩ := He.ba h
  refine ⟨of_decide_eq_true h1, of_decide_eq_true h2, of_decide_eq_true h3, of_decide_eq_true h4, of_decide_eq_true h5, fun e => ?_⟩
  rw [e] at h
  simpa using h
theorem RlsAt.same {H H' : Hp} {l : Addr} {rs : List Rl} (h : RlsAt H l rs) (s : Same H H') : RlsAt H' l rs := let ⟨as, a, b⟩ := h; ⟨as, s _ _ a, paired_imp (fun _ _ e => s _ _ e) b⟩
theorem RlsAt.keep {H H' : Hp} {p l : Addr} {kvs : List (Key × V)} {rs : List Rl} (h : RlsAt H l rs) (hp : H p = some (.dK kvs)) (s : SameB p H H') : RlsAt H' l rs := by
  obtain ⟨ts, h1, h2⟩ := h
  refine ⟨ts, s _ _ (fun z => ?_) h1, paired_imp (fun t u e => s _ _ (fun z => ?_) e) h2⟩
  · rw [z, hp] at h1
    cases h1
  · have e : H t = some (.tup (rlV u)) := e
    rw [z, hp] at e
    cases e
def tRlT : List Rl → TA
  | [] => tNil
  | t :: r => tCons (tTup (tCons (tC (.int (t.1 : Nat))) (tCons (tC (.int (t.2.1 : Nat))) (tCons (tC (.int (t.2.2.1 : Nat))) (tCons (tC (.int (t.2.2.2 : Nat))) tNil))))) (tRlT r)
theorem rl_args : ∀ (rs : List Rl) {σ : St} {H : Hp} {R : List V → Hp → Prop}, (∀ (as : List Addr) (H' : Hp), Same H H' → Paired (RlAt H') as rs → R (as.map V.ref) H') → tRlT rs σ H R
  | [], σ, H, R, h => h [] H (fun _ _ e => e) .nil
  | t :: r, σ, H, R, h => ⟨Nat.le_of_ble_eq_true rfl, fun p np => rl_args r fun ts H' s hp => h (p :: ts) H' ((same_new np).trans s) (.cons (s _ _ upd_same) hp)⟩
theorem rl_run (rs : List Rl) (hz : rs.length ≤ 100) {σ : St} {H : Hp} {Q : VK} (h : ∀ (l : Addr) (H' : Hp), Same H H' → RlsAt H' l rs → Q (.ref l) H') : tLst (tRlT rs) σ H Q := by
  refine rl_args rs fun ts H' s hp => ⟨?_, fun l n => ?_⟩
  · rw [List.length_map, Paired.length hp, sizeLine_eq]
    omega
  · have s2 := same_new (o := .lst (ts.map V.ref)) n
    exact h l _ (s.trans s2) ⟨ts, upd_same, paired_imp (fun _ _ e => s2 _ _ e) hp⟩
def ruleD : List (Str × List Rl) := [("plain", [(5, 2, 3, 1), (3, 1, 2, 1), (5, 1, 2, 0), (4, 1, 3, 2)]), ("sides", [(3, 1, 1, 1), (5, 2, 2, 3), (4, 1, 1, 0)]), ("front", [(3, 2, 1, 0), (5, 4, 2, 1), (4, 3, 1, 2)]), ("back", [(3, 1, 2, 0), (5, 2, 4, 1), (4, 1, 3, 0)]), ("round", [(7, 3, 5, 0), (3, 2, 2, 1), (9, 2, 5, 0)]), ("all", [(3, 2, 2, 1), (5, 4, 4, 2), (4, 0, 0, 0)])]
def quietD : List (Str × List Rl) := [("plain", [(5, 2, 4, 0), (7, 3, 5, 0)]), ("sides", [(3, 2, 2, 0), (5, 3, 3, 0)]), ("front", [(3, 2, 2, 0), (5, 4, 2, 0)]), ("back", [(3, 2, 2, 0), (5, 2, 4, 0)]), ("round", [(7, 3, 5, 0), (7, 5, 3, 0)]), ("all", [(3, 2, 2, 0)])]
theorem rules_ok : (ruleD ++ quietD).all (fun d => d.2.all rlOkB && decide (d.2.length ≤ 4)) = true := by decide +kernel
theorem rule_of {ds : List (Str × List Rl)} (hd : ∀ d ∈ ds, d ∈ ruleD ++ quietD) {z : Str} {rs : List Rl} (h : ds.lookup z = some rs) : (∀ r ∈ rs, RlOk r) ∧ rs.length ≤ 4 := by
  have : ∀ (ds : List (Str × List Rl)), ds.lookup z = some rs → ∃ k, (k, rs) ∈ ds := by
    intro ds
    induction ds with
    | nil => intro h; cases h
    | cons d ds ih =>
      intro h
      rw [List.lookup_cons] at h
      split at h
      · cases h
        exact ⟨d.1, List.mem_cons_self⟩
      · obtain ⟨k, hk⟩ := ih h
        exact ⟨k, List.mem_cons_of_mem _ hk⟩
  obtain ⟨k, hk⟩ := this ds h
  have := List.all_eq_true.mp rules_ok _ (hd _ hk)
  obtain ⟨h1, h2⟩ := He.ba this
  exact ⟨fun r hr => rlOkB_ok (List.all_eq_true.mp h1 r hr), of_decide_eq_true h2⟩
theorem look_in6 : ∀ z ∈ wordsD, (ruleD.lookup z).isSome = true ∧ (quietD.lookup z).isSome = true := by decide +kernel
theorem rls_val {H : Hp} : ∀ {kvs : List (Key × V)} {ds : List (Str × List Rl)} {z : Str} {r : List Rl}, Paired (fun (kv : Key × V) (d : Str × List Rl) => kv.1 = Sum.inr d.1 ∧ ∃ l, kv.2 = V.ref l ∧ RlsAt H l d.2) kvs ds → ds.lookup z = some r → ∃ l, valV kvs (.inr z) = some (.ref l) ∧ RlsAt H l r
  | _, _, z, r, .nil, h => by cases h
  | (k, v) :: kvs, (y, lot) :: ds, z, r, .cons ⟨hk, l, hv, q⟩ t, h => by
    have hk : k = Sum.inr y := hk
    have hv : v = V.ref l := hv
    subst hk
    subst hv
    by_cases c : z = y
    · subst c
      rw [List.lookup_cons_self] at h
      cases h
      exact ⟨l, valV_pos rfl, q⟩
    · have hne : (z == y) = false := by simpa using c
      rw [List.lookup_cons, hne] at h
      obtain ⟨l2, h1, h2⟩ := rls_val t h
      exact ⟨l2, by rw [valV_neg (fun e => c (by injection e with e; exact e.symm))]; exact h1, h2⟩
def agAt (s x : Trp) (j : Nat) : Bool := decide (pl s (j : Int) = pl x (j : Int))
theorem ag_len {s x : Trp} : ((List.range 3).filter (agAt s x)).length = agr s x := by
  obtain ⟨a, b, c⟩ := s
  obtain ⟨a', b', c'⟩ := x
  rw [show List.range 3 = [0, 1, 2] from rfl]
  unfold agr agAt pl
  by_cases h1 : a = a' <;> by_cases h2 : b = b' <;> by_cases h3 : c = c' <;> simp [List.filter, h1, h2, h3]
def spRules : Sp := fun vs H Q _ => ∃ (kh : Addr) (z : Str) (b : Bool), vs = [.ref kh] ∧ H kh = some (.tup [.str z, .bl b]) ∧ wordsD.contains z = true ∧ ∀ (l : Addr) (H' : Hp) (rs : List Rl), Same H H' → RlsAt H' l rs → (∀ r ∈ rs, RlOk r) → rs.length ≤ 4 → Q (.ref l) H'
def spClash (K : PySem.W.Frag) : Sp := fun vs H Q _ => ∃ (q r : Addr) (s x : Trp), vs = [.ref q, .ref r] ∧ SqT K H q (tV s) ∧ SqT K H r (tV x) ∧ ∀ H', Same H H' → Q (.bl (clashB s x)) H'
section
variable {P : Program} {w : World} {K : PySem.W.Frag} {mg : Str → Option Value} {base : Heap} {f : Addr} {fd : FuncData}
theorem c_rules (F : FnP K "_law_rules" s_rules f fd) (hm : mg "_law_rules" = some (.ref f)) : Cal P w K mg base 1 "_law_rules" spRules := by
  have hnd := sc_rules.nd
  refine cal_mk F hm sc_rules (fun _ _ _ _ _ _ us hl => match us, hl with | [_], _ => rfl) (fun vs H Q E h => ?_) (fun cdv A outer s H vs Q E hr h => ?_)
  · obtain ⟨kh, z, b, rfl, _⟩ := h
    rfl
  · obtain ⟨kh, z, b, rfl, ekh, hz, q⟩ := h
    refine ⟨_, (pss_cons (ps_set (i := 1) hnd rfl (by first | exact Or.inl rfl | exact Or.inr rfl) (pe_disp (pps_cons pe_str (pe_lst (pa_cons (pe_tup (pa_cons pe_int (pa_cons pe_int (pa_cons pe_int (pa_cons pe_int pa_nil))))) (pa_cons (pe_tup (pa_cons pe_int (pa_cons pe_int (pa_cons pe_int (pa_cons pe_int pa_nil))))) (pa_cons (pe_tup (pa_cons pe_int (pa_cons pe_int (pa_cons pe_int (pa_cons pe_int pa_nil))))) (pa_cons (pe_tup (pa_cons pe_int (pa_cons pe_int (pa_cons pe_int (pa_cons pe_int pa_nil))))) pa_nil))))) pps_nil) (by rfl) (by rfl) (fun z => by cases z) (by decide)))
      (pss_cons (ps_asg (pe_lst (pa_cons (pe_tup (pa_cons pe_int (pa_cons pe_int (pa_cons pe_int (pa_cons pe_int pa_nil))))) (pa_cons (pe_tup (pa_cons pe_int (pa_cons pe_int (pa_cons pe_int (pa_cons pe_int pa_nil))))) (pa_cons (pe_tup (pa_cons pe_int (pa_cons pe_int (pa_cons pe_int (pa_cons pe_int pa_nil))))) pa_nil)))) (pg_sub (pv 1) pe_str (set_dict (Nat.lt_of_le_of_lt (Nat.add_le_add_left (by decide) _) hr.units))))
      (pss_cons (ps_asg (pe_lst (pa_cons (pe_tup (pa_cons pe_int (pa_cons pe_int (pa_cons pe_int (pa_cons pe_int pa_nil))))) (pa_cons (pe_tup (pa_cons pe_int (pa_cons pe_int (pa_cons pe_int (pa_cons pe_int pa_nil))))) (pa_cons (pe_tup (pa_cons pe_int (pa_cons pe_int (pa_cons pe_int (pa_cons pe_int pa_nil))))) pa_nil)))) (pg_sub (pv 1) pe_str (set_dict (Nat.lt_of_le_of_lt (Nat.add_le_add_left (by decide) _) hr.units))))
      (pss_cons (ps_asg (pe_lst (pa_cons (pe_tup (pa_cons pe_int (pa_cons pe_int (pa_cons pe_int (pa_cons pe_int pa_nil))))) (pa_cons (pe_tup (pa_cons pe_int (pa_cons pe_int (pa_cons pe_int (pa_cons pe_int pa_nil))))) (pa_cons (pe_tup (pa_cons pe_int (pa_cons pe_int (pa_cons pe_int (pa_cons pe_int pa_nil))))) pa_nil)))) (pg_sub (pv 1) pe_str (set_dict (Nat.lt_of_le_of_lt (Nat.add_le_add_left (by decide) _) hr.units))))
      (pss_cons (ps_asg (pe_lst (pa_cons (pe_tup (pa_cons pe_int (pa_cons pe_int (pa_cons pe_int (pa_cons pe_int pa_nil))))) (pa_cons (pe_tup (pa_cons pe_int (pa_cons pe_int (pa_cons pe_int (pa_cons pe_int pa_nil))))) (pa_cons (pe_tup (pa_cons pe_int (pa_cons pe_int (pa_cons pe_int (pa_cons pe_int pa_nil))))) pa_nil)))) (pg_sub (pv 1) pe_str (set_dict (Nat.lt_of_le_of_lt (Nat.add_le_add_left (by decide) _) hr.units))))
      (pss_cons (ps_asg (pe_lst (pa_cons (pe_tup (pa_cons pe_int (pa_cons pe_int (pa_cons pe_int (pa_cons pe_int pa_nil))))) (pa_cons (pe_tup (pa_cons pe_int (pa_cons pe_int (pa_cons pe_int (pa_cons pe_int pa_nil))))) (pa_cons (pe_tup (pa_cons pe_int (pa_cons pe_int (pa_cons pe_int (pa_cons pe_int pa_nil))))) pa_nil)))) (pg_sub (pv 1) pe_str (set_dict (Nat.lt_of_le_of_lt (Nat.add_le_add_left (by decide) _) hr.units))))
      (pss_cons (ps_set (i := 2) hnd rfl (by first | exact Or.inl rfl | exact Or.inr rfl) (pe_disp (pps_cons pe_str (pe_lst (pa_cons (pe_tup (pa_cons pe_int (pa_cons pe_int (pa_cons pe_int (pa_cons pe_int pa_nil))))) (pa_cons (pe_tup (pa_cons pe_int (pa_cons pe_int (pa_cons pe_int (pa_cons pe_int pa_nil))))) pa_nil))) (pps_cons pe_str (pe_lst (pa_cons (pe_tup (pa_cons pe_int (pa_cons pe_int (pa_cons pe_int (pa_cons pe_int pa_nil))))) (pa_cons (pe_tup (pa_cons pe_int (pa_cons pe_int (pa_cons pe_int (pa_cons pe_int pa_nil))))) pa_nil))) pps_nil)) (by rfl) (by rfl) (fun z => by cases z) (by decide)))
      (pss_cons (ps_asg (pe_lst (pa_cons (pe_tup (pa_cons pe_int (pa_cons pe_int (pa_cons pe_int (pa_cons pe_int pa_nil))))) (pa_cons (pe_tup (pa_cons pe_int (pa_cons pe_int (pa_cons pe_int (pa_cons pe_int pa_nil))))) pa_nil))) (pg_sub (pv 2) pe_str (set_dict (Nat.lt_of_le_of_lt (Nat.add_le_add_left (by decide) _) hr.units))))
      (pss_cons (ps_asg (pe_lst (pa_cons (pe_tup (pa_cons pe_int (pa_cons pe_int (pa_cons pe_int (pa_cons pe_int pa_nil))))) (pa_cons (pe_tup (pa_cons pe_int (pa_cons pe_int (pa_cons pe_int (pa_cons pe_int pa_nil))))) pa_nil))) (pg_sub (pv 2) pe_str (set_dict (Nat.lt_of_le_of_lt (Nat.add_le_add_left (by decide) _) hr.units))))
      (pss_cons (ps_asg (pe_lst (pa_cons (pe_tup (pa_cons pe_int (pa_cons pe_int (pa_cons pe_int (pa_cons pe_int pa_nil))))) (pa_cons (pe_tup (pa_cons pe_int (pa_cons pe_int (pa_cons pe_int (pa_cons pe_int pa_nil))))) pa_nil))) (pg_sub (pv 2) pe_str (set_dict (Nat.lt_of_le_of_lt (Nat.add_le_add_left (by decide) _) hr.units))))
      (pss_cons (ps_asg (pe_lst (pa_cons (pe_tup (pa_cons pe_int (pa_cons pe_int (pa_cons pe_int (pa_cons pe_int pa_nil))))) pa_nil)) (pg_sub (pv 2) pe_str (set_dict (Nat.lt_of_le_of_lt (Nat.add_le_add_left (by decide) _) hr.units))))
      (pss_one (ps_ret (pe_ifExp (pt_val (pe_ix (show IxR _ (rIxT K) from ix_tup) (pv 0) pe_int (fun _ _ => rfl))) (pe_dget (Nat.lt_of_le_of_lt (Nat.add_le_add_left (by decide) _) hr.units) (pv 2) (pe_ix (show IxR _ (rIxT K) from ix_tup) (pv 0) pe_int (fun _ _ => rfl)) (fun _ _ => rfl)) (pe_dget (Nat.lt_of_le_of_lt (Nat.add_le_add_left (by decide) _) hr.units) (pv 1) (pe_ix (show IxR _ (rIxT K) from ix_tup) (pv 0) pe_int (fun _ _ => rfl)) (fun _ _ => rfl)))))))))))))))), ?_⟩
    have KH : ∀ {G G' : Hp} {p : Addr} {kvs : List (Key × V)}, G kh = some (.tup [.str z, .bl b]) → G p = some (.dK kvs) → SameB p G G' → G' kh = some (.tup [.str z, .bl b]) := fun e hp s => s _ _ (fun z => by
      rw [z, hp] at e
      cases e) e
    refine fun p np => ?_
    have yr := same_new (o := .dK []) np
    have fr0 := upd_same (H := H) (a := p) (o := .dK [])
    generalize upd H p (.dK []) = Gr0 at yr fr0 ⊢
    refine pair_step (rl_run [(5, 2, 3, 1), (3, 1, 2, 1), (5, 1, 2, 0), (4, 1, 3, 2)] (by decide) fun l0 Gr1 sr1 qr0 => ?_)
    have fra := sr1 _ _ (fr0)
    have qr0 := qr0
    refine ⟨fra, [(.inr ("plain" : Str), .ref l0)], rfl, Nat.le_of_ble_eq_true rfl, ?_⟩
    have bra : SameB p Gr1 (upd Gr1 p (.dK (mergeK [] [(.inr ("plain" : Str), .ref l0)]))) := SameB.set
    have era : (upd Gr1 p (.dK (mergeK [] [(.inr ("plain" : Str), .ref l0)]))) p = some (.dK [(.inr ("plain" : Str), .ref l0)]) := upd_same
    show gName _ _ _ (upd Gr1 p (.dK (mergeK [] [(.inr ("plain" : Str), .ref l0)]))) _
    generalize upd Gr1 p (.dK (mergeK [] [(.inr ("plain" : Str), .ref l0)])) = Kra at bra era ⊢
    have Bra : SameB p H Kra := (SameB.of (yr.trans sr1)).trans bra
    have qr0 := qr0.keep fra bra
    refine gname_go ?_
    try dsimp only
    refine asg_step (rl_run [(3, 1, 1, 1), (5, 2, 2, 3), (4, 1, 1, 0)] (by decide) fun l1 Grb srb qr1 => ?_)
    have frb := srb _ _ era
    refine ⟨_, rfl, p, _, rfl, DPut.k (k := .inr ("sides" : Str)) frb (by rw [sizeLine_eq]; exact Nat.le_of_ble_eq_true rfl), ?_⟩
    have brb : SameB p Grb (upd Grb p (.dK (putK [(.inr ("plain" : Str), .ref l0)] (.inr ("sides" : Str)) (.ref l1)))) := SameB.set
    have erb : (upd Grb p (.dK (putK [(.inr ("plain" : Str), .ref l0)] (.inr ("sides" : Str)) (.ref l1)))) p = some (.dK [(.inr ("plain" : Str), .ref l0), (.inr ("sides" : Str), .ref l1)]) := upd_same
    show tSeq _ _ _ _ (upd Grb p (.dK (putK [(.inr ("plain" : Str), .ref l0)] (.inr ("sides" : Str)) (.ref l1))))
    generalize upd Grb p (.dK (putK [(.inr ("plain" : Str), .ref l0)] (.inr ("sides" : Str)) (.ref l1))) = Krb at brb erb ⊢
    have Brb := (Bra.trans (SameB.of srb)).trans brb
    have qr0 := (qr0.same srb).keep frb brb
    have qr1 := qr1.keep frb brb
    refine asg_step (rl_run [(3, 2, 1, 0), (5, 4, 2, 1), (4, 3, 1, 2)] (by decide) fun l2 Grc src qr2 => ?_)
    have frc := src _ _ erb
    refine ⟨_, rfl, p, _, rfl, DPut.k (k := .inr ("front" : Str)) frc (by rw [sizeLine_eq]; exact Nat.le_of_ble_eq_true rfl), ?_⟩
    have brc : SameB p Grc (upd Grc p (.dK (putK [(.inr ("plain" : Str), .ref l0), (.inr ("sides" : Str), .ref l1)] (.inr ("front" : Str)) (.ref l2)))) := SameB.set
    have erc : (upd Grc p (.dK (putK [(.inr ("plain" : Str), .ref l0), (.inr ("sides" : Str), .ref l1)] (.inr ("front" : Str)) (.ref l2)))) p = some (.dK [(.inr ("plain" : Str), .ref l0), (.inr ("sides" : Str), .ref l1), (.inr ("front" : Str), .ref l2)]) := upd_same
    show tSeq _ _ _ _ (upd Grc p (.dK (putK [(.inr ("plain" : Str), .ref l0), (.inr ("sides" : Str), .ref l1)] (.inr ("front" : Str)) (.ref l2))))
    generalize upd Grc p (.dK (putK [(.inr ("plain" : Str), .ref l0), (.inr ("sides" : Str), .ref l1)] (.inr ("front" : Str)) (.ref l2))) = Krc at brc erc ⊢
    have Brc := (Brb.trans (SameB.of src)).trans brc
    have qr0 := (qr0.same src).keep frc brc
    have qr1 := (qr1.same src).keep frc brc
    have qr2 := qr2.keep frc brc
    refine asg_step (rl_run [(3, 1, 2, 0), (5, 2, 4, 1), (4, 1, 3, 0)] (by decide) fun l3 Grd srd qr3 => ?_)
    have frd := srd _ _ erc
    refine ⟨_, rfl, p, _, rfl, DPut.k (k := .inr ("back" : Str)) frd (by rw [sizeLine_eq]; exact Nat.le_of_ble_eq_true rfl), ?_⟩
    have brd : SameB p Grd (upd Grd p (.dK (putK [(.inr ("plain" : Str), .ref l0), (.inr ("sides" : Str), .ref l1), (.inr ("front" : Str), .ref l2)] (.inr ("back" : Str)) (.ref l3)))) := SameB.set
    have erd : (upd Grd p (.dK (putK [(.inr ("plain" : Str), .ref l0), (.inr ("sides" : Str), .ref l1), (.inr ("front" : Str), .ref l2)] (.inr ("back" : Str)) (.ref l3)))) p = some (.dK [(.inr ("plain" : Str), .ref l0), (.inr ("sides" : Str), .ref l1), (.inr ("front" : Str), .ref l2), (.inr ("back" : Str), .ref l3)]) := upd_same
    show tSeq _ _ _ _ (upd Grd p (.dK (putK [(.inr ("plain" : Str), .ref l0), (.inr ("sides" : Str), .ref l1), (.inr ("front" : Str), .ref l2)] (.inr ("back" : Str)) (.ref l3))))
    generalize upd Grd p (.dK (putK [(.inr ("plain" : Str), .ref l0), (.inr ("sides" : Str), .ref l1), (.inr ("front" : Str), .ref l2)] (.inr ("back" : Str)) (.ref l3))) = Krd at brd erd ⊢
    have Brd := (Brc.trans (SameB.of srd)).trans brd
    have qr0 := (qr0.same srd).keep frd brd
    have qr1 := (qr1.same srd).keep frd brd
    have qr2 := (qr2.same srd).keep frd brd
    have qr3 := qr3.keep frd brd
    refine asg_step (rl_run [(7, 3, 5, 0), (3, 2, 2, 1), (9, 2, 5, 0)] (by decide) fun l4 Gre sre qr4 => ?_)
    have fre := sre _ _ erd
    refine ⟨_, rfl, p, _, rfl, DPut.k (k := .inr ("round" : Str)) fre (by rw [sizeLine_eq]; exact Nat.le_of_ble_eq_true rfl), ?_⟩
    have bre : SameB p Gre (upd Gre p (.dK (putK [(.inr ("plain" : Str), .ref l0), (.inr ("sides" : Str), .ref l1), (.inr ("front" : Str), .ref l2), (.inr ("back" : Str), .ref l3)] (.inr ("round" : Str)) (.ref l4)))) := SameB.set
    have ere : (upd Gre p (.dK (putK [(.inr ("plain" : Str), .ref l0), (.inr ("sides" : Str), .ref l1), (.inr ("front" : Str), .ref l2), (.inr ("back" : Str), .ref l3)] (.inr ("round" : Str)) (.ref l4)))) p = some (.dK [(.inr ("plain" : Str), .ref l0), (.inr ("sides" : Str), .ref l1), (.inr ("front" : Str), .ref l2), (.inr ("back" : Str), .ref l3), (.inr ("round" : Str), .ref l4)]) := upd_same
    show tSeq _ _ _ _ (upd Gre p (.dK (putK [(.inr ("plain" : Str), .ref l0), (.inr ("sides" : Str), .ref l1), (.inr ("front" : Str), .ref l2), (.inr ("back" : Str), .ref l3)] (.inr ("round" : Str)) (.ref l4))))
    generalize upd Gre p (.dK (putK [(.inr ("plain" : Str), .ref l0), (.inr ("sides" : Str), .ref l1), (.inr ("front" : Str), .ref l2), (.inr ("back" : Str), .ref l3)] (.inr ("round" : Str)) (.ref l4))) = Kre at bre ere ⊢
    have Bre := (Brd.trans (SameB.of sre)).trans bre
    have qr0 := (qr0.same sre).keep fre bre
    have qr1 := (qr1.same sre).keep fre bre
    have qr2 := (qr2.same sre).keep fre bre
    have qr3 := (qr3.same sre).keep fre bre
    have qr4 := qr4.keep fre bre
    refine asg_step (rl_run [(3, 2, 2, 1), (5, 4, 4, 2), (4, 0, 0, 0)] (by decide) fun l5 Grf srf qr5 => ?_)
    have frf := srf _ _ ere
    refine ⟨_, rfl, p, _, rfl, DPut.k (k := .inr ("all" : Str)) frf (by rw [sizeLine_eq]; exact Nat.le_of_ble_eq_true rfl), ?_⟩
    have brf : SameB p Grf (upd Grf p (.dK (putK [(.inr ("plain" : Str), .ref l0), (.inr ("sides" : Str), .ref l1), (.inr ("front" : Str), .ref l2), (.inr ("back" : Str), .ref l3), (.inr ("round" : Str), .ref l4)] (.inr ("all" : Str)) (.ref l5)))) := SameB.set
    have erf : (upd Grf p (.dK (putK [(.inr ("plain" : Str), .ref l0), (.inr ("sides" : Str), .ref l1), (.inr ("front" : Str), .ref l2), (.inr ("back" : Str), .ref l3), (.inr ("round" : Str), .ref l4)] (.inr ("all" : Str)) (.ref l5)))) p = some (.dK [(.inr ("plain" : Str), .ref l0), (.inr ("sides" : Str), .ref l1), (.inr ("front" : Str), .ref l2), (.inr ("back" : Str), .ref l3), (.inr ("round" : Str), .ref l4), (.inr ("all" : Str), .ref l5)]) := upd_same
    show tSeq _ _ _ _ (upd Grf p (.dK (putK [(.inr ("plain" : Str), .ref l0), (.inr ("sides" : Str), .ref l1), (.inr ("front" : Str), .ref l2), (.inr ("back" : Str), .ref l3), (.inr ("round" : Str), .ref l4)] (.inr ("all" : Str)) (.ref l5))))
    generalize upd Grf p (.dK (putK [(.inr ("plain" : Str), .ref l0), (.inr ("sides" : Str), .ref l1), (.inr ("front" : Str), .ref l2), (.inr ("back" : Str), .ref l3), (.inr ("round" : Str), .ref l4)] (.inr ("all" : Str)) (.ref l5))) = Krf at brf erf ⊢
    have Brf := (Bre.trans (SameB.of srf)).trans brf
    have qr0 := (qr0.same srf).keep frf brf
    have qr1 := (qr1.same srf).keep frf brf
    have qr2 := (qr2.same srf).keep frf brf
    have qr3 := (qr3.same srf).keep frf brf
    have qr4 := (qr4.same srf).keep frf brf
    have qr5 := qr5.keep frf brf
    refine fun p2 np2 => ?_
    have yt := same_new (o := .dK []) np2
    have ft0 := upd_same (H := Krf) (a := p2) (o := .dK [])
    have qr0 := qr0.same yt
    have qr1 := qr1.same yt
    have qr2 := qr2.same yt
    have qr3 := qr3.same yt
    have qr4 := qr4.same yt
    have qr5 := qr5.same yt
    generalize upd Krf p2 (.dK []) = Gt0 at yt ft0 qr0 qr1 qr2 qr3 qr4 qr5 ⊢
    refine pair_step (rl_run [(5, 2, 4, 0), (7, 3, 5, 0)] (by decide) fun m0 Gt1 st1 qt0 => pair_step (rl_run [(3, 2, 2, 0), (5, 3, 3, 0)] (by decide) fun m1 Gt2 st2 qt1 => ?_))
    have fta := st2 _ _ (st1 _ _ (ft0))
    have qr0 := ((qr0.same st1).same st2)
    have qr1 := ((qr1.same st1).same st2)
    have qr2 := ((qr2.same st1).same st2)
    have qr3 := ((qr3.same st1).same st2)
    have qr4 := ((qr4.same st1).same st2)
    have qr5 := ((qr5.same st1).same st2)
    have qt0 := (qt0.same st2)
    have qt1 := qt1
    refine ⟨fta, [(.inr ("plain" : Str), .ref m0), (.inr ("sides" : Str), .ref m1)], rfl, Nat.le_of_ble_eq_true rfl, ?_⟩
    have bta : SameB p2 Gt2 (upd Gt2 p2 (.dK (mergeK [] [(.inr ("plain" : Str), .ref m0), (.inr ("sides" : Str), .ref m1)]))) := SameB.set
    have eta : (upd Gt2 p2 (.dK (mergeK [] [(.inr ("plain" : Str), .ref m0), (.inr ("sides" : Str), .ref m1)]))) p2 = some (.dK [(.inr ("plain" : Str), .ref m0), (.inr ("sides" : Str), .ref m1)]) := upd_same
    show gName _ _ _ (upd Gt2 p2 (.dK (mergeK [] [(.inr ("plain" : Str), .ref m0), (.inr ("sides" : Str), .ref m1)]))) _
    generalize upd Gt2 p2 (.dK (mergeK [] [(.inr ("plain" : Str), .ref m0), (.inr ("sides" : Str), .ref m1)])) = Kta at bta eta ⊢
    have Bta : SameB p2 Krf Kta := (SameB.of ((yt.trans st1).trans st2)).trans bta
    have qt0 := qt0.keep fta bta
    have qt1 := qt1.keep fta bta
    have qr0 := qr0.keep fta bta
    have qr1 := qr1.keep fta bta
    have qr2 := qr2.keep fta bta
    have qr3 := qr3.keep fta bta
    have qr4 := qr4.keep fta bta
    have qr5 := qr5.keep fta bta
    refine gname_go ?_
    try dsimp only
    refine asg_step (rl_run [(3, 2, 2, 0), (5, 4, 2, 0)] (by decide) fun m2 Gtb stb qt2 => ?_)
    have ftb := stb _ _ eta
    refine ⟨_, rfl, p2, _, rfl, DPut.k (k := .inr ("front" : Str)) ftb (by rw [sizeLine_eq]; exact Nat.le_of_ble_eq_true rfl), ?_⟩
    have btb : SameB p2 Gtb (upd Gtb p2 (.dK (putK [(.inr ("plain" : Str), .ref m0), (.inr ("sides" : Str), .ref m1)] (.inr ("front" : Str)) (.ref m2)))) := SameB.set
    have etb : (upd Gtb p2 (.dK (putK [(.inr ("plain" : Str), .ref m0), (.inr ("sides" : Str), .ref m1)] (.inr ("front" : Str)) (.ref m2)))) p2 = some (.dK [(.inr ("plain" : Str), .ref m0), (.inr ("sides" : Str), .ref m1), (.inr ("front" : Str), .ref m2)]) := upd_same
    show tSeq _ _ _ _ (upd Gtb p2 (.dK (putK [(.inr ("plain" : Str), .ref m0), (.inr ("sides" : Str), .ref m1)] (.inr ("front" : Str)) (.ref m2))))
    generalize upd Gtb p2 (.dK (putK [(.inr ("plain" : Str), .ref m0), (.inr ("sides" : Str), .ref m1)] (.inr ("front" : Str)) (.ref m2))) = Ktb at btb etb ⊢
    have Btb := (Bta.trans (SameB.of stb)).trans btb
    have qt0 := (qt0.same stb).keep ftb btb
    have qt1 := (qt1.same stb).keep ftb btb
    have qt2 := qt2.keep ftb btb
    have qr0 := (qr0.same stb).keep ftb btb
    have qr1 := (qr1.same stb).keep ftb btb
    have qr2 := (qr2.same stb).keep ftb btb
    have qr3 := (qr3.same stb).keep ftb btb
    have qr4 := (qr4.same stb).keep ftb btb
    have qr5 := (qr5.same stb).keep ftb btb
    refine asg_step (rl_run [(3, 2, 2, 0), (5, 2, 4, 0)] (by decide) fun m3 Gtc stc qt3 => ?_)
    have ftc := stc _ _ etb
    refine ⟨_, rfl, p2, _, rfl, DPut.k (k := .inr ("back" : Str)) ftc (by rw [sizeLine_eq]; exact Nat.le_of_ble_eq_true rfl), ?_⟩
    have btc : SameB p2 Gtc (upd Gtc p2 (.dK (putK [(.inr ("plain" : Str), .ref m0), (.inr ("sides" : Str), .ref m1), (.inr ("front" : Str), .ref m2)] (.inr ("back" : Str)) (.ref m3)))) := SameB.set
    have etc : (upd Gtc p2 (.dK (putK [(.inr ("plain" : Str), .ref m0), (.inr ("sides" : Str), .ref m1), (.inr ("front" : Str), .ref m2)] (.inr ("back" : Str)) (.ref m3)))) p2 = some (.dK [(.inr ("plain" : Str), .ref m0), (.inr ("sides" : Str), .ref m1), (.inr ("front" : Str), .ref m2), (.inr ("back" : Str), .ref m3)]) := upd_same
    show tSeq _ _ _ _ (upd Gtc p2 (.dK (putK [(.inr ("plain" : Str), .ref m0), (.inr ("sides" : Str), .ref m1), (.inr ("front" : Str), .ref m2)] (.inr ("back" : Str)) (.ref m3))))
    generalize upd Gtc p2 (.dK (putK [(.inr ("plain" : Str), .ref m0), (.inr ("sides" : Str), .ref m1), (.inr ("front" : Str), .ref m2)] (.inr ("back" : Str)) (.ref m3))) = Ktc at btc etc ⊢
    have Btc := (Btb.trans (SameB.of stc)).trans btc
    have qt0 := (qt0.same stc).keep ftc btc
    have qt1 := (qt1.same stc).keep ftc btc
    have qt2 := (qt2.same stc).keep ftc btc
    have qt3 := qt3.keep ftc btc
    have qr0 := (qr0.same stc).keep ftc btc
    have qr1 := (qr1.same stc).keep ftc btc
    have qr2 := (qr2.same stc).keep ftc btc
    have qr3 := (qr3.same stc).keep ftc btc
    have qr4 := (qr4.same stc).keep ftc btc
    have qr5 := (qr5.same stc).keep ftc btc
    refine asg_step (rl_run [(7, 3, 5, 0), (7, 5, 3, 0)] (by decide) fun m4 Gtd std qt4 => ?_)
    have ftd := std _ _ etc
    refine ⟨_, rfl, p2, _, rfl, DPut.k (k := .inr ("round" : Str)) ftd (by rw [sizeLine_eq]; exact Nat.le_of_ble_eq_true rfl), ?_⟩
    have btd : SameB p2 Gtd (upd Gtd p2 (.dK (putK [(.inr ("plain" : Str), .ref m0), (.inr ("sides" : Str), .ref m1), (.inr ("front" : Str), .ref m2), (.inr ("back" : Str), .ref m3)] (.inr ("round" : Str)) (.ref m4)))) := SameB.set
    have etd : (upd Gtd p2 (.dK (putK [(.inr ("plain" : Str), .ref m0), (.inr ("sides" : Str), .ref m1), (.inr ("front" : Str), .ref m2), (.inr ("back" : Str), .ref m3)] (.inr ("round" : Str)) (.ref m4)))) p2 = some (.dK [(.inr ("plain" : Str), .ref m0), (.inr ("sides" : Str), .ref m1), (.inr ("front" : Str), .ref m2), (.inr ("back" : Str), .ref m3), (.inr ("round" : Str), .ref m4)]) := upd_same
    show tSeq _ _ _ _ (upd Gtd p2 (.dK (putK [(.inr ("plain" : Str), .ref m0), (.inr ("sides" : Str), .ref m1), (.inr ("front" : Str), .ref m2), (.inr ("back" : Str), .ref m3)] (.inr ("round" : Str)) (.ref m4))))
    generalize upd Gtd p2 (.dK (putK [(.inr ("plain" : Str), .ref m0), (.inr ("sides" : Str), .ref m1), (.inr ("front" : Str), .ref m2), (.inr ("back" : Str), .ref m3)] (.inr ("round" : Str)) (.ref m4))) = Ktd at btd etd ⊢
    have Btd := (Btc.trans (SameB.of std)).trans btd
    have qt0 := (qt0.same std).keep ftd btd
    have qt1 := (qt1.same std).keep ftd btd
    have qt2 := (qt2.same std).keep ftd btd
    have qt3 := (qt3.same std).keep ftd btd
    have qt4 := qt4.keep ftd btd
    have qr0 := (qr0.same std).keep ftd btd
    have qr1 := (qr1.same std).keep ftd btd
    have qr2 := (qr2.same std).keep ftd btd
    have qr3 := (qr3.same std).keep ftd btd
    have qr4 := (qr4.same std).keep ftd btd
    have qr5 := (qr5.same std).keep ftd btd
    refine asg_step (rl_run [(3, 2, 2, 0)] (by decide) fun m5 Gte ste qt5 => ?_)
    have fte := ste _ _ etd
    refine ⟨_, rfl, p2, _, rfl, DPut.k (k := .inr ("all" : Str)) fte (by rw [sizeLine_eq]; exact Nat.le_of_ble_eq_true rfl), ?_⟩
    have bte : SameB p2 Gte (upd Gte p2 (.dK (putK [(.inr ("plain" : Str), .ref m0), (.inr ("sides" : Str), .ref m1), (.inr ("front" : Str), .ref m2), (.inr ("back" : Str), .ref m3), (.inr ("round" : Str), .ref m4)] (.inr ("all" : Str)) (.ref m5)))) := SameB.set
    have ete : (upd Gte p2 (.dK (putK [(.inr ("plain" : Str), .ref m0), (.inr ("sides" : Str), .ref m1), (.inr ("front" : Str), .ref m2), (.inr ("back" : Str), .ref m3), (.inr ("round" : Str), .ref m4)] (.inr ("all" : Str)) (.ref m5)))) p2 = some (.dK [(.inr ("plain" : Str), .ref m0), (.inr ("sides" : Str), .ref m1), (.inr ("front" : Str), .ref m2), (.inr ("back" : Str), .ref m3), (.inr ("round" : Str), .ref m4), (.inr ("all" : Str), .ref m5)]) := upd_same
    show tRet _ _ _ (upd Gte p2 (.dK (putK [(.inr ("plain" : Str), .ref m0), (.inr ("sides" : Str), .ref m1), (.inr ("front" : Str), .ref m2), (.inr ("back" : Str), .ref m3), (.inr ("round" : Str), .ref m4)] (.inr ("all" : Str)) (.ref m5))))
    generalize upd Gte p2 (.dK (putK [(.inr ("plain" : Str), .ref m0), (.inr ("sides" : Str), .ref m1), (.inr ("front" : Str), .ref m2), (.inr ("back" : Str), .ref m3), (.inr ("round" : Str), .ref m4)] (.inr ("all" : Str)) (.ref m5))) = Kte at bte ete ⊢
    have Bte := (Btd.trans (SameB.of ste)).trans bte
    have qt0 := (qt0.same ste).keep fte bte
    have qt1 := (qt1.same ste).keep fte bte
    have qt2 := (qt2.same ste).keep fte bte
    have qt3 := (qt3.same ste).keep fte bte
    have qt4 := (qt4.same ste).keep fte bte
    have qt5 := qt5.keep fte bte
    have qr0 := (qr0.same ste).keep fte bte
    have qr1 := (qr1.same ste).keep fte bte
    have qr2 := (qr2.same ste).keep fte bte
    have qr3 := (qr3.same ste).keep fte bte
    have qr4 := (qr4.same ste).keep fte bte
    have qr5 := (qr5.same ste).keep fte bte
    have nP : p2 ≠ p := fun z => by rw [z, erf] at np2; cases np2
    have keepP : Kte p = some (.dK [(.inr ("plain" : Str), .ref l0), (.inr ("sides" : Str), .ref l1), (.inr ("front" : Str), .ref l2), (.inr ("back" : Str), .ref l3), (.inr ("round" : Str), .ref l4), (.inr ("all" : Str), .ref l5)]) := Bte _ _ (Ne.symm nP) erf
    have ek2 : Kte kh = some (.tup [.str z, .bl b]) := by
      have n0 : H kh ≠ none := by rw [ekh]; exact fun z => by cases z
      have k1 : kh ≠ p := fun z => by rw [z, np] at ekh; cases ekh
      have hk1 := Brf _ _ k1 ekh
      have k2 : kh ≠ p2 := fun z => by rw [z, np2] at hk1; cases hk1
      exact Bte _ _ k2 hk1
    have sameAll : Same H Kte := fun c o e => by
      have c1 : c ≠ p := ne_of_none e np
      have h1 := Brf _ _ c1 e
      exact Bte _ _ (ne_of_none h1 np2) h1
    have pr : Paired (fun (kv : Key × V) (d : Str × List Rl) => kv.1 = Sum.inr d.1 ∧ ∃ l, kv.2 = V.ref l ∧ RlsAt Kte l d.2) [(.inr ("plain" : Str), .ref l0), (.inr ("sides" : Str), .ref l1), (.inr ("front" : Str), .ref l2), (.inr ("back" : Str), .ref l3), (.inr ("round" : Str), .ref l4), (.inr ("all" : Str), .ref l5)] ruleD := .cons ⟨rfl, l0, rfl, qr0⟩ (.cons ⟨rfl, l1, rfl, qr1⟩ (.cons ⟨rfl, l2, rfl, qr2⟩ (.cons ⟨rfl, l3, rfl, qr3⟩ (.cons ⟨rfl, l4, rfl, qr4⟩ (.cons ⟨rfl, l5, rfl, qr5⟩ (.nil))))))
    have pq : Paired (fun (kv : Key × V) (d : Str × List Rl) => kv.1 = Sum.inr d.1 ∧ ∃ l, kv.2 = V.ref l ∧ RlsAt Kte l d.2) [(.inr ("plain" : Str), .ref m0), (.inr ("sides" : Str), .ref m1), (.inr ("front" : Str), .ref m2), (.inr ("back" : Str), .ref m3), (.inr ("round" : Str), .ref m4), (.inr ("all" : Str), .ref m5)] quietD := .cons ⟨rfl, m0, rfl, qt0⟩ (.cons ⟨rfl, m1, rfl, qt1⟩ (.cons ⟨rfl, m2, rfl, qt2⟩ (.cons ⟨rfl, m3, rfl, qt3⟩ (.cons ⟨rfl, m4, rfl, qt4⟩ (.cons ⟨rfl, m5, rfl, qt5⟩ (.nil))))))
    obtain ⟨i1, i2⟩ := look_in6 z (List.contains_iff_mem.mp hz)
    obtain ⟨ra, hra⟩ := Option.isSome_iff_exists.mp i1
    obtain ⟨rb, hrb⟩ := Option.isSome_iff_exists.mp i2
    refine ret_go ⟨_, rfl, kh, _, _, .bl b, rfl, rfl, SqT.of ek2, atI_nat (j := 1) rfl, _, rfl, ?_⟩
    cases hb : b with
    | true =>
      obtain ⟨lx, hv, qx⟩ := rls_val pq hrb
      obtain ⟨o1, o2⟩ := rule_of (ds := quietD) (fun d hd => List.mem_append_right _ hd) hrb
      exact iteT ⟨_, rfl, _, rfl, kh, _, _, .str z, rfl, rfl, SqT.of ek2, atI_nat (j := 0) rfl, p2, .ref lx, rfl, .inl ⟨_, .inr z, .inl ete, rfl, hv.symm⟩, q lx _ rb sameAll qx o1 o2⟩
    | false =>
      obtain ⟨lx, hv, qx⟩ := rls_val pr hra
      obtain ⟨o1, o2⟩ := rule_of (ds := ruleD) (fun d hd => List.mem_append_left _ hd) hra
      exact iteF ⟨_, rfl, _, rfl, kh, _, _, .str z, rfl, rfl, SqT.of ek2, atI_nat (j := 0) rfl, p, .ref lx, rfl, .inl ⟨_, .inr z, .inl keepP, rfl, hv.symm⟩, q lx _ ra sameAll qx o1 o2⟩

theorem c_clash (T : Bt mg) (F : FnP K "_law_clash" s_clash f fd) (hm : mg "_law_clash" = some (.ref f)) : Cal P w K mg base 1 "_law_clash" (spClash K) := by
  have hnd := sc_clash.nd
  refine cal_mk F hm sc_clash (fun _ _ _ _ _ _ us hl => match us, hl with | [_, _], _ => rfl) (fun vs H Q E h => ?_) (fun cdv A outer s H vs Q E hr h => ?_)
  · obtain ⟨q1, r1, s, x, rfl, _⟩ := h
    rfl
  · obtain ⟨q1, r1, s9, x9, rfl, e1, e2, q⟩ := h
    refine ⟨_, (pss_cons (ps_setLc (i := 3) (own := [("_law_at", 2)]) (by rfl) hnd rfl (by rfl) (sw_true rfl rfl rfl (by decide +kernel)) (pi_range1 (by rfl) T.m_range (pa_cons pe_int pa_nil)) (blkOk_by (own := [("_law_at", 2)]) (N := N_clash) (sc := defScope s_clash) (by decide +kernel)) (fun _ _ _ _ _ => (pg_name (i := 2) hnd rfl (by first | exact Or.inl rfl | exact Or.inr rfl))) (fun _ _ _ _ _ => (pts_one (pt_cmpR op_eq (pe_ix (show IxR _ (rIxT K) from ix_tup) (pv 0) (pv 2) (fun _ _ => rfl)) (pe_ix (show IxR _ (rIxT K) from ix_tup) (pv 1) (pv 2) (fun _ _ => rfl)) (nomark _)))) (fun _ _ _ _ _ => (pv 2)))
      (pss_one (ps_ret (pe_cmpR op_eq (pe_callB call_len_seq (by rfl) T.m_len (by decide +kernel) (pa_cons (pv 3) pa_nil)) pe_int (nomark _))))), ?_⟩
    refine ⟨3, rfl, by decide, by decide, fun D nD => ?_⟩
    rw [show ((3 : Int)).toNat = 3 from rfl]
    refine lc_range (n := 3) (fun j G => Same H G ∧ G D = some (.lst (((List.range j).filter (agAt s9 x9)).map fun j : Nat => V.int (j : Int)))) ⟨same_new nD, upd_same⟩ ?_ ?_
    · rintro j G hj ⟨sg, eg⟩
      rw [Int.zero_add]
      refine gname_go ⟨rfl, _, rfl, _, rfl, q1, _, _, .int (pl s9 (j : Int) : Nat), rfl, rfl, sqT_same e1 sg, pl_at (by rcases (show j = 0 ∨ j = 1 ∨ j = 2 by omega) with rfl | rfl | rfl <;> rfl), _, rfl, _, rfl, r1, _, _, .int (pl x9 (j : Int) : Nat), rfl, rfl, sqT_same e2 sg, pl_at (by rcases (show j = 0 ∨ j = 1 ∨ j = 2 by omega) with rfl | rfl | rfl <;> rfl), rfl, _, rfl, ?_⟩
      have fs : ((List.range (j + 1)).filter (agAt s9 x9)) = ((List.range j).filter (agAt s9 x9)) ++ [j].filter (agAt s9 x9) := by
        rw [List.range_succ, List.filter_append]
      by_cases c : pl s9 (j : Int) = pl x9 (j : Int)
      · refine iteT2 (decide_eq_true (by rw [c])) ⟨_, rfl, _, eg, ?_, same_put nD sg, ?_⟩
        · rw [List.length_map, sizeLine_eq]
          have := List.length_filter_le (agAt s9 x9) (List.range j)
          rw [List.length_range] at this
          omega
        · rw [fs, List.filter_cons_of_pos (p := agAt s9 x9) (decide_eq_true c), List.filter_nil, List.map_append, upd_same]
          rfl
      · refine iteN2 (decide_eq_false fun e => c (by injection e with e; omega)) ⟨sg, ?_⟩
        rw [fs, List.filter_cons_of_neg (by unfold agAt; rw [decide_eq_false c]; decide), List.filter_nil, List.append_nil]
        exact eg
    · rintro G ⟨sg, eg⟩
      refine gname_go ⟨_, rfl, D, _, rfl, .inl (SqL.of eg), rfl, ?_⟩
      rw [List.length_map, ag_len]
      have := q G sg
      unfold clashB at this
      rw [show decide (V.int ((agr s9 x9 : Nat) : Int) = V.int 2) = decide (agr s9 x9 = 2) from by
        by_cases c : agr s9 x9 = 2
        · rw [decide_eq_true c, c]
          rfl
        · rw [decide_eq_false c]
          exact decide_eq_false fun e => c (by injection e with e; omega)]
      exact this
end
end L2.K15
set_option Elab.async false
set_option linter.all false
set_option maxRecDepth 100000
set_option maxHeartbeats 8000000
namespace L2.K15
open PySem PySem.Spec PyProof.Rows L2.Tb
open SX (S)
abbrev s_mixed : Stmt := top 70
abbrev N_mixed : List Str := ["_law_rule", "_law_first", "_law_second", "_law_size", "_law_p", "_law_q", "_law_r"]
theorem sc_mixed : FnScope N_mixed ["_law_rule", "_law_first", "_law_second"] (defScope s_mixed) := ⟨rfl, rfl, rfl, by decide +kernel, rfl, by decide +kernel, by decide +kernel⟩
abbrev s_square : Stmt := top 71
abbrev N_square : List Str := ["_law_rule", "_law_things", "_law_found", "_law_first", "_law_second"]
theorem sc_square : FnScope N_square ["_law_rule"] (defScope s_square) := ⟨rfl, rfl, rfl, by decide +kernel, rfl, by decide +kernel, by decide +kernel⟩
abbrev s_fits : Stmt := top 72
abbrev N_fits : List Str := ["_law_images_here", "_law_held", "_law_one", "_law_other"]
theorem sc_fits : FnScope N_fits ["_law_images_here", "_law_held"] (defScope s_fits) := ⟨rfl, rfl, rfl, by decide +kernel, rfl, by decide +kernel, by decide +kernel⟩
theorem xor4 : ∀ a < 4, ∀ b < 4, 0 ≤ Builtin.bitXor ((a : Nat) : Int) ((b : Nat) : Int) ∧ Builtin.bitXor ((a : Nat) : Int) ((b : Nat) : Int) < 4 := by decide +kernel
theorem rg_eq (m : Nat) : rgV 0 (m : Int) = (List.range m).map fun i => V.int (i : Nat) := by
  unfold rgV
  rw [show ((m : Int) - 0).toNat = m by omega]
  exact List.map_congr_left fun i _ => by rw [Int.zero_add]
theorem any_id {p : Trp → Bool} {xs : List Trp} : (xs.map p).any id = xs.any p := by rw [List.any_map]; rfl
theorem all_not {x : Trp} {xs : List Trp} : (xs.all fun s => !clashB x s) = !xs.any (clashB x) := by
  induction xs with
  | nil => rfl
  | cons s xs ih => rw [List.all_cons, List.any_cons, ih, Bool.not_or]
def spMixed (K : PySem.W.Frag) : Sp := fun vs H Q _ => ∃ (q : Addr) (r : Rl) (a b : Nat), vs = [.ref q, .int (a : Int), .int (b : Int)] ∧ SqT K H q (rlV r) ∧ RlOk r ∧ a < r.1 ∧ b < r.1 ∧ ∀ c : Nat, c < r.1 → Q (.int (c : Int)) H
def spSquare (K : PySem.W.Frag) : Sp := fun vs H Q _ => ∃ (q : Addr) (r : Rl), vs = [.ref q] ∧ SqT K H q (rlV r) ∧ RlOk r ∧ ∀ (l : Addr) (H' : Hp) (ts : List Trp), Same H H' → H l = none → TrpsAt H' l ts → (∀ t ∈ ts, Bd r.1 t) → ts.length = r.1 * r.1 → Q (.ref l) H'
def spFits : Sp := fun vs H Q _ => ∃ (l m : Addr) (xs held : List Trp), vs = [.ref l, .ref m] ∧ TrpsAt H l xs ∧ TrpsAt H m held ∧ held.length ≤ 100000 ∧ ∀ H', Same H H' → Q (.bl (fitsB xs held)) H'
section
variable {P : Program} {w : World} {K : PySem.W.Frag} {mg : Str → Option Value} {base : Heap} {f : Addr} {fd : FuncData}
theorem c_mixed (T : Bt mg) (F : FnP K "_law_mixed" s_mixed f fd) (hm : mg "_law_mixed" = some (.ref f)) : Cal P w K mg base 1 "_law_mixed" (spMixed K) := by
  have hnd := sc_mixed.nd
  refine cal_mk F hm sc_mixed (fun _ _ _ _ _ _ us hl => match us, hl with | [_, _, _], _ => rfl) (fun vs H Q E h => ?_) (fun cdv A outer s H vs Q E hr h => ?_)
  · obtain ⟨q1, r, a, b, rfl, _⟩ := h
    rfl
  · obtain ⟨q9, r, a, b, rfl, e9, ok, ha, hb, q⟩ := h
    obtain ⟨m0, m9, p9, q9', r9, x4⟩ := ok
    refine ⟨_, (pss_cons (ps_asg (pv 0) (pg_tup (by rfl) (pgs_cons (pg_name (i := 3) hnd rfl (by first | exact Or.inl rfl | exact Or.inr rfl)) (pgs_cons (pg_name (i := 4) hnd rfl (by first | exact Or.inl rfl | exact Or.inr rfl)) (pgs_cons (pg_name (i := 5) hnd rfl (by first | exact Or.inl rfl | exact Or.inr rfl)) (pgs_cons (pg_name (i := 6) hnd rfl (by first | exact Or.inl rfl | exact Or.inr rfl)) pgs_nil))))))
      (pss_one (ps_ret (pe_ifExp (pt_cmpR op_eq (pv 4) pe_int (nomark _)) (pe_op op_xor (pv 1) (pv 2)) (pe_op op_mod (pe_callTy call_int1 (by rfl) T.m_int (by decide +kernel) (pa_cons (pe_op op_add (pe_op op_add (pe_op op_mul (pv 4) (pv 1)) (pe_op op_mul (pv 5) (pv 2))) (pv 6)) pa_nil)) (pv 3)))))), ?_⟩
    refine ⟨_, rfl, q9, _, rfl, e9, rfl, _, _, rfl, _, _, rfl, _, _, rfl, _, _, rfl, rfl, ?_⟩
    refine ⟨_, rfl, rfl, _, rfl, ?_⟩
    by_cases c : r.2.1 = 0
    · have m4 := x4 c
      obtain ⟨x0, x1⟩ := xor4 a (by omega) b (by omega)
      refine iteT2 (decide_eq_true (by rw [c]; rfl)) ⟨_, rfl, _, rfl, _, _, rfl, rfl, ?_⟩
      have := q (Builtin.bitXor ((a : Nat) : Int) ((b : Nat) : Int)).toNat (by omega)
      rwa [show (((Builtin.bitXor ((a : Nat) : Int) ((b : Nat) : Int)).toNat : Nat) : Int) = Builtin.bitXor ((a : Nat) : Int) ((b : Nat) : Int) by omega] at this
    · refine iteN2 (decide_eq_false fun e => c (by injection e with e; omega)) ⟨_, rfl, _, rfl, _, _, rfl, rfl, .inl ⟨by omega, by omega⟩, _, rfl, _, rfl, _, _, rfl, rfl, .inl ⟨by omega, by omega⟩, _, _, rfl, rfl, _, rfl, _, _, rfl, rfl, .inl ⟨_, rfl, _, rfl, _, _, rfl, rfl, by show (0 : Int) < ((r.1 : Nat) : Int); omega, ?_⟩⟩
      dsimp only
      generalize hx : (((r.2.1 : Nat) : Int) * (a : Int) + ((r.2.2.1 : Nat) : Int) * (b : Int) + ((r.2.2.2 : Nat) : Int)) % ((r.1 : Nat) : Int) = v
      have v0 : 0 ≤ v := hx ▸ Int.emod_nonneg _ (by omega)
      have v1 : v < ((r.1 : Nat) : Int) := hx ▸ Int.emod_lt_of_pos _ (by omega)
      have := q v.toNat (by omega)
      rwa [show ((v.toNat : Nat) : Int) = v by omega] at this
theorem c_square (T : Bt mg) (k_mixed : Cal P w K mg base 1 "_law_mixed" (spMixed K)) (F : FnP K "_law_square" s_square f fd) (hm : mg "_law_square" = some (.ref f)) : Cal P w K mg base 2 "_law_square" (spSquare K) := by
  have hnd := sc_square.nd
  refine cal_mk F hm sc_square (fun _ _ _ _ _ _ us hl => match us, hl with | [_], _ => rfl) (fun vs H Q E h => ?_) (fun cdv A outer s H vs Q E hr h => ?_)
  · obtain ⟨q1, r, rfl, _⟩ := h
    rfl
  · obtain ⟨q9, r, rfl, e9, ok, q⟩ := h
    refine ⟨_, (pss_cons (ps_set (i := 1) hnd rfl (by first | exact Or.inl rfl | exact Or.inr rfl) (pe_listRg (by rfl) (by rfl) T.m_list (prg_1 (by rfl) T.m_range (pe_ix (show IxR _ (rIxT K) from ix_tup) (pv 0) pe_int (fun _ _ => rfl)))))
      (pss_cons (ps_set (i := 2) hnd rfl (by first | exact Or.inl rfl | exact Or.inr rfl) (pe_lst pa_nil))
      (pss_cons (ps_for PassesOwn.never (by rfl) (pi_list (pv 1)) (pg_name (i := 3) hnd rfl (by first | exact Or.inl rfl | exact Or.inr rfl))
      (pss_one (ps_set (i := 2) hnd rfl (by first | exact Or.inl rfl | exact Or.inr rfl) (pe_op op_cat (pv 2) (pe_lc (own := [("_law_second", 4)]) (tt := tYes) (by rfl) hnd (pi_list (pv 1)) (blkOk_by (own := [("_law_second", 4)]) (N := N_square) (sc := defScope s_square) (by decide +kernel)) (fun _ _ _ _ _ => (pg_name (i := 4) hnd rfl (by first | exact Or.inl rfl | exact Or.inr rfl))) (fun _ _ _ _ _ => pts_nil) (fun _ _ _ _ _ => (pe_tup (pa_cons (pv 3) (pa_cons (pv 4) (pa_cons (pe_cal k_mixed hr (by omega) (by rfl) (pa_cons (pv 0) (pa_cons (pv 3) (pa_cons (pv 4) pa_nil)))) pa_nil))))))))))
      (pss_one (ps_ret (pv 2)))))), ?_⟩
    have m9 := ok.m9
    refine ⟨_, rfl, q9, _, _, _, rfl, rfl, e9, atI_nat (j := 0) rfl, _, rfl, .of_le (by decide) (by omega) (by decide) (by omega), fun L nL => gname_go ?_⟩
    rw [rg_eq]
    have s1 := same_new (o := .lst ((List.range r.1).map fun i => V.int (i : Nat))) nL
    have eL := upd_same (H := H) (a := L) (o := .lst ((List.range r.1).map fun i => V.int (i : Nat)))
    generalize upd H L (.lst ((List.range r.1).map fun i => V.int (i : Nat))) = G0 at s1 eL ⊢
    refine ⟨Nat.le_of_ble_eq_true rfl, fun F0 nF => gname_go ?_⟩
    have s2 := s1.trans (same_new (o := .lst []) nF)
    have eL2 := (same_new (o := .lst []) nF) _ _ eL
    have t0 : TrpsAt (upd G0 F0 (.lst [])) F0 [] := ⟨[], upd_same, .nil⟩
    generalize upd G0 F0 (.lst []) = G1 at s2 eL2 t0 ⊢
    refine ⟨_, rfl, L, rfl, ⟨_, SqL.of eL2⟩, ?_⟩
    refine for_list (xs := (List.range r.1).map fun i => V.int (i : Nat)) (fun i σ' G => Same G1 G ∧ ∃ (l : Addr) (ts : List Trp) (x3 x4 : Option V), σ' = [some (.ref q9), some (.ref L), some (.ref l), x3, x4] ∧ H l = none ∧ TrpsAt G l ts ∧ (∀ t ∈ ts, Bd r.1 t) ∧ ts.length = i * r.1) ⟨Same.refl _, F0, [], _, _, rfl, none_back s1 nF, t0, (fun _ h => by cases h), by rw [Nat.zero_mul]; rfl⟩ (fun i σ' G _ h => SqL.of (h.1 _ _ eL2)) ?_ ?_
    · rintro i x σ' G hx ⟨sg, l, ts, x3, x4, rfl, hl0, tl, bt, tlen⟩
      rw [List.getElem?_map] at hx
      obtain ⟨i', hi', rfl⟩ := Option.map_eq_some_iff.mp hx
      have il : i < r.1 := by
        have := (List.getElem?_eq_some_iff.mp hi').1
        rwa [List.length_range] at this
      have ei : i' = i := by
        rw [List.getElem?_range il] at hi'
        exact (Option.some.inj hi').symm
      subst ei
      refine gname_go ⟨_, rfl, _, rfl, L, rfl, ⟨_, SqL.of (sg _ _ eL2)⟩, fun D nD => ?_⟩
      refine lc_list (xs := (List.range r.1).map fun i => V.int (i : Nat)) (fun j G2 => Same G G2 ∧ ∃ (qs : List Addr) (us : List Trp), G2 D = some (.lst (qs.map V.ref)) ∧ Paired (TrpAt G2) qs us ∧ (∀ t ∈ us, Bd r.1 t) ∧ us.length = j) ⟨same_new nD, [], [], upd_same, .nil, (fun _ h => by cases h), rfl⟩ (fun j G2 _ h => SqL.of (h.1 _ _ (sg _ _ eL2))) ?_ ?_
      · rintro j x G2 hx2 ⟨s9, qs, us, eD, pq, bu, ul⟩
        rw [List.getElem?_map] at hx2
        obtain ⟨j', hj', rfl⟩ := Option.map_eq_some_iff.mp hx2
        have jl : j < r.1 := by
          have := (List.getElem?_eq_some_iff.mp hj').1
          rwa [List.length_range] at this
        have ej : j' = j := by
          rw [List.getElem?_range jl] at hj'
          exact (Option.some.inj hj').symm
        subst ej
        refine gname_go ⟨rfl, ?_⟩
        unfold tYes
        dsimp only
        rw [if_pos rfl]
        refine ⟨_, rfl, _, rfl, _, rfl, _, rfl, _, rfl, q9, r, i', j', rfl, sqT_same e9 ((s2.trans sg).trans s9), ok, il, jl, fun c hc => ⟨Nat.le_of_ble_eq_true rfl, fun R nR => ?_⟩⟩
        have sR := same_new (o := .tup [.int (i' : Int), .int (j' : Int), .int (c : Int)]) nR
        have ql := pf_len pq
        have nR8 : ∀ {x : Addr} {w9 : List V}, (upd G2 R (.tup [.int (i' : Int), .int (j' : Int), .int (c : Int)])) x = some (.tup w9) → x ≠ D := fun {x w9} e z => by
          rw [z, sR _ _ eD] at e
          cases e
        refine ⟨_, sR _ _ eD, by rw [List.length_map, sizeLine_eq]; omega, same_put nD (s9.trans sR), qs ++ [R], us ++ [(i', j', c)], by rw [upd_same, List.map_append]; rfl, paired_app (paired_imp (fun x t h => (upd_ne (nR8 (sR _ _ h))).trans (sR _ _ h)) pq) (.cons ((upd_ne (nR8 upd_same)).trans upd_same) .nil), fun t ht => ?_, by rw [List.length_append, List.length_singleton, ul]⟩
        rcases List.mem_append.mp ht with ht | ht
        · exact bu t ht
        · rw [List.mem_singleton.mp ht]
          exact ⟨il, jl, hc⟩
      · rintro G2 ⟨s9, qs, us, eD, pq, bu, ul⟩
        rw [List.length_map, List.length_range] at ul
        obtain ⟨ps, el, pl9⟩ := tl.same s9
        have l1 := pf_len pl9
        have l2 := pf_len pq
        have mm : i' * r.1 ≤ 9 * 9 := Nat.mul_le_mul (by omega) m9
        refine ⟨l, D, _, _, rfl, rfl, el, eD, by rw [List.length_map, List.length_map, sizeLine_eq]; omega, fun R nR => ?_⟩
        have sR := same_new (o := .lst (ps.map V.ref ++ qs.map V.ref)) nR
        refine ⟨(sg.trans s9).trans sR, R, ts ++ us, _, _, rfl, none_back ((s2.trans sg).trans s9) nR, ⟨ps ++ qs, by rw [upd_same, List.map_append], paired_app (paired_imp (fun _ _ h => sR _ _ h) pl9) (paired_imp (fun _ _ h => sR _ _ h) pq)⟩, fun t ht => ?_, by rw [List.length_append, tlen, ul, Nat.succ_mul]⟩
        rcases List.mem_append.mp ht with ht | ht
        · exact bt t ht
        · exact bu t ht
    · rintro σ' G ⟨sg, l, ts, x3, x4, rfl, hl0, tl, bt, tlen⟩
      rw [List.length_map, List.length_range] at tlen
      exact ⟨_, rfl, q l G ts (s2.trans sg) hl0 tl bt tlen⟩
theorem c_fits (T : Bt mg) (many : mg "any" = none) (k_clash : Cal P w K mg base 1 "_law_clash" (spClash K)) (F : FnP K "_law_fits" s_fits f fd) (hm : mg "_law_fits" = some (.ref f)) : Cal P w K mg base 2 "_law_fits" spFits := by
  have hnd := sc_fits.nd
  refine cal_mk F hm sc_fits (fun _ _ _ _ _ _ us hl => match us, hl with | [_, _], _ => rfl) (fun vs H Q E h => ?_) (fun cdv A outer s H vs Q E hr h => ?_)
  · obtain ⟨l, m, xs, held, rfl, _⟩ := h
    rfl
  · obtain ⟨l, m, xs, held, rfl, tl, tm, hl9, q⟩ := h
    refine ⟨_, (pss_cons (ps_for PassesOwn.never (by rfl) (pi_list (pv 0)) (pg_name (i := 2) hnd rfl (by first | exact Or.inl rfl | exact Or.inr rfl))
      (pss_one (ps_if (pt_val (pe_callB (cr_any (by rfl)) (by rfl) many (by decide +kernel) (pa_cons (pe_lc (own := [("_law_other", 3)]) (tt := tYes) (by rfl) hnd (pi_list (pv 1)) (blkOk_by (own := [("_law_other", 3)]) (N := N_fits) (sc := defScope s_fits) (by decide +kernel)) (fun _ _ _ _ _ => (pg_name (i := 3) hnd rfl (by first | exact Or.inl rfl | exact Or.inr rfl))) (fun _ _ _ _ _ => pts_nil) (fun _ _ _ _ _ => (pe_cal k_clash hr (by omega) (by rfl) (pa_cons (pv 2) (pa_cons (pv 3) pa_nil))))) pa_nil)))
      (pss_one (ps_ret pe_bl))
      pss_nil)))
      (pss_one (ps_ret pe_bl))), ?_⟩
    obtain ⟨ls, el, pl9⟩ := tl
    obtain ⟨ms, em, pm⟩ := tm
    have ll := pf_len pl9
    have lm := pf_len pm
    refine ⟨_, rfl, l, rfl, ⟨_, SqL.of el⟩, ?_⟩
    refine for_list (xs := ls.map V.ref) (fun i σ' G => Same H G ∧ ∃ x2 x3 : Option V, σ' = [some (.ref l), some (.ref m), x2, x3] ∧ fitsB xs held = fitsB (xs.drop i) held) ⟨Same.refl _, _, _, rfl, rfl⟩ (fun i σ' G _ h => SqL.of (h.1 _ _ el)) ?_ ?_
    · rintro i x σ' G hx ⟨sg, x2, x3, rfl, hf⟩
      rw [List.getElem?_map] at hx
      obtain ⟨q1, hq1, rfl⟩ := Option.map_eq_some_iff.mp hx
      obtain ⟨t, ht, tq⟩ := pairedNth pl9 hq1
      rw [drop_at ht] at hf
      refine gname_go ⟨_, rfl, m, rfl, ⟨_, SqL.of (sg _ _ em)⟩, fun D nD => ?_⟩
      refine lc_list (xs := ms.map V.ref) (fun j G2 => Same G G2 ∧ G2 D = some (.lst (((held.take j).map (clashB t)).map V.bl))) ⟨same_new nD, upd_same⟩ (fun j G2 _ h => SqL.of (h.1 _ _ (sg _ _ em))) ?_ ?_
      · rintro j x G2 hx2 ⟨s9, e9⟩
        rw [List.getElem?_map] at hx2
        obtain ⟨r1, hr1, rfl⟩ := Option.map_eq_some_iff.mp hx2
        obtain ⟨u, hu, uq⟩ := pairedNth pm hr1
        have jl := (List.getElem?_eq_some_iff.mp hu).1
        refine gname_go ⟨rfl, ?_⟩
        unfold tYes
        dsimp only
        rw [if_pos rfl]
        refine ⟨_, rfl, _, rfl, q1, r1, t, u, rfl, SqT.of (s9 _ _ (sg _ _ tq)), SqT.of (s9 _ _ (sg _ _ uq)), fun G3 s3 => ⟨_, s3 _ _ e9, by rw [List.length_map, List.length_map, List.length_take, sizeLine_eq]; omega, same_put nD (s9.trans s3), ?_⟩⟩
        rw [take_at hu, List.map_append, List.map_append, upd_same]
        rfl
      · rintro G2 ⟨s9, e9⟩
        rw [List.length_map, lm, List.take_length] at e9
        refine ⟨D, held.map (clashB t), rfl, SqL.of e9, _, rfl, ?_⟩
        rw [any_id]
        cases c : held.any (clashB t) with
        | true =>
          refine iteT ?_
          have := q G2 (sg.trans s9)
          rw [hf, show fitsB (t :: xs.drop (i + 1)) held = false by
            unfold fitsB
            rw [List.all_cons, all_not, c]
            rfl] at this
          exact this
        | false =>
          refine iteF ⟨sg.trans s9, _, _, rfl, hf.trans ?_⟩
          unfold fitsB
          rw [List.all_cons, all_not, c]
          rfl
    · rintro σ' G ⟨sg, x2, x3, rfl, hf⟩
      rw [List.length_map, ll, List.drop_length] at hf
      have := q G sg
      rw [hf] at this
      exact this
end
end L2.K15
set_option Elab.async false
set_option linter.all false
set_option maxRecDepth 100000
set_option maxHeartbeats 8000000
namespace L2.K15
open PySem PySem.Spec PyProof.Rows L2.Tb
open SX (S)
abbrev s_begun : Stmt := top 73
abbrev N_begun : List Str := ["_law_purse_here", "_law_kind_here", "_law_size", "_law_length", "_law_k", "_law_held", "_law_rule", "_law_rules_here", "_law_square_here", "_law_kept", "_law_triple", "_law_images_here", "_law_image"]
theorem sc_begun : FnScope N_begun ["_law_purse_here", "_law_kind_here", "_law_size", "_law_length"] (defScope s_begun) := ⟨rfl, rfl, rfl, by decide +kernel, rfl, by decide +kernel, by decide +kernel⟩
/-- what is no list stays -/
def KeepL (H H' : Hp) : Prop := ∀ b o, H b = some o → (∀ ys, o ≠ .lst ys) → H' b = some o
theorem Pk.keepL {H H' : Hp} {p : Addr} (h : Pk H p) (s : SameB p H H') : KeepL H H' := fun b o e n => s _ _ (fun z => by
  obtain ⟨g, m, c, ep, _⟩ := h.ex
  rw [z, ep] at e
  exact n _ (Option.some.inj e).symm) e
theorem Pk.ne {H : Hp} {p L : Addr} (h : Pk H p) (n : H L = none) : L ≠ p := fun z => by
  obtain ⟨g, m, c, ep, _⟩ := h.ex
  rw [z, ep] at n
  cases n
theorem TrpsAt.keepP {G G' : Hp} {p l : Addr} {ts : List Trp} (h : TrpsAt G l ts) (pk : Pk G p) (n : l ≠ p) (s : SameB p G G') : TrpsAt G' l ts := by
  obtain ⟨qs, e, q⟩ := h
  exact ⟨qs, s _ _ n e, paired_imp (fun x t h => pk.keepL s _ _ h fun _ z => by cases z) q⟩
theorem TrpsAt.putL {G : Hp} {a l : Addr} {xs ys : List V} {ts : List Trp} (h : TrpsAt G l ts) (n : l ≠ a) (e : G a = some (.lst xs)) : TrpsAt (upd G a (.lst ys)) l ts := by
  obtain ⟨qs, e1, q⟩ := h
  refine ⟨qs, (upd_ne n).trans e1, paired_imp (fun x t h => (upd_ne fun z => ?_).trans h) q⟩
  have h : G x = some (.tup (tV t)) := h
  rw [z, e] at h
  cases h
theorem asg_last {te : TE} {g : TG} {D : Ends} {σ : St} {H : Hp} (h : te σ H fun v H' => g v σ H' D.nx) : tAsg te g D σ H := h
theorem sig_go {t : TS} {D : Ends} {σ σ' : St} {H : Hp} (e : σ = σ') (h : t D σ' H) : t D σ H := e ▸ h
/-- lexicographic -/
def leT (s t : Trp) : Bool := byLe (0, [(s.1 : Int), (s.2.1 : Int), (s.2.2 : Int)]) (0, [(t.1 : Int), (t.2.1 : Int), (t.2.2 : Int)])
/-- what the law draws of a beginning -/
def spBegun : Sp := fun vs H Q _ => ∃ (p kh : Addr) (z : Str) (b : Bool) (n len : Nat), vs = [.ref p, .ref kh, .int (n : Int), .int (len : Int)] ∧ Pk H p ∧ H kh = some (.tup [.str z, .bl b]) ∧ wordsD.contains z = true ∧ n ≤ 9 ∧ len ≤ 20 ∧
  ∀ (R L1 L2 : Addr) (kept T S : List Trp) (H' : Hp), SameB p H H' → Pk H' p → H L1 = none → H L2 = none → H' R = some (.tup [.ref L1, .ref L2]) → TrpsAt H' L1 kept → TrpsAt H' L2 S → S = T.mergeSort leT → Held z b n kept T → kept.length ≤ 20 → T.length ≤ n + 6 * kept.length → Q (.ref R) H'
def rlD (r : Rl) : PyData := .tuple [.int (r.1 : Nat), .int (r.2.1 : Nat), .int (r.2.2.1 : Nat), .int (r.2.2.2 : Nat)]
theorem dp_rl {K : PySem.W.Frag} {H : Hp} {q : Addr} {r : Rl} (h : SqT K H q (rlV r)) : Dp K H (.ref q) (rlD r) := .tup h (.cons (.int _) (.cons (.int _) (.cons (.int _) (.cons (.int _) .nil))))
theorem dp_rls {K : PySem.W.Frag} {H : Hp} : ∀ {qs : List Addr} {ts : List Rl}, Paired (RlAt H) qs ts → DpAll K H (qs.map V.ref) (ts.map rlD)
  | _, _, .nil => .nil
  | _, _, .cons h r => .cons (dp_rl (SqT.of h)) (dp_rls r)
theorem dp_rlL {K : PySem.W.Frag} {H : Hp} {l : Addr} {ts : List Rl} (h : RlsAt H l ts) : Dp K H (.ref l) (.list (ts.map rlD)) := by
  obtain ⟨qs, e, p⟩ := h
  exact .lst (SqL.of e) (dp_rls p)
theorem rls_lay : ∀ ts : List Rl, PyData.canLayAll0 (ts.map rlD) = true
  | [] => rfl
  | t :: ts => by
    rw [List.map_cons]
    simp only [PyData.canLayAll0, rlD, PyData.canLay0, Bool.and_eq_true]
    exact ⟨by simp [PyData.canLayAll0, PyData.canLay0], rls_lay ts⟩
theorem rls_depth : ∀ ts : List Rl, PyData.depthAll (ts.map rlD) ≤ 1
  | [] => by simp [PyData.depthAll]
  | t :: ts => by
    have h := rls_depth ts
    have h2 : (rlD t).depth = 1 := by simp [rlD, PyData.depth, PyData.depthAll]
    simp only [List.map_cons, PyData.depthAll]
    omega
theorem shaped_rls (ts : List Rl) : SeqAt.shaped (.list (ts.map rlD)) = true := by
  show (PyData.canLay0 (.list (ts.map rlD)) && decide (PyData.depth (.list (ts.map rlD)) ≤ 64)) = true
  rw [Bool.and_eq_true]
  exact ⟨by simp only [PyData.canLay0]; exact rls_lay ts, decide_eq_true (by have := rls_depth ts; simp only [PyData.depth]; omega)⟩
theorem eqv_rls_nil {ts : List Rl} : PyData.eqv (.list (ts.map rlD)) (.list []) = decide (ts = []) := by
  cases ts with
  | nil => rw [decide_eq_true rfl]; simp [PyData.eqv, PyData.eqvAll]
  | cons t ts => rw [decide_eq_false (by simp)]; simp [PyData.eqv, PyData.eqvAll]
theorem eqv_trps_nil {ts : List Trp} : PyData.eqv (.list (ts.map trpD)) (.list []) = decide (ts = []) := by
  cases ts with
  | nil => rw [decide_eq_true rfl]; simp [PyData.eqv, PyData.eqvAll]
  | cons t ts => rw [decide_eq_false (by simp)]; simp [PyData.eqv, PyData.eqvAll]
/-- a for over range(e), e a number below 2 ^ 60 -/
theorem for1_nat {te : TE} {g : TG} {tb u : TS} {D : Ends} {σ : St} {H : Hp} (Pm : Nat → Hp → Prop) (h : ∀ Q : VK, (∀ (m : Nat) (G : Hp), Pm m G → Q (.int (m : Int)) G) → te σ H Q) (b : ∀ m G, Pm m G → m < 2 ^ 60) (Pv : Nat → Nat → St → Hp → Prop) (h0 : ∀ m G, Pm m G → Pv m 0 σ G)
    (hs : ∀ (m i : Nat) (σ' : St) (G : Hp), i < m → Pv m i σ' G → g (.int ((0 : Int) + i)) σ' G fun σ2 H2 => tb { D with nx := Pv m (i + 1), ct := Pv m (i + 1), bk := u D } σ2 H2) (hd : ∀ m σ' G, Pv m m σ' G → u D σ' G) : tSeq (tFor (iRng1 (tCons te tNil)) g tb) u D σ H :=
  h _ fun m G p => ⟨(m : Int), rfl, by omega, by have := b m G p; omega, for_range (n := ((m : Int)).toNat) (Pv m) (h0 m G p) (fun i σ' G' hi q => hs m i σ' G' hi q) fun σ' G' q => hd m σ' G' q⟩
theorem asg_all {te : TE} {g : TG} {u : TS} {D : Ends} {σ : St} {H : Hp} (Pv : V → Hp → Prop) (h : ∀ Q : VK, (∀ v G, Pv v G → Q v G) → te σ H Q) (hk : ∀ v G, Pv v G → g v σ G (u D)) : tSeq (tAsg te g) u D σ H := h _ hk
/-- the pairs of a list of triples, sorted -/
def zipI (zs : List (Addr × Trp)) : List (Addr × List Int) := zs.map fun z => (z.1, [(z.2.1 : Int), (z.2.2.1 : Int), (z.2.2.2 : Int)])
theorem zipI_sort (zs : List (Addr × Trp)) : ((zipI zs).mergeSort byLe).map (fun q => V.ref q.1) = (zs.mergeSort fun a b => leT a.2 b.2).map fun z => V.ref z.1 := by
  unfold zipI
  rw [← List.map_mergeSort (r := fun a b => leT a.2 b.2) (fun a _ b _ => rfl), List.map_map]
  rfl
theorem zip_sort {qs : List Addr} {T : List Trp} (h : qs.length = T.length) : ((qs.zip T).mergeSort fun a b => leT a.2 b.2).map (·.2) = T.mergeSort leT := by
  rw [List.map_mergeSort (s := leT) (fun a _ b _ => rfl)]
  congr 1
  exact List.map_snd_zip (by omega)
theorem newT_len {t : Trp} {z : Str} (h : (lotOf z).length ≤ 6) {T : List Trp} : (newT T (imgs z t)).length ≤ 6 := by
  unfold newT
  refine Nat.le_trans (List.length_filter_le ..) ?_
  have := imgs_len (t := t) (lotOf z) []
  rw [show dd (imgs z t) = imgsL t (lotOf z) from imgsL_dd.symm]
  unfold imgsL
  simp only [List.length_nil] at this
  omega
/-- what the law holds while it draws -/
structure BgI (p kh L8 L9 : Addr) (H : Hp) (z : Str) (b : Bool) (n : Nat) (sq : List Trp) (i : Nat) (Lh : Addr) (kept T : List Trp) (G : Hp) : Prop where
  s : SameB p H G
  pk : Pk G p
  k9 : TrpsAt G L9 kept
  th : TrpsAt G Lh T
  s8 : TrpsAt G L8 sq
  hd : Held z b n kept T
  kl : kept.length ≤ i
  tl : T.length ≤ n + 6 * kept.length
  ek : G kh = some (.tup [.str z, .bl b])
  h9 : Lh ≠ L9
  hp : Lh ≠ p
theorem TrpsAt.sameB {G G' : Hp} {p l : Addr} {ts : List Trp} (h : TrpsAt G l ts) (pk : Pk G p) (n : l ≠ p) (s : SameB p G G') : TrpsAt G' l ts := h.keepP pk n s
section
variable {P : Program} {w : World} {K : PySem.W.Frag} {mg : Str → Option Value} {base : Heap} {f : Addr} {fd : FuncData}
theorem c_begun (T : Bt mg) (k_pick : Cal P w K mg base 1 "_law_pick" spPick) (k_rules : Cal P w K mg base 1 "_law_rules" spRules) (k_square : Cal P w K mg base 2 "_law_square" (spSquare K)) (k_limages : Cal P w K mg base 2 "_law_images" (spLimages K)) (k_fits : Cal P w K mg base 2 "_law_fits" spFits)
    (F : FnP K "_law_begun" s_begun f fd) (hm : mg "_law_begun" = some (.ref f)) : Cal P w K mg base 3 "_law_begun" spBegun := by
  have hnd := sc_begun.nd
  refine cal_mk F hm sc_begun (fun _ _ _ _ _ _ us hl => match us, hl with | [_, _, _, _], _ => rfl) (fun vs H Q E h => ?_) (fun cdv A outer s H vs Q E hr h => ?_)
  · obtain ⟨p, kh, z, b, n, len, rfl, _⟩ := h
    rfl
  · obtain ⟨p, kh, z, b, n, len, rfl, hp, ekh, hz, hn, hlen, q⟩ := h
    have hu65 : (A.deeper (envOfC "_law_begun" (defScope s_begun) s.heap.objs.size f cdv)).units + 65 < cLine := by
      have := hr.un
      omega
    have zm : z ∈ wordsD := List.contains_iff_mem.mp hz
    have lot6 := lots_len6 z zm
    refine ⟨_, (pss_cons (ps_set (i := 5) hnd rfl (by first | exact Or.inl rfl | exact Or.inr rfl) (pe_ifExp (pt_val (pe_ix (show IxR _ (rIxT K) from ix_tup) (pv 1) pe_int (fun _ _ => rfl))) (pe_lc (own := [("_law_k", 4)]) (tt := tYes) (by rfl) hnd (pi_range1 (by rfl) T.m_range (pa_cons (pv 2) pa_nil)) (blkOk_by (own := [("_law_k", 4)]) (N := N_begun) (sc := defScope s_begun) (by decide +kernel)) (fun _ _ _ _ _ => (pg_name (i := 4) hnd rfl (by first | exact Or.inl rfl | exact Or.inr rfl))) (fun _ _ _ _ _ => pts_nil) (fun _ _ _ _ _ => (pe_tup (pa_cons (pv 4) (pa_cons (pv 4) (pa_cons (pv 4) pa_nil)))))) (pe_lst pa_nil)))
      (pss_cons (ps_setLc (i := 7) (own := [("_law_rule", 6)]) (by rfl) hnd rfl (by rfl) (sw_true rfl rfl rfl (by decide +kernel)) (pi_list (pe_cal k_rules hr (by omega) (by rfl) (pa_cons (pv 1) pa_nil))) (blkOk_by (own := [("_law_rule", 6)]) (N := N_begun) (sc := defScope s_begun) (by decide +kernel)) (fun _ _ _ _ _ => (pg_name (i := 6) hnd rfl (by first | exact Or.inl rfl | exact Or.inr rfl))) (fun _ _ _ _ _ => (pts_one (pt_cmpR op_le (pe_ix (show IxR _ (rIxT K) from ix_tup) (pv 6) pe_int (fun _ _ => rfl)) (pv 2) (nomark _)))) (fun _ _ _ _ _ => (pv 6)))
      (pss_cons (ps_set (i := 8) hnd rfl (by first | exact Or.inl rfl | exact Or.inr rfl) (pe_ifExp (PW.pt (pw_and (pt_cmpR (show OpR _ (compareOp .NotEq) (rNeD K) from op_neD hr.units) (pv 7) (pe_lst pa_nil) (nomark _)) (pw_and1 (pt_cmpR op_eq (pe_cal k_pick hr (by omega) (by rfl) (pa_cons (pv 0) (pa_cons pe_int pa_nil))) pe_int (nomark _))))) (pe_cal k_square hr (by omega) (by rfl) (pa_cons (pe_ix (show IxR _ (rIxL K) from ix_list) (pv 7) (pe_cal k_pick hr (by omega) (by rfl) (pa_cons (pv 0) (pa_cons (pe_callB call_len_seq (by rfl) T.m_len (by decide +kernel) (pa_cons (pv 7) pa_nil)) pa_nil))) (fun _ _ => rfl)) pa_nil)) (pe_lst pa_nil)))
      (pss_cons (ps_set (i := 9) hnd rfl (by first | exact Or.inl rfl | exact Or.inr rfl) (pe_lst pa_nil))
      (pss_cons (ps_for PassesOwn.never (by rfl) (pi_range1 (by rfl) T.m_range (pa_cons (pe_ifExp (pt_cmpR op_gt (pv 2) pe_int (nomark _)) (pv 3) pe_int) pa_nil)) (pg_name (i := 4) hnd rfl (by first | exact Or.inl rfl | exact Or.inr rfl))
      (pss_cons (ps_set (i := 10) hnd rfl (by first | exact Or.inl rfl | exact Or.inr rfl) (pe_tup (pa_cons (pe_cal k_pick hr (by omega) (by rfl) (pa_cons (pv 0) (pa_cons (pv 2) pa_nil))) (pa_cons (pe_cal k_pick hr (by omega) (by rfl) (pa_cons (pv 0) (pa_cons (pv 2) pa_nil))) (pa_cons (pe_cal k_pick hr (by omega) (by rfl) (pa_cons (pv 0) (pa_cons (pv 2) pa_nil))) pa_nil)))))
      (pss_cons (ps_if (pt_cmpR (show OpR _ (compareOp .NotEq) (rNeD K) from op_neD hr.units) (pv 8) (pe_lst pa_nil) (nomark _))
      (pss_one (ps_set (i := 10) hnd rfl (by first | exact Or.inl rfl | exact Or.inr rfl) (pe_ix (show IxR _ (rIxL K) from ix_list) (pv 8) (pe_cal k_pick hr (by omega) (by rfl) (pa_cons (pv 0) (pa_cons (pe_callB call_len_seq (by rfl) T.m_len (by decide +kernel) (pa_cons (pv 8) pa_nil)) pa_nil))) (fun _ _ => rfl))))
      pss_nil)
      (pss_cons (ps_set (i := 11) hnd rfl (by first | exact Or.inl rfl | exact Or.inr rfl) (pe_cal k_limages hr (by omega) (by rfl) (pa_cons (pe_ix (show IxR _ (rIxT K) from ix_tup) (pv 1) pe_int (fun _ _ => rfl)) (pa_cons (pv 10) pa_nil))))
      (pss_one (ps_if (pt_val (pe_cal k_fits hr (by omega) (by rfl) (pa_cons (pv 11) (pa_cons (pv 5) pa_nil))))
      (pss_cons (ps_expr (pe_bm PySem.F.plainAttrs_list PySem.F.slot_list_append PySem.F.type_list_append mt_append (pv 9) (pa_cons (pv 10) pa_nil)))
      (pss_one (ps_set (i := 5) hnd rfl (by first | exact Or.inl rfl | exact Or.inr rfl) (pe_op op_cat (pv 5) (pe_lc (own := [("_law_image", 12)]) (by rfl) hnd (pi_list (pv 11)) (blkOk_by (own := [("_law_image", 12)]) (N := N_begun) (sc := defScope s_begun) (by decide +kernel)) (fun _ _ _ _ _ => (pg_name (i := 12) hnd rfl (by first | exact Or.inl rfl | exact Or.inr rfl))) (fun _ _ _ _ _ => (pts_one (pt_cmpR (show OpR _ (compareOp .NotIn) (rNotInD K) from op_notInD hu65) (pv 12) (pv 5) (by rfl)))) (fun _ _ _ _ _ => (pv 12)))))))
      pss_nil))))))
      (pss_one (ps_ret (pe_tup (pa_cons (pv 9) (pa_cons (pe_callB (show CallR _ (.builtin "sorted") (rSortR K) from cr_sortR (Nat.lt_of_le_of_lt (Nat.add_le_add_left (by decide) _) hr.units)) (by rfl) T.m_sorted (by decide +kernel) (pa_cons (pv 5) pa_nil)) pa_nil)))))))))), ?_⟩
    refine asg_cut (fun v G => ∃ L5, v = .ref L5 ∧ Same H G ∧ TrpsAt G L5 (diagL b n) ∧ H L5 = none) ?_ fun hQ => ?_
    rotate_left
    · refine ⟨_, rfl, kh, _, _, .bl b, rfl, rfl, SqT.of ekh, atI_nat (j := 1) rfl, _, rfl, ?_⟩
      cases hb : b with
      | false =>
        refine iteF ⟨Nat.le_of_ble_eq_true rfl, fun L5 n5 => ?_⟩
        exact hQ _ _ ⟨L5, rfl, same_new n5, ⟨[], upd_same, by rw [hb]; exact .nil⟩, n5⟩
      | true =>
        refine iteT ⟨_, rfl, (n : Int), rfl, by omega, by omega, fun D nD => ?_⟩
        rw [show ((n : Int)).toNat = n from rfl]
        refine lc_range (n := n) (fun j G => Same H G ∧ ∃ ps, G D = some (.lst (ps.map V.ref)) ∧ Paired (TrpAt G) ps (diagL true j)) ⟨same_new nD, [], upd_same, .nil⟩ ?_ ?_
        · rintro j G hj ⟨sg, ps, eD, pp⟩
          rw [Int.zero_add]
          refine gname_go ⟨rfl, ?_⟩
          unfold tYes
          dsimp only
          rw [if_pos rfl]
          refine ⟨_, rfl, _, rfl, _, rfl, Nat.le_of_ble_eq_true rfl, fun R nR => ?_⟩
          have sR := same_new (o := .tup [.int (j : Int), .int (j : Int), .int (j : Int)]) nR
          have ql := pf_len pp
          have dl := @diag_len true j
          have nR8 : ∀ {x : Addr} {w9 : List V}, (upd G R (.tup [.int (j : Int), .int (j : Int), .int (j : Int)])) x = some (.tup w9) → x ≠ D := fun {x w9} e z => by
            rw [z, sR _ _ eD] at e
            cases e
          refine ⟨_, sR _ _ eD, by rw [List.length_map, sizeLine_eq]; omega, same_put nD (sg.trans sR), ps ++ [R], by rw [upd_same, List.map_append]; rfl, ?_⟩
          rw [diag_succ]
          exact paired_app (paired_imp (fun x t h => (upd_ne (nR8 (sR _ _ h))).trans (sR _ _ h)) pp) (.cons ((upd_ne (nR8 upd_same)).trans upd_same) .nil)
        · rintro G ⟨sg, ps, eD, pp⟩
          exact hQ _ _ ⟨D, rfl, sg, ⟨ps, eD, by rw [hb]; exact pp⟩, nD⟩
    rintro _ G1 ⟨L5, rfl, s1, t5, n5⟩
    refine gname_go ?_
    try dsimp only
    have pk1 := hp.same s1
    refine ⟨_, rfl, kh, z, b, rfl, s1 _ _ ekh, hz, fun lr G2 rs s2 rl rok rlen => ⟨lr, rfl, ?_⟩⟩
    obtain ⟨as, er, pr⟩ := rl
    have rl9 := pf_len pr
    refine ⟨⟨_, SqL.of er⟩, fun D nD => ?_⟩
    refine lc_list (xs := as.map V.ref) (fun j G => Same G2 G ∧ ∃ us rs', G D = some (.lst (us.map V.ref)) ∧ Paired (RlAt G) us rs' ∧ (∀ r ∈ rs', RlOk r ∧ r.1 ≤ n) ∧ rs'.length ≤ j) ⟨same_new nD, [], [], upd_same, .nil, (fun _ h => by cases h), Nat.le_refl _⟩ (fun j G _ h => SqL.of (h.1 _ _ er)) ?_ ?_
    · rintro j x G hx ⟨sg, us, rs', eD, pu, bu, lu⟩
      rw [List.getElem?_map] at hx
      obtain ⟨ra, hra, rfl⟩ := Option.map_eq_some_iff.mp hx
      obtain ⟨r, hr9, er9⟩ := pairedNth pr hra
      have jl := (List.getElem?_eq_some_iff.mp hra).1
      refine gname_go ⟨rfl, _, rfl, ra, _, _, _, rfl, rfl, SqT.of (sg _ _ er9), atI_nat (j := 0) rfl, _, rfl, _, _, rfl, rfl, _, rfl, ?_⟩
      by_cases c : ((r.1 : Nat) : Int) ≤ n
      · have ul := pf_len pu
        refine iteT2 (decide_eq_true c) ⟨_, rfl, _, eD, by rw [List.length_map, sizeLine_eq]; omega, same_put nD sg, us ++ [ra], rs' ++ [r], by rw [upd_same, List.map_append]; rfl, ?_, fun r0 h0 => ?_, by rw [List.length_append, List.length_singleton]; omega⟩
        · have nD8 : ∀ {x : Addr} {w9 : List V}, G x = some (.tup w9) → x ≠ D := fun {x w9} e z => by
            rw [z, eD] at e
            cases e
          exact paired_app (paired_imp (fun x t h => (upd_ne (nD8 h)).trans h) pu) (.cons ((upd_ne (nD8 (sg _ _ er9))).trans (sg _ _ er9)) .nil)
        · rcases List.mem_append.mp h0 with h0 | h0
          · exact bu r0 h0
          · rw [List.mem_singleton.mp h0]
            exact ⟨rok r (List.mem_of_getElem? hr9), by omega⟩
      · exact iteN2 (decide_eq_false c) ⟨sg, us, rs', eD, pu, bu, by omega⟩
    rintro G3 ⟨s3, us, rs', e7, p7, b7, l7⟩
    refine gname_go ?_
    try dsimp only
    have s13 := s2.trans s3
    have t53 := t5.same s13
    have pk3 := pk1.same s13
    have ekh3 := s13 _ _ (s1 _ _ ekh)
    have ul := pf_len p7
    rw [List.length_map] at l7
    have Dp9 : D ≠ p := (pk1.same s2).ne nD
    refine sig_go (σ' := [some (.ref p), some (.ref kh), some (.int (n : Int)), some (.int (len : Int)), none, some (.ref L5), none, some (.ref D), none, none, none, none, none]) rfl ?_
    refine asg_cut (fun v G => ∃ L8 sq, v = .ref L8 ∧ SameB p G3 G ∧ Pk G p ∧ TrpsAt G L8 sq ∧ (∀ t ∈ sq, Bd n t) ∧ sq.length ≤ 81 ∧ L8 ≠ p) ?_ fun hQ => ?_
    rotate_left
    · refine ⟨_, rfl, Nat.le_of_ble_eq_true rfl, fun E1 nE1 => ?_⟩
      have sE := same_new (o := .lst []) nE1
      refine ⟨_, _, dp_rlL ⟨us, sE _ _ e7, paired_imp (fun _ _ h => sE _ _ h) p7⟩, .lst (SqL.of upd_same) .nil, shaped_rls _, shaped_trps [], ?_⟩
      rw [eqv_rls_nil]
      refine ⟨_, rfl, ?_⟩
      by_cases c : rs' = []
      · refine iteN2 (by rw [decide_eq_true c]; rfl) (iteF ⟨Nat.le_of_ble_eq_true rfl, fun L8 n8 => ?_⟩)
        exact hQ _ _ ⟨L8, [], rfl, SameB.of (sE.trans (same_new n8)), (pk3.same sE).same (same_new n8), ⟨[], upd_same, .nil⟩, (fun _ h => by cases h), by decide, (pk3.same sE).ne n8⟩
      · refine iteT2 (by rw [decide_eq_false c]; rfl) ⟨_, rfl, p, 2, rfl, pk3.same sE, by decide, by decide, fun d G4 hd b4 pk4 => ⟨rfl, _, rfl, ?_⟩⟩
        have b34 : SameB p G3 G4 := fun x o nx e => b4 _ _ nx (sE _ _ e)
        by_cases c0 : d = 0
        · have e74 := b34 _ _ Dp9 e7
          have us0 : 0 < (us.map V.ref).length := by
            rw [List.length_map, ul]
            cases rs' with
            | nil => exact absurd rfl c
            | cons => exact Nat.succ_pos _
          refine iteT2 (decide_eq_true (by rw [c0]; rfl)) ⟨_, rfl, _, rfl, _, rfl, D, _, rfl, .inl (SqL.of e74), p, (us.map V.ref).length, rfl, pk4, us0, ?_, fun d5 G5 hd5 b5 pk5 => ?_⟩
          · rw [List.length_map]
            omega
          · have d5l : d5 < us.length := by rwa [List.length_map] at hd5
            obtain ⟨r5, hr5, er5⟩ := pairedNth p7 (List.getElem?_eq_getElem d5l)
            obtain ⟨o5, m5⟩ := b7 r5 (List.mem_of_getElem? hr5)
            have kl35 : KeepL G3 G5 := fun x o e ho => (pk4.keepL b5) _ _ ((pk3.same sE).keepL b4 _ _ (sE _ _ e) ho) ho
            have b35 : SameB p G3 G5 := b34.trans b5
            refine ⟨D, _, _, .ref (us[d5]), rfl, rfl, SqL.of (b35 _ _ Dp9 e7), atI_nat (by rw [List.getElem?_map, List.getElem?_eq_getElem d5l]; rfl), us[d5], r5, rfl, SqT.of (kl35 _ _ er5 fun _ z => by cases z), o5, fun L8 G6 ts s6 n86 t8 bts tlen => ?_⟩
            refine hQ _ _ ⟨L8, ts, rfl, b35.trans (SameB.of s6), pk5.same s6, t8, fun t ht => (bts t ht).up m5, ?_, pk5.ne n86⟩
            rw [tlen]
            exact Nat.mul_le_mul o5.m9 o5.m9
        · refine iteN2 (decide_eq_false fun e => c0 (by injection e with e; omega)) ⟨Nat.le_of_ble_eq_true rfl, fun L8 n8 => ?_⟩
          refine hQ _ _ ⟨L8, [], rfl, b34.trans (SameB.of (same_new n8)), pk4.same (same_new n8), ⟨[], upd_same, .nil⟩, (fun _ h => by cases h), by decide, pk4.ne n8⟩
    rintro _ G6 ⟨L8, sq, rfl, b36, pk6, t8, bsq, lsq, n8⟩
    refine gname_go ?_
    try dsimp only
    refine ⟨Nat.le_of_ble_eq_true rfl, fun L9 n9 => gname_go ?_⟩
    try dsimp only
    have s9 := same_new (o := .lst []) n9
    have e9 := upd_same (H := G6) (a := L9) (o := .lst [])
    have n5p : L5 ≠ p := hp.ne n5
    have n9p : L9 ≠ p := pk6.ne n9
    have n59 : L5 ≠ L9 := fun z => by
      obtain ⟨qs5, e5, _⟩ := t53
      have := s9 _ _ (b36 _ _ n5p e5)
      rw [z] at e5
      have := b36 _ _ (z ▸ n5p) e5
      rw [n9] at this
      cases this
    have n89 : L8 ≠ L9 := fun z => by
      obtain ⟨qs8, e8, _⟩ := t8
      rw [z, n9] at e8
      cases e8
    have n9H : H L9 = none := by
      cases c : H L9 with
      | none => rfl
      | some o =>
        have := b36 _ _ n9p (s13 _ _ (s1 _ _ c))
        rw [n9] at this
        cases this
    have kl6 := pk3.keepL b36
    have I0 : BgI p kh L8 L9 H z b n sq 0 L5 [] (diagL b n) (upd G6 L9 (.lst [])) := ⟨fun x o nx e => s9 _ _ (b36 _ _ nx (s13 _ _ (s1 _ _ e))), pk6.same s9, ⟨[], e9, .nil⟩, (t53.keepP pk3 n5p b36).same s9, t8.same s9, Held.start, Nat.le_refl _, by have := @diag_len b n; omega, s9 _ _ (kl6 _ _ ekh3 fun _ z => by cases z), n59, n5p⟩
    generalize upd G6 L9 (.lst []) = G7 at I0 ⊢
    clear e9 s9 b36 kl6 t53 pk3 ekh3 e7 p7 b7 pk6 t8
    refine for1_nat (fun m G => G = G7 ∧ m ≤ 20 ∧ (0 < m → 0 < n)) (fun Q hQ => ?_) (fun m G h => by omega) (fun m i σ' G => ∃ (Lh : Addr) (kept T : List Trp) (x4 x6 x10 x11 x12 : Option V), σ' = [some (.ref p), some (.ref kh), some (.int (n : Int)), some (.int (len : Int)), x4, some (.ref Lh), x6, some (.ref D), some (.ref L8), some (.ref L9), x10, x11, x12] ∧ m ≤ 20 ∧ (0 < m → 0 < n) ∧ BgI p kh L8 L9 H z b n sq i Lh kept T G) (fun m G h => ?_) ?_ ?_
    · refine ⟨_, rfl, _, _, rfl, rfl, _, rfl, ?_⟩
      by_cases c : (n : Int) > 0
      · exact iteT2 (decide_eq_true c) ⟨_, rfl, hQ _ _ ⟨rfl, hlen, fun _ => by omega⟩⟩
      · exact iteN2 (decide_eq_false c) (hQ 0 _ ⟨rfl, by omega, fun h => by omega⟩)
    · obtain ⟨rfl, m9, m0⟩ := h
      exact ⟨L5, [], diagL b n, _, _, _, _, _, rfl, m9, m0, I0⟩
    · rintro m i σ' G im ⟨Lh, kept, T1, x4, x6, x10, x11, x12, rfl, m9, m0, I⟩
      have n0 : 0 < n := m0 (by omega)
      have n200 : n < 2 ^ 200 := Nat.lt_of_le_of_lt hn (by decide)
      rw [Int.zero_add]
      refine gname_go ?_
      try dsimp only
      refine asg_all (fun v G1 => ∃ q t, v = .ref q ∧ SameB p G G1 ∧ Pk G1 p ∧ TrpAt G1 q t ∧ Bd n t) (fun Q hQ => ?_) ?_
      · refine ⟨_, rfl, _, rfl, p, n, rfl, I.pk, n0, n200, fun d1 G1 hd1 b1 pk1 => ⟨_, rfl, _, rfl, p, n, rfl, pk1, n0, n200, fun d2 G2 hd2 b2 pk2 => ⟨_, rfl, _, rfl, p, n, rfl, pk2, n0, n200, fun d3 G3 hd3 b3 pk3 => ⟨Nat.le_of_ble_eq_true rfl, fun R nR => ?_⟩⟩⟩⟩
        have sR := same_new (o := .tup [.int (d1 : Int), .int (d2 : Int), .int (d3 : Int)]) nR
        exact hQ _ _ ⟨R, (d1, d2, d3), rfl, (b1.trans (b2.trans b3)).trans (SameB.of sR), pk3.same sR, upd_same, hd1, hd2, hd3⟩
      rintro _ G1 ⟨q1, t1, rfl, b1, pk1, eq1, bt1⟩
      refine gname_go ?_
      try dsimp only
      have n8p : L8 ≠ p := n8
      refine seqx (fun σ2 G2 => ∃ q t, σ2 = [some (.ref p), some (.ref kh), some (.int (n : Int)), some (.int (len : Int)), some (.int (i : Int)), some (.ref Lh), x6, some (.ref D), some (.ref L8), some (.ref L9), some (.ref q), x11, x12] ∧ SameB p G G2 ∧ Pk G2 p ∧ TrpAt G2 q t ∧ Bd n t) ?_ fun hQ => ?_
      rotate_left
      · refine ⟨_, rfl, Nat.le_of_ble_eq_true rfl, fun E1 nE1 => ?_⟩
        have sE := same_new (o := .lst []) nE1
        have t8e : TrpsAt (upd G1 E1 (.lst [])) L8 sq := (I.s8.keepP I.pk n8p b1).same sE
        refine ⟨_, _, dp_trpL t8e, .lst (SqL.of upd_same) .nil, shaped_trps _, shaped_trps [], ?_⟩
        rw [eqv_trps_nil]
        refine ⟨_, rfl, ?_⟩
        have b1e : SameB p G (upd G1 E1 (.lst [])) := b1.trans (SameB.of sE)
        have pk1e := pk1.same sE
        have eq1e : TrpAt (upd G1 E1 (.lst [])) q1 t1 := sE _ _ eq1
        generalize upd G1 E1 (.lst []) = G2 at t8e b1e pk1e eq1e ⊢
        by_cases c : sq = []
        · refine iteN2 (by rw [decide_eq_true c]; rfl) ?_
          exact hQ _ _ ⟨q1, t1, rfl, b1e, pk1e, eq1e, bt1⟩
        · obtain ⟨qs8, e8, p8⟩ := t8e
          have l8 := pf_len p8
          have sq0 : 0 < (qs8.map V.ref).length := by
            rw [List.length_map, l8]
            cases sq with
            | nil => exact absurd rfl c
            | cons => exact Nat.succ_pos _
          refine iteT2 (by rw [decide_eq_false c]; rfl) ?_
          refine asg_last ⟨_, rfl, _, rfl, _, rfl, L8, _, rfl, .inl (SqL.of e8), p, (qs8.map V.ref).length, rfl, pk1e, sq0, ?_, fun d G3 hd3 b3 pk3 => ?_⟩
          · exact Nat.lt_of_le_of_lt (by rw [List.length_map, l8]; exact lsq) (by decide : (81 : Nat) < 2 ^ 200)
          · have dl : d < qs8.length := by rwa [List.length_map] at hd3
            obtain ⟨t9, ht9, et9⟩ := pairedNth p8 (List.getElem?_eq_getElem dl)
            refine ⟨L8, _, _, .ref (qs8[d]), rfl, rfl, SqL.of (b3 _ _ n8p e8), atI_nat (by rw [List.getElem?_map, List.getElem?_eq_getElem dl]; rfl), gname_go ?_⟩
            exact hQ _ _ ⟨qs8[d], t9, rfl, b1e.trans b3, pk3, pk1e.keepL b3 _ _ et9 (fun _ z => by cases z), bsq t9 (List.mem_of_getElem? ht9)⟩
      rintro _ G2 ⟨q2, t2, rfl, b2, pk2, eq2, bt2⟩
      have ekh2 := I.pk.keepL b2 _ _ I.ek (fun _ z => by cases z)
      refine ⟨_, rfl, kh, _, _, .str z, rfl, rfl, SqT.of ekh2, atI_nat (j := 0) rfl, _, rfl, z, q2, t2, rfl, hz, SqT.of eq2, fun l G3 s3 nl tl3 => gname_go ?_⟩
      try dsimp only
      have b3 := b2.trans (SameB.of s3)
      have pk3 := pk2.same s3
      have th3 := (I.th.keepP I.pk I.hp b2).same s3
      have k93 := (I.k9.keepP I.pk n9p b2).same s3
      have s83 := (I.s8.keepP I.pk n8p b2).same s3
      have kep := I.kl
      have tle := I.tl
      refine ⟨_, rfl, _, rfl, l, Lh, imgsL t2 (lotOf z), T1, rfl, tl3, th3, by omega, fun G4 s4 => ⟨_, rfl, ?_⟩⟩
      have ek4 := s4 _ _ (s3 _ _ ekh2)
      cases hf : fitsB (imgsL t2 (lotOf z)) T1 with
      | false =>
        refine iteF ⟨Lh, kept, T1, _, _, _, _, _, rfl, m9, m0, ⟨(I.s.trans b3).trans (SameB.of s4), pk3.same s4, k93.same s4, th3.same s4, s83.same s4, I.hd, by omega, tle, ek4, I.h9, I.hp⟩⟩
      | true =>
        have hd5 := I.hd.step zm (by omega : n ≤ 600) bt2 hf
        obtain ⟨ks9, e94, p94⟩ := k93.same s4
        have lk9 := pf_len p94
        refine iteT ⟨_, rfl, .inl ⟨rfl, _, SqL.of e94⟩, _, rfl, L9, _, _, rfl, rfl, e94, by rw [List.length_map, sizeLine_eq]; omega, ?_⟩
        have t9n : ∀ {x : Addr} {w9 : List V}, G4 x = some (.tup w9) → x ≠ L9 := fun {x w9} e z => by
          rw [z, e94] at e
          cases e
        have u4 : ∀ x o, x ≠ L9 → G4 x = some o → (upd G4 L9 (.lst (ks9.map V.ref ++ [.ref q2]))) x = some o := fun x o nx e => (upd_ne nx).trans e
        have eq4 : TrpAt G4 q2 t2 := s4 _ _ (s3 _ _ eq2)
        have k95 : TrpsAt (upd G4 L9 (.lst (ks9.map V.ref ++ [.ref q2]))) L9 (kept ++ [t2]) := ⟨ks9 ++ [q2], by rw [upd_same, List.map_append]; rfl, paired_app (paired_imp (fun x t h => u4 _ _ (t9n h) h) p94) (.cons (u4 _ _ (t9n eq4) eq4) .nil)⟩
        have th5 : TrpsAt (upd G4 L9 (.lst (ks9.map V.ref ++ [.ref q2]))) Lh T1 := (th3.same s4).putL I.h9 e94
        have s85 : TrpsAt (upd G4 L9 (.lst (ks9.map V.ref ++ [.ref q2]))) L8 sq := (s83.same s4).putL n89 e94
        have nl9 : l ≠ L9 := fun z => by
          obtain ⟨qs9, e9, _⟩ := k93
          obtain ⟨qs0, e0, _⟩ := I.k9.keepP I.pk n9p b2
          rw [← z, nl] at e0
          cases e0
        have tl5 : TrpsAt (upd G4 L9 (.lst (ks9.map V.ref ++ [.ref q2]))) l (imgsL t2 (lotOf z)) := (tl3.same s4).putL nl9 e94
        have ek5 := u4 _ _ (t9n ek4) ek4
        have pk5 : Pk (upd G4 L9 (.lst (ks9.map V.ref ++ [.ref q2]))) p := by
          obtain ⟨g, mm, c, ep, r⟩ := (pk3.same s4).ex
          exact ⟨g, mm, c, u4 _ _ (fun z => n9p z.symm) ep, r⟩
        have b5 : SameB p H (upd G4 L9 (.lst (ks9.map V.ref ++ [.ref q2]))) := fun x o nx e => u4 _ _ (fun z => by rw [z, n9H] at e; cases e) (s4 _ _ (b3 _ _ nx (I.s _ _ nx e)))
        generalize upd G4 L9 (.lst (ks9.map V.ref ++ [.ref q2])) = G5 at k95 th5 s85 tl5 ek5 pk5 b5 ⊢
        clear u4 t9n e94 p94 k93 s83 tl3 th3
        try dsimp only [tNext]
        obtain ⟨ts5, e5, p5⟩ := tl5
        have l5 := pf_len p5
        have il6 := imgs_len (t := t2) (lotOf z) []
        have il : (imgsL t2 (lotOf z)).length ≤ 6 := by
          unfold imgsL
          simp only [List.length_nil] at il6
          omega
        refine asg_last ⟨_, rfl, _, rfl, l, rfl, ⟨_, SqL.of e5⟩, fun D6 nD6 => ?_⟩
        refine lc_list (xs := ts5.map V.ref) (fun j G6 => Same G5 G6 ∧ ∃ qs, G6 D6 = some (.lst (qs.map V.ref)) ∧ Paired (TrpAt G6) qs (((imgsL t2 (lotOf z)).take j).filter fun x => decide (x ∉ T1))) ⟨same_new nD6, [], upd_same, .nil⟩ (fun j G6 _ h => SqL.of (h.1 _ _ e5)) ?_ ?_
        · rintro j x G6 hx ⟨sg, qs, eD, pq⟩
          rw [List.getElem?_map] at hx
          obtain ⟨r1, hr1, rfl⟩ := Option.map_eq_some_iff.mp hx
          obtain ⟨u, hu, uq⟩ := pairedNth p5 hr1
          refine gname_go ⟨rfl, _, rfl, _, rfl, _, _, dp_trp (SqT.of (sg _ _ uq)), dp_trpL (th5.same sg), rfl, ?_, ?_⟩
          · exact shaped_trps _
          rw [any_trp]
          refine ⟨_, rfl, ?_⟩
          have ql := pf_len pq
          have fl : (((imgsL t2 (lotOf z)).take j).filter fun x => decide (x ∉ T1)).length ≤ 6 := Nat.le_trans (List.length_filter_le ..) (by rw [List.length_take]; omega)
          have fs : ((imgsL t2 (lotOf z)).take (j + 1)).filter (fun x => decide (x ∉ T1)) = ((imgsL t2 (lotOf z)).take j).filter (fun x => decide (x ∉ T1)) ++ [u].filter fun x => decide (x ∉ T1) := by rw [take_at hu, List.filter_append]
          by_cases c : u ∈ T1
          · refine iteN2 (by rw [decide_eq_true c]; rfl) ⟨sg, qs, eD, ?_⟩
            rw [fs, List.filter_cons_of_neg (by simpa using c), List.filter_nil, List.append_nil]
            exact pq
          · have nD8 : ∀ {x : Addr} {w9 : List V}, G6 x = some (.tup w9) → x ≠ D6 := fun {x w9} e z => by
              rw [z, eD] at e
              cases e
            refine iteT2 (by rw [decide_eq_false c]; rfl) ⟨_, rfl, _, eD, by rw [List.length_map, sizeLine_eq]; omega, same_put nD6 sg, qs ++ [r1], by rw [upd_same, List.map_append]; rfl, ?_⟩
            rw [fs, List.filter_cons_of_pos (by simpa using c), List.filter_nil]
            exact paired_app (paired_imp (fun x t h => (upd_ne (nD8 h)).trans h) pq) (.cons ((upd_ne (nD8 (sg _ _ uq))).trans (sg _ _ uq)) .nil)
        · rintro G6 ⟨sg, qs, eD, pq⟩
          rw [List.length_map, l5, List.take_length] at pq
          have enw : (imgsL t2 (lotOf z)).filter (fun x => decide (x ∉ T1)) = newT T1 (imgs z t2) := by
            rw [imgsL_dd]
            rfl
          rw [enw] at pq
          have ql := pf_len pq
          have nwl := newT_len (t := t2) lot6 (T := T1)
          obtain ⟨hs6, eh6, ph6⟩ := th5.same sg
          have hl6 := pf_len ph6
          refine ⟨Lh, D6, _, _, rfl, rfl, eh6, eD, by rw [List.length_map, List.length_map, sizeLine_eq]; omega, fun R nR => gname_go ?_⟩
          have sR := same_new (o := .lst (hs6.map V.ref ++ qs.map V.ref)) nR
          have s56 := sg.trans sR
          have k96 := k95.same s56
          refine ⟨R, kept ++ [t2], T1 ++ newT T1 (imgs z t2), _, _, _, _, _, rfl, m9, m0, ⟨b5.trans (SameB.of s56), pk5.same s56, k96, ⟨hs6 ++ qs, by rw [upd_same, List.map_append], paired_app (paired_imp (fun _ _ h => sR _ _ h) ph6) (paired_imp (fun _ _ h => sR _ _ h) pq)⟩, s85.same s56, hd5, by rw [List.length_append, List.length_singleton]; omega, by rw [List.length_append, List.length_append, List.length_singleton]; omega, s56 _ _ ek5, fun z => ?_, (pk5.same sg).ne nR⟩⟩
          obtain ⟨qs9, e9, _⟩ := k95.same sg
          rw [← z, nR] at e9
          cases e9
    · rintro m σ' G ⟨Lh, kept, T1, x4, x6, x10, x11, x12, rfl, m9, m0, I⟩
      obtain ⟨hs, eh, ph⟩ := I.th
      have hl := pf_len ph
      have kep := I.kl
      have tle := I.tl
      have zl : ((hs.zip T1).map fun z => V.ref z.1) = hs.map V.ref := by
        rw [show (fun z : Addr × Trp => V.ref z.1) = V.ref ∘ Prod.fst from rfl, ← List.map_map, List.map_fst_zip (by omega)]
      have pz := paired_zip ph
      refine ⟨_, rfl, _, rfl, Lh, zipI (hs.zip T1), rfl, ?_, ?_, .inl ⟨fun k hk => ?_, .inr fun k hk => ?_⟩, fun S nS => ⟨Nat.le_of_ble_eq_true rfl, fun R nR => ?_⟩⟩
      · unfold zipI
        rw [List.map_map]
        rw [show ((fun p : Addr × List Int => V.ref p.1) ∘ fun z : Addr × Trp => (z.1, [(z.2.1 : Int), (z.2.2.1 : Int), (z.2.2.2 : Int)])) = fun z => V.ref z.1 from rfl, zl]
        exact SqL.of eh
      · unfold zipI
        rw [List.length_map, List.length_zip, sizeLine_eq]
        omega
      · obtain ⟨y, hy, rfl⟩ := List.mem_map.mp hk
        exact SqT.of (pz.1 y hy)
      · obtain ⟨y, hy, rfl⟩ := List.mem_map.mp hk
        exact List.cons_ne_nil _ _
      · rw [zipI_sort] at nR ⊢
        have sS := same_new (o := .lst (((hs.zip T1).mergeSort fun a b => leT a.2 b.2).map fun z => V.ref z.1)) nS
        have eS := upd_same (H := G) (a := S) (o := .lst (((hs.zip T1).mergeSort fun a b => leT a.2 b.2).map fun z => V.ref z.1))
        have sR := same_new (o := .tup [.ref L9, .ref S]) nR
        have b9 : SameB p H G := I.s
        have nSH : H S = none := by
          cases c : H S with
          | none => rfl
          | some o =>
            have := b9 _ _ (I.pk.ne nS) c
            rw [nS] at this
            cases this
        refine q R L9 S kept T1 (T1.mergeSort leT) _ ((b9.trans (SameB.of sS)).trans (SameB.of sR)) ((I.pk.same sS).same sR) n9H nSH upd_same ((I.k9.same sS).same sR) ?_ rfl I.hd (by omega) I.tl
        refine TrpsAt.same ⟨((hs.zip T1).mergeSort fun a b => leT a.2 b.2).map (·.1), by rw [eS, List.map_map]; rfl, ?_⟩ sR
        rw [← zip_sort hl]
        exact paired_pairs _ fun y hy => sS _ _ (pz.1 y ((List.mergeSort_perm _ _).mem_iff.mp hy))
end
end L2.K15
set_option Elab.async false
set_option linter.all false
set_option maxRecDepth 100000
set_option maxHeartbeats 8000000
namespace L2.K15
open PySem PySem.Spec PyProof.Rows L2.Tb
open SX (S)
/-! ### values of formulas -/
def lookS (T : List Trp) (s a b : Nat) : Option Nat := match s with
  | 0 => lookT T k2 (·.2.2) (a * 600 + b)
  | 1 => lookT T k0 (·.1) (b * 600 + a)
  | _ => lookT T k1 (·.2.1) (a * 600 + b)
def evF (T : List Trp) (env : List Nat → Option Nat) : Fm → Option Nat
  | .lt n => env n
  | .op s l r => match evF T env l, evF T env r with
    | some a, some b => lookS T s a b
    | _, _ => none
theorem lookT_bd {n : Nat} {T : List Trp} {f g : Trp → Nat} {k v : Nat} (hT : ∀ t ∈ T, g t < n) (h : lookT T f g k = some v) : v < n := by
  unfold lookT at h
  cases e : T.find? fun s => decide (f s = k) with
  | none => rw [e] at h; cases h
  | some t =>
    rw [e] at h
    cases h
    exact hT t (List.mem_of_find?_eq_some e)
theorem lookS_bd {n : Nat} {T : List Trp} (hT : TOk n T) {s a b v : Nat} (h : lookS T s a b = some v) : v < n := by
  unfold lookS at h
  split at h
  · exact lookT_bd (fun t ht => (hT.bd t ht).2.2) h
  · exact lookT_bd (fun t ht => (hT.bd t ht).1) h
  · exact lookT_bd (fun t ht => (hT.bd t ht).2.1) h
theorem evF_bd {n : Nat} {T : List Trp} (hT : TOk n T) {env : List Nat → Option Nat} (he : ∀ m v, env m = some v → v < n) : ∀ {f : Fm} {v : Nat}, evF T env f = some v → v < n
  | .lt m, v, h => he m v h
  | .op s l r, v, h => by
    unfold evF at h
    split at h
    · exact lookS_bd hT h
    · cases h
abbrev s_striple : Stmt := top 30
abbrev N_striple : List Str := ["sign", "left", "right", "made"]
theorem sc_striple : FnScope N_striple ["sign", "left", "right", "made"] (defScope s_striple) := ⟨rfl, rfl, rfl, by decide +kernel, rfl, by decide +kernel, by decide +kernel⟩
abbrev s_value : Stmt := top 55
abbrev N_value : List Str := ["tables", "formula", "things", "left", "right"]
theorem sc_value : FnScope N_value ["tables", "formula", "things"] (defScope s_value) := ⟨rfl, rfl, rfl, by decide +kernel, rfl, by decide +kernel, by decide +kernel⟩
def stV (s a b : Nat) : List V := match s with
  | 0 => [.int (a : Int), .int (b : Int), .non]
  | 1 => [.non, .int (b : Int), .int (a : Int)]
  | _ => [.int (a : Int), .non, .int (b : Int)]
def spStriple : Sp := fun vs H Q _ => ∃ s a b : Nat, vs = [.str (S (sgL s)), .int (a : Int), .int (b : Int), .non] ∧ s < 3 ∧ ∀ (q : Addr) H', Same H H' → H' q = some (.tup (stV s a b)) → Q (.ref q) H'
/-- contents stand in a dict -/
def EnvAt (H : Hp) (D : Addr) (env : List Nat → Option Nat) : Prop := ∃ kvs, H D = some (.dK kvs) ∧ ∀ n, valV kvs (.inr (S n)) = (env n).map fun k : Nat => V.int (k : Int)
theorem EnvAt.same {H H' : Hp} {D : Addr} {env : List Nat → Option Nat} (h : EnvAt H D env) (s : Same H H') : EnvAt H' D env := let ⟨k, a, b⟩ := h; ⟨k, s _ _ a, b⟩
def spValue (FC : Addr) (n : Nat) : Sp := fun vs H Q _ => ∃ (tb a D : Addr) (T : List Trp) (f : Fm) (env : List Nat → Option Nat), vs = [.ref tb, .ref a, .ref D] ∧ Tabs H tb T ∧ FmAt FC H a f ∧ f.ok = true ∧ EnvAt H D env ∧ TOk 600 T ∧ (∀ m v, env m = some v → v < 600) ∧ f.dep ≤ n ∧
  ∀ H', Same H H' → Q (oV (evF T env f)) H'
def spVA (FC : Addr) : Nat → Sp
  | 0 => fun _ _ _ _ => False
  | n + 1 => spValue FC n
theorem oV_non {o : Option Nat} : decide (oV o = V.non) = o.isNone := by
  cases o with
  | none => rfl
  | some n => exact decide_eq_false fun z => by cases z
section
variable {P : Program} {w : World} {K : PySem.W.Frag} {mg : Str → Option Value} {base : Heap} {f : Addr} {fd : FuncData} {FC : Addr}
theorem c_striple (F : FnP K "signed_triple" s_striple f fd) (hm : mg "signed_triple" = some (.ref f)) : Cal P w K mg base 1 "signed_triple" spStriple := by
  have hnd := sc_striple.nd
  refine cal_mk F hm sc_striple (fun _ _ _ _ _ _ us hl => match us, hl with | [_, _, _, _], _ => rfl) (fun vs H Q E h => ?_) (fun cdv A outer s H vs Q E hr h => ?_)
  · obtain ⟨s0, a, b, rfl, _⟩ := h
    rfl
  · obtain ⟨s0, a, b, rfl, hs, q⟩ := h
    refine ⟨_, (pss_cons (ps_if (pt_cmpR op_eq (pv 0) pe_str (nomark _))
      (pss_one (ps_ret (pe_tup (pa_cons (pv 1) (pa_cons (pv 2) (pa_cons (pv 3) pa_nil))))))
      pss_nil)
      (pss_cons (ps_if (pt_cmpR op_eq (pv 0) pe_str (nomark _))
      (pss_one (ps_ret (pe_tup (pa_cons (pv 3) (pa_cons (pv 2) (pa_cons (pv 1) pa_nil))))))
      pss_nil)
      (pss_one (ps_ret (pe_tup (pa_cons (pv 1) (pa_cons (pv 3) (pa_cons (pv 2) pa_nil)))))))), ?_⟩
    rcases (show s0 = 0 ∨ s0 = 1 ∨ s0 = 2 by omega) with rfl | rfl | rfl
    · refine ⟨_, rfl, rfl, _, rfl, iteT2 (by decide +kernel) ⟨_, rfl, _, rfl, _, rfl, Nat.le_of_ble_eq_true rfl, fun R nR => q R _ (same_new nR) upd_same⟩⟩
    · refine ⟨_, rfl, rfl, _, rfl, iteN2 (by decide +kernel) ?_⟩
      refine ⟨_, rfl, rfl, _, rfl, iteT2 (by decide +kernel) ⟨_, rfl, _, rfl, _, rfl, Nat.le_of_ble_eq_true rfl, fun R nR => q R _ (same_new nR) upd_same⟩⟩
    · refine ⟨_, rfl, rfl, _, rfl, iteN2 (by decide +kernel) ?_⟩
      refine ⟨_, rfl, rfl, _, rfl, iteN2 (by decide +kernel) ?_⟩
      exact ⟨_, rfl, _, rfl, _, rfl, Nat.le_of_ble_eq_true rfl, fun R nR => q R _ (same_new nR) upd_same⟩
theorem c_value_false (F : FnP K "_value" s_value f fd) (hm : mg "_value" = some (.ref f)) : Cal P w K mg base 3 "_value" (spVA FC 0) :=
  ⟨f, fd, ["tables", "formula", "things"], ⟨fun _ _ _ _ h => h.elim, fun _ _ _ _ _ _ _ _ _ _ _ _ _ h => h.elim⟩, hm, F.kp, F.bindsN fun _ _ _ _ _ _ us hl => match us, hl with | [_, _, _], _ => rfl⟩
theorem c_value_step (FF : FoF K mg FC) (NN : PrpM P w K mg base FC "name" 1 (spFname FC)) (GG : PrpM P w K mg base FC "sign" 1 (spFsign FC)) (LF : PrpM P w K mg base FC "left" 1 (spFleft FC)) (RF : PrpM P w K mg base FC "right" 1 (spFright FC))
    (k_completed : Cal P w K mg base 2 "_completed" spCompleted) (k_striple : Cal P w K mg base 1 "signed_triple" spStriple) (F : FnP K "_value" s_value f fd) (hm : mg "_value" = some (.ref f)) (n : Nat) (k_value : Cal P w K mg base (3 + n) "_value" (spVA FC n)) : Cal P w K mg base (3 + n + 1) "_value" (spValue FC n) := by
  have hnd := sc_value.nd
  obtain ⟨pn9, gn9, fdn9, PN9, FN9, BN9⟩ := NN
  obtain ⟨pg9, gg9, fdg9, PG9, FG9, BG9⟩ := GG
  obtain ⟨pl9, gl9, fdl9, PL9, FL9, BL9⟩ := LF
  obtain ⟨pr9, gr9, fdr9, PR9, FR9, BR9⟩ := RF
  refine cal_mk F hm sc_value (fun _ _ _ _ _ _ us hl => match us, hl with | [_, _, _], _ => rfl) (fun vs H Q E h => ?_) (fun cdv A outer s H vs Q E hr h => ?_)
  · obtain ⟨tb, a, D, T9, f0, env, rfl, _⟩ := h
    rfl
  · obtain ⟨tb, a, D, T9, f0, env, rfl, ht, hf, okf, hD, hT, he, hd, q⟩ := h
    obtain ⟨dx, fs, ea⟩ := hf.ins
    refine ⟨_, (pss_cons (ps_if (pt_cmpR op_notN (pe_prop (E := L2.E0) (pv 1) FF.cls PN9 FN9 (hr.mono (by omega)) BN9 .nil (fun _ _ _ _ _ _ _ h => h.elim) (by rfl)) pe_non (nomark _))
      (pss_one (ps_ret (pe_dget1 (Nat.lt_of_le_of_lt (Nat.add_le_add_left (by decide) _) hr.units) (pv 2) (pe_prop (E := L2.E0) (pv 1) FF.cls PN9 FN9 (hr.mono (by omega)) BN9 .nil (fun _ _ _ _ _ _ _ h => h.elim) (by rfl)) ⟨by rfl, by rfl, by rfl, by rfl⟩)))
      pss_nil)
      (pss_cons (ps_set (i := 3) hnd rfl (by first | exact Or.inl rfl | exact Or.inr rfl) (pe_cal k_value hr (by omega) (by rfl) (pa_cons (pv 0) (pa_cons (pe_prop (E := L2.E0) (pv 1) FF.cls PL9 FL9 (hr.mono (by omega)) BL9 .nil (fun _ _ _ _ _ _ _ h => h.elim) (by rfl)) (pa_cons (pv 2) pa_nil)))))
      (pss_cons (ps_set (i := 4) hnd rfl (by first | exact Or.inl rfl | exact Or.inr rfl) (pe_cal k_value hr (by omega) (by rfl) (pa_cons (pv 0) (pa_cons (pe_prop (E := L2.E0) (pv 1) FF.cls PR9 FR9 (hr.mono (by omega)) BR9 .nil (fun _ _ _ _ _ _ _ h => h.elim) (by rfl)) (pa_cons (pv 2) pa_nil)))))
      (pss_cons (ps_if (PW.pt (pw_or (pt_cmpR op_isN (pv 3) pe_non (nomark _)) (pw_or1 (pt_cmpR op_isN (pv 4) pe_non (nomark _)))))
      (pss_one (ps_ret pe_non))
      pss_nil)
      (pss_one (ps_ret (pe_cal k_completed hr (by omega) (by rfl) (pa_cons (pv 0) (pa_cons (pe_cal k_striple hr (by omega) (by rfl) (pa_cons (pe_prop (E := L2.E0) (pv 1) FF.cls PG9 FG9 (hr.mono (by omega)) BG9 .nil (fun _ _ _ _ _ _ _ h => h.elim) (by rfl)) (pa_cons (pv 3) (pa_cons (pv 4) (pa_cons pe_non pa_nil))))) pa_nil))))))))), ?_⟩
    refine ⟨_, rfl, a, dx, fs, rfl, ea, a, f0, rfl, hf, rfl, _, rfl, ?_⟩
    cases f0 with
    | lt m =>
      refine iteT2 rfl ?_
      obtain ⟨kvs, eD, hk⟩ := hD
      refine ⟨_, rfl, D, rfl, .inl ⟨_, .inl eD⟩, ?_⟩
      refine ⟨_, rfl, a, dx, fs, rfl, ea, a, .lt m, rfl, hf, ?_⟩
      refine ⟨_, .inl ⟨_, .inr (S m), .inl eD, rfl, rfl⟩, ?_⟩
      rw [hk]
      have := q H (Same.refl _)
      unfold evF at this
      cases e : env m with
      | none => rw [e] at this; exact this
      | some n => rw [e] at this; exact this
    | op s0 l r =>
      refine iteN2 rfl ?_
      obtain ⟨hs0, okl, okr⟩ := Fm.ok_op okf
      simp only [Fm.dep] at hd
      cases n with
      | zero => omega
      | succ n =>
        refine ⟨_, rfl, _, rfl, a, dx, fs, rfl, ea, a, .op s0 l r, rfl, hf, fun la hla => ?_⟩
        refine ⟨_, rfl, tb, la, D, T9, l, env, rfl, ht, hla, okl, hD, hT, he, by omega, fun H1 s1 => gname_go ?_⟩
        try dsimp only
        refine ⟨_, rfl, _, rfl, a, dx, fs, rfl, s1 _ _ ea, a, .op s0 l r, rfl, hf.same s1, fun ra hra => ?_⟩
        refine ⟨_, rfl, tb, ra, D, T9, r, env, rfl, ht.same s1, hra, okr, hD.same s1, hT, he, by omega, fun H2 s2 => gname_go ?_⟩
        try dsimp only
        have s12 := s1.trans s2
        have fin : (∀ H', Same H2 H' → Q (oV (evF T9 env (.op s0 l r))) H') := fun H' s => q H' (s12.trans s)
        have bl := fun v => evF_bd hT he (f := l) (v := v)
        have br := fun v => evF_bd hT he (f := r) (v := v)
        unfold evF at fin
        cases el : evF T9 env l with
        | none =>
          refine ⟨_, rfl, rfl, _, rfl, iteT2 rfl (iteT2 rfl ?_)⟩
          have := fin H2 (Same.refl _)
          rw [el] at this
          exact this
        | some x =>
          cases er : evF T9 env r with
          | none =>
            refine ⟨_, rfl, rfl, _, rfl, iteN2 rfl ⟨_, rfl, rfl, _, rfl, iteT2 rfl ?_⟩⟩
            have := fin H2 (Same.refl _)
            rw [el, er] at this
            exact this
          | some y =>
            refine ⟨_, rfl, rfl, _, rfl, iteN2 rfl ⟨_, rfl, rfl, _, rfl, iteN2 rfl ?_⟩⟩
            refine ⟨_, rfl, _, rfl, a, dx, fs, rfl, s12 _ _ ea, a, .op s0 l r, rfl, hf.same s12, _, rfl, _, rfl, s0, x, y, rfl, hs0, fun q9 H3 s3 e3 => ?_⟩
            rw [el, er] at fin
            have bx := bl x el
            have by' := br y er
            refine ⟨tb, q9, T9, rfl, ht.same (s12.trans s3), ?_⟩
            rcases (show s0 = 0 ∨ s0 = 1 ∨ s0 = 2 by omega) with rfl | rfl | rfl
            · exact .inr (.inr ⟨x, y, e3, bx, by', fun H' s => fin H' (s3.trans s)⟩)
            · exact .inl ⟨y, x, e3, by', bx, fun H' s => fin H' (s3.trans s)⟩
            · exact .inr (.inl ⟨x, y, e3, bx, by', fun H' s => fin H' (s3.trans s)⟩)
theorem c_value (FF : FoF K mg FC) (NN : PrpM P w K mg base FC "name" 1 (spFname FC)) (GG : PrpM P w K mg base FC "sign" 1 (spFsign FC)) (LF : PrpM P w K mg base FC "left" 1 (spFleft FC)) (RF : PrpM P w K mg base FC "right" 1 (spFright FC))
    (k_completed : Cal P w K mg base 2 "_completed" spCompleted) (k_striple : Cal P w K mg base 1 "signed_triple" spStriple) (F : FnP K "_value" s_value f fd) (hm : mg "_value" = some (.ref f)) : ∀ n, Cal P w K mg base (3 + n + 1) "_value" (spValue FC n)
  | 0 => c_value_step FF NN GG LF RF k_completed k_striple F hm 0 (c_value_false F hm)
  | n + 1 => c_value_step FF NN GG LF RF k_completed k_striple F hm (n + 1) (c_value FF NN GG LF RF k_completed k_striple F hm n)
end
end L2.K15
set_option Elab.async false
set_option linter.all false
set_option maxRecDepth 100000
set_option maxHeartbeats 8000000
namespace L2.K15
open PySem PySem.Spec PyProof.Rows L2.Tb
open SX (S)
/-! ### contents -/
abbrev s_is_content : Stmt := top 52
abbrev N_is_content : List Str := ["size", "value"]
theorem sc_is_content : FnScope N_is_content ["size", "value"] (defScope s_is_content) := ⟨rfl, rfl, rfl, by decide +kernel, rfl, by decide +kernel, by decide +kernel⟩
abbrev s_check_contents : Stmt := top 51
abbrev N_check_contents : List Str := ["size", "contents", "index", "pair"]
theorem sc_check_contents : FnScope N_check_contents ["size", "contents"] (defScope s_check_contents) := ⟨rfl, rfl, rfl, by decide +kernel, rfl, by decide +kernel, by decide +kernel⟩
/-- what a value is as a name -/
def NmV (K : PySem.W.Frag) (H : Hp) (x : V) (o : Option (List Nat)) : Prop := (∃ l, x = .str (S l) ∧ l.length ≤ 10000 ∧ o = if nameB l = true then some l else none) ∨ (NoS K H x ∧ o = none)
/-- what a value is as a pair of a name and a thing below n -/
inductive CoV (K : PySem.W.Frag) (H : Hp) (n : Nat) : V → Option (List Nat) → Prop
  | no {v : V} (h : NoT K H v) : CoV K H n v none
  | len {q : Addr} {xs : List V} (e : H q = some (.tup xs)) (hl : xs.length ≠ 2) : CoV K H n (.ref q) none
  | pair {q : Addr} {x y : V} {o : Option (List Nat)} {b : Bool} (e : H q = some (.tup [x, y])) (hx : NmV K H x o) (hy : IsTh K H n y b) : CoV K H n (.ref q) (if b = true then o else none)
theorem NoS.same {K : PySem.W.Frag} {H H' : Hp} {v : V} (h : NoS K H v) (s : Same H H') : NoS K H' v := ⟨let ⟨t, a, b⟩ := h.ex; ⟨t, tyx_same s a, b⟩⟩
theorem NmV.same {K : PySem.W.Frag} {H H' : Hp} {x : V} {o : Option (List Nat)} (h : NmV K H x o) (s : Same H H') : NmV K H' x o := h.imp id fun z => ⟨z.1.same s, z.2⟩
theorem CoV.same {K : PySem.W.Frag} {H H' : Hp} {n : Nat} {v : V} {o : Option (List Nat)} (h : CoV K H n v o) (s : Same H H') : CoV K H' n v o := by
  cases h with
  | no h => exact .no (h.same s)
  | len e hl => exact .len (s _ _ e) hl
  | pair e hx hy => exact .pair (s _ _ e) (hx.same s) (hy.same s)
theorem coV_pair {K : PySem.W.Frag} {H : Hp} {n k : Nat} {q : Addr} {m : List Nat} (e : H q = some (.tup [.str (S m), .int (k : Int)])) (hm : nameB m = true) (hk : k < n) : CoV K H n (.ref q) (some m) := by
  have := CoV.pair (K := K) (n := n) e (.inl ⟨m, rfl, by have := (nameB_len hm).2; omega, rfl⟩) (isTh_nat hk)
  rw [if_pos rfl, if_pos hm] at this
  exact this
theorem CoV.inv {K : PySem.W.Frag} {H : Hp} {n : Nat} {v : V} {m : List Nat} (h : CoV K H n v (some m)) : ∃ (q : Addr) (y : V), v = .ref q ∧ H q = some (.tup [.str (S m), y]) := by
  generalize ho : some m = o at h
  cases h with
  | no h => cases ho
  | len e hl => cases ho
  | @pair q x y o b e hx hy =>
    split at ho
    · rcases hx with ⟨l, rfl, _, hl⟩ | ⟨_, rfl⟩
      · rw [hl] at ho
        split at ho
        · cases ho
          exact ⟨q, y, rfl, e⟩
        · cases ho
      · cases ho
    · cases ho
theorem cps_S (l : List Nat) : (S l).cps.toList = l := by first | rfl | simp
def firstC : Nat → Option (List Nat) → List (Option (List Nat)) → Option Nat
  | _, _, [] => none
  | i, _, none :: _ => some i
  | i, p, some m :: os => if (p.all fun k => decide (k < m)) = true then firstC (i + 1) (some m) os else some i
def spIsContent (K : PySem.W.Frag) : Sp := fun vs H Q _ => ∃ (n : Nat) (v : V) (o : Option (List Nat)), vs = [.int (n : Int), v] ∧ CoV K H n v o ∧ ∀ H', Same H H' → Q (.bl o.isSome) H'
def spCheckC (K : PySem.W.Frag) (CI : Addr) : Sp := fun vs H Q E => ∃ (n : Nat) (v : V), vs = [.int (n : Int), v] ∧
  ((NoT K H v ∧ ErrIv H CI E .non) ∨ ∃ (q : Addr) (xs : List V) (os : List (Option (List Nat))), v = .ref q ∧ H q = some (.tup xs) ∧ Paired (CoV K H n) xs os ∧
    match firstC 0 none os with | none => ∀ H', Same H H' → Q .non H' | some i => ErrIv H CI E (.int (i : Nat)))
section
variable {P : Program} {w : World} {K : PySem.W.Frag} {mg : Str → Option Value} {base : Heap} {f : Addr} {fd : FuncData} {CI : Addr}
theorem c_is_content (T : Bt mg) (k_is_name : Cal P w K mg base 1 "is_name" (spIsName K)) (k_is_thing : Cal P w K mg base 2 "is_thing" (spIsThing K)) (F : FnP K "_is_content" s_is_content f fd) (hm : mg "_is_content" = some (.ref f)) : Cal P w K mg base 3 "_is_content" (spIsContent K) := by
  have hnd := sc_is_content.nd
  refine cal_mk F hm sc_is_content (fun _ _ _ _ _ _ us hl => match us, hl with | [_, _], _ => rfl) (fun vs H Q E h => ?_) (fun cdv A outer s H vs Q E hr h => ?_)
  · obtain ⟨n, v, o, rfl, _⟩ := h
    rfl
  · obtain ⟨n, v, o, rfl, hv, q⟩ := h
    refine ⟨_, (pss_one (ps_ret (pe_and (pe_callB call_isi (by rfl) T.m_isinstance (by decide +kernel) (pa_cons (pv 1) (pa_cons (pe_bltn (v := .ty "tuple") (by rfl) T.m_tuple (by decide +kernel) rfl) pa_nil))) (pe_and (pe_cmpR op_eq (pe_callB call_len_seq (by rfl) T.m_len (by decide +kernel) (pa_cons (pv 1) pa_nil)) pe_int (nomark _)) (pe_and (pe_cal k_is_name hr (by omega) (by rfl) (pa_cons (pe_ix (show IxR _ (rIxT K) from ix_tup) (pv 1) pe_int (fun _ _ => rfl)) pa_nil)) (pe_one (pe_cal k_is_thing hr (by omega) (by rfl) (pa_cons (pv 0) (pa_cons (pe_ix (show IxR _ (rIxT K) from ix_tup) (pv 1) pe_int (fun _ _ => rfl)) pa_nil))))))))), ?_⟩
    cases hv with
    | no h =>
      obtain ⟨t, ty, kn⟩ := h.ex
      exact ⟨_, rfl, _, _, _, _, _, rfl, .ty _, ty, kn, _, rfl, iteF (q H (Same.refl _))⟩
    | @len qa xs e hl =>
      refine ⟨_, rfl, _, _, _, _, _, rfl, .ty _, .base (.tup e), kit_ty (by decide +kernel : kitB "tuple" "tuple" = some true), _, rfl, iteT ⟨_, rfl, _, _, rfl, .inr (SqT.of e), rfl, _, rfl, ?_⟩⟩
      rw [show decide (V.int ((xs.length : Nat) : Int) = V.int 2) = false from lenX (n := 2) hl]
      exact iteF (q H (Same.refl _))
    | @pair qa x y o b e hx hy =>
      refine ⟨_, rfl, _, _, _, _, _, rfl, .ty _, .base (.tup e), kit_ty (by decide +kernel : kitB "tuple" "tuple" = some true), _, rfl, iteT ⟨_, rfl, _, _, rfl, .inr (SqT.of e), rfl, _, rfl, ?_⟩⟩
      refine iteT ?_
      refine ⟨_, rfl, qa, _, _, x, rfl, rfl, SqT.of e, atI_nat (j := 0) rfl, x, rfl, ?_⟩
      have last : o.isSome = true → ∀ G, Same H G → Q (.bl b) G := fun ho G s => by
        have := q G s
        cases b with
        | true => rw [if_pos rfl, ho] at this; exact this
        | false => rw [if_neg (by decide)] at this; exact this
      have stop : o.isSome = false → ∀ G, Same H G → Q (.bl false) G := fun ho G s => by
        have := q G s
        cases b with
        | true => rw [if_pos rfl, ho] at this; exact this
        | false => rw [if_neg (by decide)] at this; exact this
      have tail : ∀ G, Same H G → o.isSome = true → spIsThing K [.int (n : Int), y] G Q E0 := fun G s ho => ⟨n, y, b, rfl, hy.same s, last ho G s⟩
      rcases hx with ⟨l, rfl, l4, rfl⟩ | ⟨ns, rfl⟩
      · refine .inl ⟨l, rfl, l4, fun H1 s1 => ⟨_, rfl, ?_⟩⟩
        cases hn : nameB l with
        | true =>
          rw [hn] at last stop tail
          exact iteT ⟨_, rfl, _, rfl, qa, _, _, y, rfl, rfl, SqT.of (s1 _ _ e), atI_nat (j := 1) rfl, tail H1 s1 rfl⟩
        | false =>
          rw [hn] at last stop tail
          exact iteF (stop rfl H1 s1)
      · exact .inr ⟨ns, _, rfl, iteF (stop rfl H (Same.refl _))⟩
theorem c_check_contents (T : Bt mg) (k_is_content : Cal P w K mg base 3 "_is_content" (spIsContent K)) (eInvalidContents : ErC P w K mg base "InvalidContents" "index" bVE CI) (tyInvalidContents : PySem.W.typeIn K (.ref CI) = some (.type "type")) (F : FnP K "_check_contents" s_check_contents f fd) (hm : mg "_check_contents" = some (.ref f)) :
    CalX P w K mg base 4 "_check_contents" (spCheckC K CI) := by
  have hnd := sc_check_contents.nd
  refine calX_of F hm (fun _ _ _ _ _ _ us hl => match us, hl with | [_, _], _ => rfl) (F.ok sc_check_contents (fun vs H Q E h => ?_) (fun cdv A outer s H vs Q E hr h => ?_))
  · obtain ⟨n, v, rfl, _⟩ := h
    rfl
  · obtain ⟨n, v, rfl, h⟩ := h
    refine ⟨_, (pss_cons (ps_if (pt_not (pt_val (pe_callB call_isi (by rfl) T.m_isinstance (by decide +kernel) (pa_cons (pv 1) (pa_cons (pe_bltn (v := .ty "tuple") (by rfl) T.m_tuple (by decide +kernel) rfl) pa_nil)))))
      (pss_one (ps_raise (by rfl) (takes_of rfl rfl rfl rfl) (pmk_er eInvalidContents tyInvalidContents hr (by omega) (by rfl) pe_non)))
      pss_nil)
      (pss_one (ps_for (passes_of rfl) (by rfl) (pi_enumT (by rfl) T.m_enumerate (pa_cons (pv 1) pa_nil)) (pg_tup (by rfl) (pgs_cons (pg_name (i := 2) hnd rfl (by first | exact Or.inl rfl | exact Or.inr rfl)) (pgs_cons (pg_name (i := 3) hnd rfl (by first | exact Or.inl rfl | exact Or.inr rfl)) pgs_nil)))
      (pss_one (ps_if (PW.pt (pw_or (pt_not (pt_val (pe_cal k_is_content hr (by omega) (by rfl) (pa_cons (pv 0) (pa_cons (pv 3) pa_nil))))) (pw_or1 (PW.pt (pw_and (pt_cmpR op_gt (pv 2) pe_int (nomark _)) (pw_and1 (pt_cmpR op_le_str (pe_ix (show IxR _ (rIxT K) from ix_tup) (pv 3) pe_int (fun _ _ => rfl)) (pe_ix (show IxR _ (rIxT K) from ix_tup) (pe_ix (show IxR _ (rIxT K) from ix_tup) (pv 1) (pe_op op_sub (pv 2) pe_int) (fun _ _ => rfl)) pe_int (fun _ _ => rfl)) (nomark _))))))))
      (pss_one (ps_raise (by rfl) (takes_of rfl rfl rfl rfl) (pmk_er eInvalidContents tyInvalidContents hr (by omega) (by rfl) (pv 2))))
      pss_nil))))), ?_⟩
    rcases h with ⟨no, qE⟩ | ⟨q9, xs, os, rfl, e9, pr, q⟩
    · obtain ⟨t, ty, kn⟩ := no.ex
      refine ⟨_, rfl, _, _, _, _, _, rfl, .ty _, ty, kn, _, rfl, iteT fun d H' s nd x => qE d H' s nd x⟩
    · refine ⟨_, rfl, _, _, _, _, _, rfl, .ty _, sqT_ty (SqT.of e9), kit_ty (by decide +kernel : kitB "tuple" "tuple" = some true), _, rfl, iteF ?_⟩
      dsimp only [tNext]
      have lx : xs.length = os.length := pr.length
      refine ⟨_, rfl, q9, _, rfl, SqT.of e9, for_enumT (K := K) (a := q9) (xs := xs) (fun i σ' G => Same H G ∧ ∃ x2 x3 : Option V, σ' = [some (.int (n : Nat)), some (.ref q9), x2, x3] ∧ ∃ p : Option (List Nat), firstC 0 none os = firstC i p (os.drop i) ∧ ((i = 0 ∧ p = none) ∨ ∃ m, 0 < i ∧ p = some m ∧ os[i - 1]? = some (some m))) ⟨Same.refl _, _, _, rfl, none, rfl, .inl ⟨rfl, rfl⟩⟩ (fun i σ' G _ h => SqT.of (h.1 _ _ e9)) ?_ ?_⟩
      · rintro i x σ' G TT hx ⟨sg, x2, x3, rfl, p, hf, hp⟩ nT
        have hi : i < xs.length := (List.getElem?_eq_some_iff.mp hx).1
        have ho : os[i]? = some os[i] := List.getElem?_eq_getElem (by omega)
        have hc := paired_get2 pr i x _ hx ho
        generalize os[i] = o at ho hc
        rw [drop_at ho] at hf
        have s1 := sg.trans (same_new (o := .tup [.int (i : Nat), x]) nT)
        have eTT := upd_same (H := G) (a := TT) (o := .tup [.int (i : Nat), x])
        generalize upd G TT (.tup [.int (i : Nat), x]) = G1 at s1 eTT ⊢
        refine ⟨TT, _, rfl, SqT.of eTT, rfl, _, _, rfl, _, _, rfl, rfl, ?_⟩
        try dsimp only
        have bad : firstC i p (o :: os.drop (i + 1)) = some i → ∀ G2, Same G1 G2 → tErR CI "index" (tVar 2) [some (.int (n : Nat)), some (.ref q9), some (.int (i : Nat)), some x] G2 (fun cls d H' => E cls d H') := fun hb G2 s2 => by
          rw [hf.trans hb] at q
          exact ⟨_, rfl, fun d H' s nd x => q d H' ((s1.trans s2).trans s) (none_back (s1.trans s2) nd) x⟩
        refine ⟨_, rfl, _, rfl, n, x, o, rfl, hc.same s1, fun G2 s2 => ⟨_, rfl, ?_⟩⟩
        cases o with
        | none => exact iteT (iteT (bad rfl G2 s2))
        | some m =>
          refine iteF ?_
          obtain ⟨qx, yx, rfl, ex⟩ := hc.inv
          have sx := s1.trans s2
          refine ⟨_, rfl, _, _, rfl, rfl, _, rfl, ?_⟩
          rcases hp with ⟨rfl, rfl⟩ | ⟨m0, hi0, rfl, hm0⟩
          · refine iteN2 (decide_eq_false (by decide)) (iteF ⟨sx, _, _, rfl, some m, hf, .inr ⟨m, Nat.succ_pos _, rfl, ho⟩⟩)
          · refine iteT2 (decide_eq_true (by omega)) ?_
            have li : i - 1 < xs.length := by omega
            have hc0 := paired_get2 pr (i - 1) _ _ (List.getElem?_eq_getElem li) hm0
            have hx0 : xs[i - 1]? = some xs[i - 1] := List.getElem?_eq_getElem li
            generalize xs[i - 1] = x0 at hc0 hx0
            obtain ⟨q0, y0, rfl, e0⟩ := hc0.inv
            refine ⟨_, rfl, qx, _, _, .str (S m), rfl, rfl, SqT.of (sx _ _ ex), atI_nat (j := 0) rfl, ?_⟩
            refine ⟨_, rfl, _, rfl, _, _, rfl, rfl, q9, _, _, .ref q0, rfl, rfl, SqT.of (sx _ _ e9), by rw [show (i : Int) - 1 = ((i - 1 : Nat) : Int) by omega]; exact atI_nat hx0, q0, _, _, .str (S m0), rfl, rfl, SqT.of (sx _ _ e0), atI_nat (j := 0) rfl, _, _, rfl, rfl, ?_⟩
            by_cases c : m0 < m
            · refine ⟨_, rfl, iteN2 (by rw [cps_S, cps_S]; simp [c]) ⟨sx, _, _, rfl, some m, ?_, .inr ⟨m, Nat.succ_pos _, rfl, ho⟩⟩⟩
              rw [hf]
              show (if _ then _ else _) = _
              rw [if_pos (by simp [c])]
            · refine ⟨_, rfl, iteT2 (by rw [cps_S, cps_S]; simp [c]) (bad ?_ G2 s2)⟩
              show (if _ then _ else _) = _
              rw [if_neg (by simp [c])]
      · rintro σ' G ⟨sg, x2, x3, rfl, p, hf, hp⟩
        rw [lx, List.drop_length] at hf
        rw [show firstC 0 none os = none from hf] at q
        exact q G sg
end
end L2.K15
set_option Elab.async false
set_option linter.all false
set_option maxRecDepth 100000
set_option maxHeartbeats 8000000
namespace L2.K15
open PySem PySem.Spec PyProof.Rows L2.Tb
open SX (S)
abbrev s_bvalue : Stmt := inClass (top 45) 9
abbrev N_bvalue : List Str := ["self", "formula", "contents", "name", "thing"]
theorem sc_bvalue : FnScope N_bvalue ["self", "formula", "contents"] (defScope s_bvalue) := ⟨rfl, rfl, rfl, by decide +kernel, rfl, by decide +kernel, by decide +kernel⟩
theorem paired_in2 {α β : Type} {R S : α → β → Prop} : ∀ {xs : List α} {ys : List β}, Paired R xs ys → (∀ a b, b ∈ ys → R a b → S a b) → Paired S xs ys
  | _, _, .nil, _ => .nil
  | _, _, .cons h t, f => .cons (f _ _ List.mem_cons_self h) (paired_in2 t fun a b hb r => f a b (List.mem_cons_of_mem _ hb) r)
/-- right contents: names, ascending, with things -/
def ConOk (n : Nat) (ps : List (List Nat × Nat)) : Prop := (∀ p ∈ ps, nameB p.1 = true ∧ p.2 < n) ∧ ps.Pairwise fun a b => a.1 < b.1
def ConAt (H : Hp) (q : Addr) (ps : List (List Nat × Nat)) : Prop := ∃ xs, H q = some (.tup xs) ∧ Paired (fun x (p : List Nat × Nat) => ∃ ad, x = V.ref ad ∧ H ad = some (.tup [.str (S p.1), .int (p.2 : Int)])) xs ps
def envL (ps : List (List Nat × Nat)) (m : List Nat) : Option Nat := (ps.find? fun p => decide (p.1 = m)).map (·.2)
theorem envL_bd {n : Nat} {ps : List (List Nat × Nat)} (h : ConOk n ps) {m : List Nat} {v : Nat} (e : envL ps m = some v) : v < n := by
  unfold envL at e
  cases c : ps.find? fun p => decide (p.1 = m) with
  | none => rw [c] at e; cases e
  | some p =>
    rw [c] at e
    cases e
    exact (h.1 p (List.mem_of_find?_eq_some c)).2
def kvL (ps : List (List Nat × Nat)) : List (Key × V) := ps.map fun p => (Sum.inr (S p.1), V.int (p.2 : Int))
theorem kvL_val : ∀ {ps : List (List Nat × Nat)} {m : List Nat}, valV (kvL ps) (.inr (S m)) = (envL ps m).map fun k : Nat => V.int (k : Int)
  | [], m => rfl
  | p :: ps, m => by
    show valV ((Sum.inr (S p.1), V.int (p.2 : Int)) :: kvL ps) _ = _
    unfold envL
    by_cases c : p.1 = m
    · rw [List.find?_cons_of_pos (by simpa using c)]
      subst c
      rw [valV_pos rfl]
      rfl
    · have hne : (Sum.inr (S p.1) : Key) ≠ Sum.inr (S m) := fun z => c (SX.S_inj (by injection z))
      rw [valV_neg hne, List.find?_cons_of_neg (by simpa using c)]
      exact kvL_val
theorem kvL_put {ps : List (List Nat × Nat)} {p : List Nat × Nat} (h : ∀ x ∈ ps, x.1 ≠ p.1) : putK (kvL ps) (Sum.inr (S p.1)) (.int (p.2 : Int)) = kvL (ps ++ [p]) := by
  unfold putK
  rw [if_neg, kvL, kvL, List.map_append]
  · rfl
  · rw [Bool.not_eq_true, List.any_eq_false]
    intro x hx
    obtain ⟨y, hy, rfl⟩ := List.mem_map.mp hx
    simp only [decide_eq_true_eq]
    exact fun z => h y hy (SX.S_inj (by injection z))
theorem con_first {n : Nat} : ∀ {ps : List (List Nat × Nat)} {i : Nat} {p : Option (List Nat)}, ConOk n ps → (∀ m, p = some m → ∀ x ∈ ps, m < x.1) → firstC i p (ps.map fun x => some x.1) = none
  | [], i, p, _, _ => rfl
  | x :: ps, i, p, h, hp => by
    show (if _ then _ else _) = _
    rw [if_pos]
    · exact con_first ⟨fun y hy => h.1 y (List.mem_cons_of_mem _ hy), (List.pairwise_cons.mp h.2).2⟩ fun m e y hy => by
        cases e
        exact (List.pairwise_cons.mp h.2).1 y hy
    · cases p with
      | none => rfl
      | some m => exact decide_eq_true (hp m rfl x List.mem_cons_self)
/-- what value is asked and tells -/
def spBval (K : PySem.W.Frag) (C BC FC CF CI : Addr) : Sp := fun vs H Q E => ∃ (a : Addr) (d : Bg) (vf vc : V), vs = [.ref a, vf, vc] ∧ BgAt C BC H a d ∧ d.n ≤ 600 ∧ TOk d.n d.T ∧
  ((NoF K FC H vf ∧ ErrW H CF E "given" vf) ∨ ∃ b f, vf = .ref b ∧ FmAt FC H b f ∧ f.ok = true ∧ f.dep ≤ 8 ∧
    ((NoT K H vc ∧ ErrIv H CI E .non) ∨ (∃ (q : Addr) (xs : List V) (os : List (Option (List Nat))) (i : Nat), vc = .ref q ∧ H q = some (.tup xs) ∧ Paired (CoV K H d.n) xs os ∧ firstC 0 none os = some i ∧ ErrIv H CI E (.int (i : Nat))) ∨
     (∃ (q : Addr) (ps : List (List Nat × Nat)), vc = .ref q ∧ ConAt H q ps ∧ ConOk d.n ps ∧ ps.length ≤ 1000 ∧ ∀ H', Same H H' → Q (oV (evF d.T (envL ps) f)) H')))
section
variable {P : Program} {w : World} {K : PySem.W.Frag} {mg : Str → Option Value} {base : Heap} {f : Addr} {fd : FuncData} {C BC FC CF CI : Addr}
theorem c_bvalue (T : Bt mg) (BF : BgF K mg BC) (x_check_formula : CalX P w K mg base 3 "check_formula" (spCheckF K FC CF)) (x_check_contents : CalX P w K mg base 4 "_check_contents" (spCheckC K CI)) (k_value : Cal P w K mg base 12 "_value" (spValue FC 8))
    (F : FunD K "value" "Beginning.value" (defArgs s_bvalue) (defBody s_bvalue) (defScope s_bvalue) [] [] f fd) : FnOk P w K mg base (L2.CX P w) 13 f fd ["self", "formula", "contents"] (spBval K C BC FC CF CI) := by
  have hnd := sc_bvalue.nd
  refine F.ok sc_bvalue (fun vs H Q E h => ?_) (fun cdv A outer s H vs Q E hr h => ?_)
  · obtain ⟨a, d, vf, vc, rfl, _⟩ := h
    rfl
  · obtain ⟨a, d, vf, vc, rfl, ⟨dx, tk, tb, ea, ek, tt⟩, n6, ok, h⟩ := h
    refine ⟨_, (pss_cons (ps_expr (pe_calX x_check_formula hr (by omega) (by rfl) (passes_call (takes_of rfl rfl rfl rfl) (fun _ _ _ _ h => h)) (pa_cons (pv 1) pa_nil)))
      (pss_cons (ps_expr (pe_calX x_check_contents hr (by omega) (by rfl) (passes_call (takes_of rfl rfl rfl rfl) (fun _ _ _ _ h => h)) (pa_cons (pe_fld (pv 0) (by rfl)) (pa_cons (pv 2) pa_nil))))
      (pss_one (ps_ret (pe_cal k_value hr (by omega) (by rfl) (pa_cons (pe_fld (pv 0) (by rfl)) (pa_cons (pv 1) (pa_cons (pe_dc (own := [("name", 3), ("thing", 4)]) (g := gTup K 2 (gCons (gName 3) (gCons (gName 4) gNil))) (tt := tYes) (by rfl) hnd (pi_tup (pv 2)) (blkOk_by (own := [("name", 3), ("thing", 4)]) (N := N_bvalue) (sc := defScope s_bvalue) (by decide +kernel)) (fun _ _ _ _ _ => (pg_tup (by rfl) (pgs_cons (pg_name (i := 3) hnd rfl (by first | exact Or.inl rfl | exact Or.inr rfl)) (pgs_cons (pg_name (i := 4) hnd rfl (by first | exact Or.inl rfl | exact Or.inr rfl)) pgs_nil)))) (fun _ _ _ _ _ => pts_nil) (fun _ _ _ _ _ => pv 3) (fun _ _ _ _ _ => pv 4)) pa_nil)))))))), ?_⟩
    rcases h with ⟨hn, qE⟩ | ⟨b, g, rfl, hg, okg, g8, h⟩
    · exact ⟨_, rfl, _, rfl, .inr ⟨hn, qE⟩⟩
    refine ⟨_, rfl, _, rfl, .inl ⟨b, g, rfl, hg, ?_⟩⟩
    refine ⟨_, rfl, a, BC, dx, _, _, rfl, ea, BF.cls, BF.noS, rfl, _, rfl, d.n, vc, rfl, ?_⟩
    rcases h with ⟨hn, qE⟩ | ⟨q9, xs, os, i, rfl, e9, pr, fi, qE⟩ | ⟨q9, ps, rfl, ⟨xs, e9, pr⟩, co, pl, q⟩
    · exact .inl ⟨hn, qE⟩
    · refine .inr ⟨q9, xs, os, rfl, e9, pr, ?_⟩
      rw [fi]
      exact qE
    · refine .inr ⟨q9, xs, ps.map fun x => some x.1, rfl, e9, ?_, ?_⟩
      · exact paired_mapR (fun x : List Nat × Nat => some x.1) (paired_in2 pr fun x p hp ⟨ad, ex, eA⟩ => by
          subst ex
          exact coV_pair eA (co.1 p hp).1 (co.1 p hp).2)
      rw [con_first co fun m e => by cases e]
      intro H1 s1
      try dsimp only
      refine ⟨_, rfl, a, BC, dx, _, _, rfl, s1 _ _ ea, BF.cls, BF.noT, rfl, _, rfl, ?_⟩
      refine ⟨_, rfl, q9, rfl, ⟨_, SqT.of (s1 _ _ e9)⟩, fun D nD => dc_tup (xs := xs) (fun i G => Same H1 G ∧ G D = some (.dK (kvL (ps.take i)))) ⟨same_new nD, upd_same⟩ (fun i G _ h => SqT.of (h.1 _ _ (s1 _ _ e9))) ?_ ?_⟩
      · rintro i x G hx ⟨sG, eG⟩
        obtain ⟨p, hp, ad, rfl, eA⟩ := pairedNth pr hx
        have sA := (s1.trans sG) _ _ eA
        refine ⟨ad, _, rfl, SqT.of sA, rfl, _, _, rfl, _, _, rfl, rfl, ?_⟩
        refine ⟨rfl, ?_⟩
        unfold tYes
        dsimp only
        rw [if_pos rfl]
        have il := (List.getElem?_eq_some_iff.mp hp).1
        refine ⟨_, rfl, _, rfl, _, .inr (S p.1), rfl, eG, ?_, same_pt nD sG, ?_⟩
        · rw [kvL, List.length_map, List.length_take, sizeLine_eq]
          omega
        · rw [upd_same, take_at hp, ← kvL_put fun y hy => ?_]
          obtain ⟨j, hj⟩ := List.getElem?_of_mem hy
          rw [List.getElem?_take] at hj
          split at hj
          · rename_i hji
            intro e
            obtain ⟨lj, ej⟩ := List.getElem?_eq_some_iff.mp hj
            obtain ⟨li, ei⟩ := List.getElem?_eq_some_iff.mp hp
            have := List.pairwise_iff_getElem.mp co.2 j i lj li hji
            rw [ej, ei, e] at this
            exact absurd this (List.lt_irrefl _)
          · cases hj
      · rintro G ⟨sG, eG⟩
        rw [pr.length, List.take_length] at eG
        have s2 := s1.trans sG
        exact ⟨tb, b, D, d.T, g, envL ps, rfl, tt.same s2, hg.same s2, okg, ⟨_, eG, fun m => kvL_val⟩, ok.up n6, fun m v e => Nat.lt_of_lt_of_le (envL_bd co e) n6, g8, fun H' s => q H' (s2.trans s)⟩
end
end L2.K15
set_option Elab.async false
set_option linter.all false
set_option maxRecDepth 100000
set_option maxHeartbeats 8000000
namespace L2.K15
open PySem PySem.Spec PyProof.Rows L2.Tb
open SX (S)
abbrev s_lnames : Stmt := top 65
abbrev N_lnames : List Str := ["_law_purse_here", "_law_length", "_law_words", "_law_signs", "_law_found", "_law_k", "_law_size", "_law_called", "_law_j", "_law_spare", "_law_one"]
theorem sc_lnames : FnScope N_lnames ["_law_purse_here", "_law_length"] (defScope s_lnames) := ⟨rfl, rfl, rfl, by decide +kernel, rfl, by decide +kernel, by decide +kernel⟩
structure NamesL (ls : List (List Nat)) : Prop where
  ok : ∀ l ∈ ls, nameB l = true
  nd : ls.Nodup
def word10 : List V := [.str (Str.ofString "same"), .str (Str.ofString "go"), .str (Str.ofString "unlike"), .str (Str.ofString "plain"), .str (Str.ofString "calm"), .str (Str.ofString "a"), .str (Str.ofString "b"), .str (Str.ofString "k0"), .str (Str.ofString "all"), .str (Str.ofString "s")]
theorem word10_at : ∀ k : Nat, k < 10 → ∃ l : List Nat, word10[k]? = some (.str (S l)) ∧ nameB l = true := by
  intro k hk
  have go : ∀ z : Str, word10[k]? = some (.str z) → nameB z.cps.toList = true → ∃ l : List Nat, word10[k]? = some (.str (S l)) ∧ nameB l = true := fun z h1 h2 => ⟨z.cps.toList, by rw [h1, ← str_S z], h2⟩
  rcases (show k = 0 ∨ k = 1 ∨ k = 2 ∨ k = 3 ∨ k = 4 ∨ k = 5 ∨ k = 6 ∨ k = 7 ∨ k = 8 ∨ k = 9 by omega) with rfl | rfl | rfl | rfl | rfl | rfl | rfl | rfl | rfl | rfl
  all_goals exact go _ rfl (by decide +kernel)
theorem joinL_one : ∀ cs : List Nat, TL.joinL [] (cs.map fun c => [c]) = cs
  | [] => rfl
  | [c] => rfl
  | c :: d :: r => by
    have ih := joinL_one (d :: r)
    show [c] ++ ([] ++ TL.joinL [] ((d :: r).map fun c => [c])) = _
    rw [ih]
    rfl
def zName (j : Nat) : List Nat := [122, 48 + j]
theorem zName_at : ∀ j : Nat, j < 9 → Str.ofString "z" ++ Str.ofString (toString (0 + (j : Int))) = S (zName j) := by
  intro j hj
  rcases (show j = 0 ∨ j = 1 ∨ j = 2 ∨ j = 3 ∨ j = 4 ∨ j = 5 ∨ j = 6 ∨ j = 7 ∨ j = 8 by omega) with rfl | rfl | rfl | rfl | rfl | rfl | rfl | rfl | rfl
  all_goals decide +kernel
theorem zName_len : ∀ j : Nat, j < 9 → (Str.ofString "z").length + (Str.ofString (toString (0 + (j : Int)))).length = 2 := by
  intro j hj
  rcases (show j = 0 ∨ j = 1 ∨ j = 2 ∨ j = 3 ∨ j = 4 ∨ j = 5 ∨ j = 6 ∨ j = 7 ∨ j = 8 by omega) with rfl | rfl | rfl | rfl | rfl | rfl | rfl | rfl | rfl
  all_goals decide +kernel
theorem zName_ok : ∀ j : Nat, j < 9 → nameB (zName j) = true := by
  intro j hj
  rcases (show j = 0 ∨ j = 1 ∨ j = 2 ∨ j = 3 ∨ j = 4 ∨ j = 5 ∨ j = 6 ∨ j = 7 ∨ j = 8 by omega) with rfl | rfl | rfl | rfl | rfl | rfl | rfl | rfl | rfl
  all_goals decide +kernel
theorem zs_nd (m : Nat) : ((List.range m).map zName).Nodup := by
  rw [List.Nodup, List.pairwise_map]
  refine (List.nodup_range (n := m)).imp fun {a b} h e => h ?_
  unfold zName at e
  injection e with _ e
  injection e with e _
  omega
/-- one that is not there yet -/
theorem spare_some {ls : List (List Nat)} {m : Nat} {l : List Nat} (h : ls.length < m) : ∃ x r, (l :: (List.range m).map zName).filter (fun x => decide (x ∉ ls)) = x :: r := by
  cases hf : (l :: (List.range m).map zName).filter (fun x => decide (x ∉ ls)) with
  | cons a r => exact ⟨a, r, rfl⟩
  | nil =>
    have all : ∀ x ∈ (List.range m).map zName, x ∈ ls := fun x hx => by
      by_cases cx : x ∈ ls
      · exact cx
      · have := (List.mem_filter (p := fun l => decide (l ∉ ls))).mpr ⟨List.mem_cons_of_mem l hx, (decide_eq_true cx : decide (x ∉ ls) = true)⟩
        rw [hf] at this
        cases this
    have := nodup_sub (zs_nd m) all
    rw [List.length_map, List.length_range] at this
    omega
def spLnames : Sp := fun vs H Q _ => ∃ (p : Addr) (m : Nat), vs = [.ref p, .int (m : Int)] ∧ Pk H p ∧ m ≤ 9 ∧ ∀ (ls : List (List Nat)) (L : Addr) (H' : Hp), ls.length = m → NamesL ls → SameB p H H' → Pk H' p → L ≠ p → H L = none → H' L = some (.lst (ls.map nmV)) → Q (.ref L) H'
section
variable {P : Program} {w : World} {K : PySem.W.Frag} {mg : Str → Option Value} {base : Heap} {f : Addr} {fd : FuncData}
theorem c_lnames (T : Bt mg) (mstr : mg "str" = none) (k_pick : Cal P w K mg base 1 "_law_pick" spPick) (F : FnP K "_law_names" s_lnames f fd) (hm : mg "_law_names" = some (.ref f)) : Cal P w K mg base 2 "_law_names" spLnames := by
  have hnd := sc_lnames.nd
  refine cal_mk F hm sc_lnames (fun _ _ _ _ _ _ us hl => match us, hl with | [_, _], _ => rfl) (fun vs H Q E h => ?_) (fun cdv A outer s H vs Q E hr h => ?_)
  · obtain ⟨p, m, rfl, _⟩ := h
    rfl
  · obtain ⟨p, m, rfl, hp, hm9, q⟩ := h
    refine ⟨_, (pss_cons (ps_set (i := 2) hnd rfl (by first | exact Or.inl rfl | exact Or.inr rfl) (pe_lst (pa_cons pe_str (pa_cons pe_str (pa_cons pe_str (pa_cons pe_str (pa_cons pe_str (pa_cons pe_str (pa_cons pe_str (pa_cons pe_str (pa_cons pe_str (pa_cons pe_str pa_nil))))))))))))
      (pss_cons (ps_set (i := 3) hnd rfl (by first | exact Or.inl rfl | exact Or.inr rfl) pe_str)
      (pss_cons (ps_set (i := 4) hnd rfl (by first | exact Or.inl rfl | exact Or.inr rfl) (pe_lst pa_nil))
      (pss_cons (ps_for PassesOwn.never (by rfl) (pi_range1 (by rfl) T.m_range (pa_cons (pv 1) pa_nil)) (pg_name (i := 5) hnd rfl (by first | exact Or.inl rfl | exact Or.inr rfl))
      (pss_cons (ps_set (i := 6) hnd rfl (by first | exact Or.inl rfl | exact Or.inr rfl) (pe_ifExp (pt_cmpR op_eq (pe_cal k_pick hr (by omega) (by rfl) (pa_cons (pv 0) (pa_cons pe_int pa_nil))) pe_int (nomark _)) (pe_cal k_pick hr (by omega) (by rfl) (pa_cons (pv 0) (pa_cons pe_int pa_nil))) (pe_cal k_pick hr (by omega) (by rfl) (pa_cons (pv 0) (pa_cons pe_int pa_nil)))))
      (pss_cons (ps_set (i := 7) hnd rfl (by first | exact Or.inl rfl | exact Or.inr rfl) (pe_ix ix_str (pv 3) (pe_cal k_pick hr (by omega) (by rfl) (pa_cons (pv 0) (pa_cons pe_int pa_nil))) (fun _ _ => rfl)))
      (pss_cons (ps_set (i := 7) hnd rfl (by first | exact Or.inl rfl | exact Or.inr rfl) (pe_op op_add_str (pv 7) (pe_join pe_str (pe_lc (own := [("_law_j", 8)]) (tt := tYes) (by rfl) hnd (pi_range1 (by rfl) T.m_range (pa_cons (pv 6) pa_nil)) (blkOk_by (own := [("_law_j", 8)]) (N := N_lnames) (sc := defScope s_lnames) (by decide +kernel)) (fun _ _ _ _ _ => (pg_name (i := 8) hnd rfl (by first | exact Or.inl rfl | exact Or.inr rfl))) (fun _ _ _ _ _ => pts_nil) (fun _ _ _ _ _ => (pe_ix ix_str (pv 3) (pe_cal k_pick hr (by omega) (by rfl) (pa_cons (pv 0) (pa_cons pe_int pa_nil))) (fun _ _ => rfl)))))))
      (pss_cons (ps_set (i := 7) hnd rfl (by first | exact Or.inl rfl | exact Or.inr rfl) (pe_ifExp (pt_cmpR op_eq (pe_cal k_pick hr (by omega) (by rfl) (pa_cons (pv 0) (pa_cons pe_int pa_nil))) pe_int (nomark _)) (pe_ix (show IxR _ (rIxL K) from ix_list) (pv 2) (pe_cal k_pick hr (by omega) (by rfl) (pa_cons (pv 0) (pa_cons pe_int pa_nil))) (fun _ _ => rfl)) (pv 7)))
      (pss_cons (ps_set (i := 9) hnd rfl (by first | exact Or.inl rfl | exact Or.inr rfl) (pe_op op_cat (pe_lst (pa_cons (pv 7) pa_nil)) (pe_lc (own := [("_law_j", 8)]) (tt := tYes) (by rfl) hnd (pi_range1 (by rfl) T.m_range (pa_cons (pv 1) pa_nil)) (blkOk_by (own := [("_law_j", 8)]) (N := N_lnames) (sc := defScope s_lnames) (by decide +kernel)) (fun _ _ _ _ _ => (pg_name (i := 8) hnd rfl (by first | exact Or.inl rfl | exact Or.inr rfl))) (fun _ _ _ _ _ => pts_nil) (fun _ _ _ _ _ => (pe_op op_add_str pe_str (pe_callTy call_str_int (by rfl) mstr (by decide +kernel) (pa_cons (pv 8) pa_nil)))))))
      (pss_one (ps_expr (pe_bm PySem.F.plainAttrs_list PySem.F.slot_list_append PySem.F.type_list_append mt_append (pv 4) (pa_cons (pe_ix (show IxR _ (rIxL K) from ix_list) (pe_lc (own := [("_law_one", 10)]) (by rfl) hnd (pi_list (pv 9)) (blkOk_by (own := [("_law_one", 10)]) (N := N_lnames) (sc := defScope s_lnames) (by decide +kernel)) (fun _ _ _ _ _ => (pg_name (i := 10) hnd rfl (by first | exact Or.inl rfl | exact Or.inr rfl))) (fun _ _ _ _ _ => (pts_one (pt_cmpR (show OpR _ (compareOp .NotIn) (rIn K true) from op_notIn_seq) (pv 10) (pv 4) (by rfl)))) (fun _ _ _ _ _ => (pv 10))) pe_int (fun _ _ => rfl)) pa_nil))))))))))
      (pss_one (ps_ret (pv 4))))))), ?_⟩
    refine ⟨Nat.le_of_ble_eq_true rfl, fun W nW => gname_go ?_⟩
    try dsimp only
    refine gname_go ?_
    show tSeq _ _ _ _ (upd H W (.lst word10))
    try dsimp only
    refine ⟨Nat.zero_le _, fun L nL => gname_go ?_⟩
    try dsimp only
    have nWp : W ≠ p := hp.ne nW
    have sW := same_new (o := .lst word10) nW
    have nLW : L ≠ W := fun z => by
      rw [z] at nL
      exact absurd (nL.symm.trans (upd_same (H := H) (a := W) (o := .lst word10))) (fun z => by cases z)
    have nLH : H L = none := none_back sW nL
    have nLp : L ≠ p := hp.ne nLH
    have s0 : Same H (upd (upd H W (.lst word10)) L (.lst [])) := sW.trans (same_new (o := .lst []) nL)
    have eL : (upd (upd H W (.lst word10)) L (.lst [])) L = some (.lst ([] : List V)) := upd_same
    have eW : (upd (upd H W (.lst word10)) L (.lst [])) W = some (.lst word10) := (same_new (o := .lst []) nL) _ _ upd_same
    have u0 := hp.same s0
    generalize upd (upd H W (.lst word10)) L (.lst []) = G0 at s0 eL eW u0 ⊢
    have l36 : (Str.ofString "abcdefghijklmnopqrstuvwxyz0123456789").length ≤ sizeLine := by
      rw [show (Str.ofString "abcdefghijklmnopqrstuvwxyz0123456789").length = 36 by decide +kernel, sizeLine_eq]
      decide
    refine ⟨_, rfl, (m : Int), rfl, by omega, by omega, ?_⟩
    refine for_range (n := ((m : Nat) : Int).toNat) (fun i σ' G => ∃ (ls : List (List Nat)) (x5 x6 x7 x9 : Option V), σ' = [some (.ref p), some (.int (m : Int)), some (.ref W), some (.str (Str.ofString "abcdefghijklmnopqrstuvwxyz0123456789")), some (.ref L), x5, x6, x7, none, x9, none] ∧ G L = some (.lst (ls.map nmV)) ∧ G W = some (.lst word10) ∧ ls.length = i ∧ NamesL ls ∧ SameB p H G ∧ Pk G p)
      ⟨[], _, _, _, _, rfl, eL, eW, rfl, ⟨fun l h => (by cases h), List.nodup_nil⟩, SameB.of s0, u0⟩ ?_ ?_
    · rintro i σ' G hi ⟨ls, x5, x6, x7, x9, rfl, eL, eW, ll, nl, sG, uG⟩
      have hi : i < m := by
        rw [Int.toNat_natCast] at hi
        exact hi
      refine gname_go ?_
      try dsimp only
      refine asg_all (fun v G1 => ∃ d : Nat, v = .int (d : Int) ∧ d ≤ 7 ∧ SameB p G G1 ∧ Pk G1 p) (fun Q9 hQ => ?_) ?_
      · refine ⟨_, rfl, p, 4, rfl, uG, by decide, by decide, fun d G1 hd b1 pk1 => ⟨rfl, _, rfl, ?_⟩⟩
        by_cases c : d = 0
        · exact iteT2 (decide_eq_true (by rw [c]; rfl)) ⟨_, rfl, p, 8, rfl, pk1, by decide, by decide, fun e G2 he b2 pk2 => hQ _ _ ⟨e, rfl, by omega, b1.trans b2, pk2⟩⟩
        · exact iteN2 (decide_eq_false fun e => c (by injection e with e; omega)) ⟨_, rfl, p, 2, rfl, pk1, by decide, by decide, fun e G2 he b2 pk2 => hQ _ _ ⟨e, rfl, by omega, b1.trans b2, pk2⟩⟩
      rintro _ G1 ⟨sz, rfl, sz7, b1, pk1⟩
      refine gname_go ?_
      try dsimp only
      refine asg_all (fun v G2 => ∃ c : Nat, v = .str (S [c]) ∧ lowB c = true ∧ SameB p G1 G2 ∧ Pk G2 p) (fun Q9 hQ => ?_) ?_
      · refine ⟨_, rfl, _, rfl, p, 26, rfl, pk1, by decide, by decide, fun k G2 hk b2 pk2 => ?_⟩
        obtain ⟨ha, hs⟩ := sign_at k (by omega)
        refine ⟨_, _, _, rfl, rfl, l36, atI_nat ha, ?_⟩
        exact hQ _ _ ⟨signAt k, rfl, by unfold signAt; rw [if_pos hk]; simp only [lowB, Bool.and_eq_true, Nat.ble_eq]; omega, b2, pk2⟩
      rintro _ G2 ⟨c1, rfl, hc1, b2, pk2⟩
      refine gname_go ?_
      try dsimp only
      refine asg_all (fun v G3 => ∃ l : List Nat, v = .str (S l) ∧ nameB l = true ∧ SameB p G2 G3 ∧ Pk G3 p) (fun Q9 hQ => ?_) ?_
      · refine ⟨_, rfl, ⟨_, rfl⟩, _, rfl, (sz : Int), rfl, by omega, by omega, fun D nD => ?_⟩
        have nDp : D ≠ p := pk2.ne nD
        have sD := same_new (o := .lst []) nD
        refine lc_range (n := ((sz : Nat) : Int).toNat) (fun j G => SameB p G2 G ∧ Pk G p ∧ ∃ cs : List Nat, G D = some (.lst (cs.map fun c => V.str (S [c]))) ∧ cs.length = j ∧ cs.all signB = true) ⟨SameB.of sD, pk2.same sD, [], upd_same, rfl, rfl⟩ ?_ ?_
        · rintro j G hj ⟨bG, uG, cs, eD, cl, ca⟩
          rw [Int.toNat_natCast] at hj
          refine gname_go ⟨rfl, ?_⟩
          unfold tYes
          dsimp only
          rw [if_pos rfl]
          refine ⟨_, rfl, _, rfl, p, 36, rfl, uG, by decide, by decide, fun k G5 hk b5 pk5 => ?_⟩
          obtain ⟨ha, hs⟩ := sign_at k (by omega)
          refine ⟨_, _, _, rfl, rfl, l36, atI_nat ha, ?_⟩
          have eD5 := b5 _ _ nDp eD
          refine ⟨_, eD5, by rw [List.length_map, cl, sizeLine_eq]; omega, fun b o nb e => ?_, ?_, cs ++ [signAt k], by rw [upd_same, List.map_append]; rfl, by rw [List.length_append, cl]; rfl, ?_⟩
          · rw [upd_ne (ne_of_none e nD)]
            exact b5 _ _ nb (bG _ _ nb e)
          · obtain ⟨g, mm, c, ep, r⟩ := pk5.ex
            exact ⟨g, mm, c, (upd_ne (Ne.symm nDp)).trans ep, r⟩
          · rw [List.all_append, ca, List.all_cons, hs]
            rfl
        · rintro G ⟨bG, uG, cs, eD, cl, ca⟩
          rw [Int.toNat_natCast] at cl
          refine ⟨_, D, cs.map fun c => S [c], rfl, rfl, .inl (SqL.of (by rw [eD, List.map_map]; rfl)), ?_, ?_⟩
          · have : ((cs.map fun c => S [c]).map (·.length)) = List.replicate cs.length 1 := by
              rw [List.map_map, List.map_congr_left (g := fun _ => 1) (fun c _ => SX.S_len _)]
              exact List.map_const' ..
            rw [this, List.sum_replicate_nat, cl]
            show sz * 1 + _ * 0 ≤ _
            omega
          · rw [show (Str.ofString "") = S [] by decide +kernel, show (cs.map fun c => S [c]) = (cs.map fun c => [c]).map S by rw [List.map_map]; rfl, SX.join_S, joinL_one]
            refine ⟨_, _, rfl, rfl, ?_, ?_⟩
            · rw [SX.S_len, SX.S_len, sizeLine_eq, cl]
              show 1 + sz ≤ _
              omega
            · rw [SX.S_cat]
              refine hQ _ _ ⟨[c1] ++ cs, rfl, ?_, bG, uG⟩
              show (lowB c1 && (Nat.ble cs.length 7 && cs.all signB)) = true
              rw [hc1, ca, cl, Nat.ble_eq.mpr sz7]
              rfl
      rintro _ G3 ⟨l1, rfl, hl1, b3, pk3⟩
      refine gname_go ?_
      try dsimp only
      have b13 := (b1.trans b2).trans b3
      have eW3 := b13 _ _ nWp eW
      have eL3 := b13 _ _ nLp eL
      refine asg_all (fun v G4 => ∃ l : List Nat, v = .str (S l) ∧ nameB l = true ∧ SameB p G3 G4 ∧ Pk G4 p) (fun Q9 hQ => ?_) ?_
      · refine ⟨_, rfl, p, 5, rfl, pk3, by decide, by decide, fun d G4 hd b4 pk4 => ⟨rfl, _, rfl, ?_⟩⟩
        by_cases c : d = 0
        · refine iteT2 (decide_eq_true (by rw [c]; rfl)) ⟨_, rfl, _, rfl, p, 10, rfl, pk4, by decide, by decide, fun e G5 he b5 pk5 => ?_⟩
          obtain ⟨l, hl, hn⟩ := word10_at e he
          exact ⟨W, word10, _, _, rfl, rfl, SqL.of (b5 _ _ nWp (b4 _ _ nWp eW3)), atI_nat hl, hQ _ _ ⟨l, rfl, hn, b4.trans b5, pk5⟩⟩
        · exact iteN2 (decide_eq_false fun e => c (by injection e with e; omega)) ⟨_, rfl, hQ _ _ ⟨l1, rfl, hl1, b4, pk4⟩⟩
      rintro _ G4 ⟨l2, rfl, hl2, b4, pk4⟩
      refine gname_go ?_
      try dsimp only
      have eW4 := b4 _ _ nWp eW3
      have eL4 := b4 _ _ nLp eL3
      have b04 := (sG.trans b13).trans b4
      refine asg_all (fun v G5 => ∃ Z, v = .ref Z ∧ Same G4 G5 ∧ G5 Z = some (.lst ((l2 :: (List.range m).map zName).map nmV))) (fun Q9 hQ => ?_) ?_
      · refine ⟨_, rfl, Nat.le_of_ble_eq_true rfl, fun A nA => ⟨_, rfl, (m : Int), rfl, by omega, by omega, fun D nD => ?_⟩⟩
        have sA := same_new (o := .lst [.str (S l2)]) nA
        have eA := upd_same (H := G4) (a := A) (o := .lst [.str (S l2)])
        generalize upd G4 A (.lst [.str (S l2)]) = GA at sA eA nD ⊢
        refine lc_range (n := ((m : Nat) : Int).toNat) (fun j G => Same GA G ∧ G D = some (.lst (((List.range j).map zName).map nmV))) ⟨same_new nD, upd_same⟩ ?_ ?_
        · rintro j G hj ⟨sGj, eD⟩
          rw [Int.toNat_natCast] at hj
          refine gname_go ⟨rfl, ?_⟩
          unfold tYes
          dsimp only
          rw [if_pos rfl]
          refine ⟨_, rfl, _, rfl, ?_, _, _, rfl, rfl, ?_⟩
          · exact Nat.lt_of_le_of_lt (Nat.log2_le_self _) (by omega)
          have hz := zName_at j (by omega)
          have lz := zName_len j (by omega)
          refine ⟨by rw [lz, sizeLine_eq]; omega, ?_⟩
          rw [hz]
          refine ⟨_, eD, by rw [List.length_map, List.length_map, List.length_range, sizeLine_eq]; omega, same_put nD sGj, ?_⟩
          rw [upd_same, List.range_succ, List.map_append, List.map_append]
          rfl
        · rintro G ⟨sGj, eD⟩
          rw [Int.toNat_natCast] at eD
          refine ⟨A, D, _, _, rfl, rfl, sGj _ _ eA, eD, by rw [List.length_map, List.length_map, List.length_range, sizeLine_eq]; show 1 + m ≤ _; omega, fun R nR => ?_⟩
          exact hQ _ _ ⟨R, rfl, (sA.trans sGj).trans (same_new nR), by rw [upd_same]; rfl⟩
      rintro _ G5 ⟨Z, rfl, s5, eZ⟩
      refine gname_go ?_
      try dsimp only
      have eW5 := s5 _ _ eW4
      have eL5 := s5 _ _ eL4
      have pk5 := pk4.same s5
      have b05 := b04.trans (SameB.of s5)
      obtain ⟨x9, r9, hf⟩ := spare_some (l := l2) (ls := ls) (m := m) (by omega)
      refine ⟨_, rfl, .inl ⟨rfl, _, SqL.of eL5⟩, _, rfl, Z, rfl, ⟨_, SqL.of eZ⟩, fun D nD => ?_⟩
      refine lc_list (xs := (l2 :: (List.range m).map zName).map nmV) (fun j G6 => Same G5 G6 ∧ G6 D = some (.lst ((((l2 :: (List.range m).map zName).take j).filter fun l => decide (l ∉ ls)).map nmV))) ⟨same_new nD, upd_same⟩ (fun j G6 _ y => SqL.of (y.1 _ _ eZ)) ?_ ?_
      · rintro j y G6 hj ⟨s6, e6⟩
        rw [List.getElem?_map] at hj
        obtain ⟨a, ha, rfl⟩ := Option.map_eq_some_iff.mp hj
        refine ⟨rfl, _, rfl, _, rfl, L, _, rfl, .inl (SqL.of (s6 _ _ eL5)), rfl, names_flat ls, _, rfl, ?_⟩
        rw [if_pos rfl, inV_names]
        by_cases c2 : a ∈ ls
        · rw [decide_eq_true c2]
          refine iteF ⟨s6, ?_⟩
          rw [take_at ha, List.filter_append, List.filter_cons_of_neg (by simpa using c2), List.filter_nil, List.append_nil]
          exact e6
        · rw [decide_eq_false c2]
          refine iteT ⟨_, rfl, _, e6, ?_, same_pt nD s6, ?_⟩
          · rw [List.length_map, sizeLine_eq]
            have := List.length_filter_le (fun l => decide (l ∉ ls)) ((l2 :: (List.range m).map zName).take j)
            have h9 : (l2 :: (List.range m).map zName).length = m + 1 := by rw [List.length_cons, List.length_map, List.length_range]
            rw [List.length_take] at this
            omega
          · rw [upd_same, take_at ha, List.filter_append, List.filter_cons_of_pos (by simpa using c2), List.filter_nil, List.map_append]
            rfl
      · rintro G6 ⟨s6, e6⟩
        rw [List.length_map, List.take_length, hf] at e6
        have hin : x9 ∈ (l2 :: (List.range m).map zName).filter fun x => decide (x ∉ ls) := by rw [hf]; exact List.mem_cons_self
        obtain ⟨hx1, hx2⟩ := List.mem_filter.mp hin
        have hx2 : x9 ∉ ls := of_decide_eq_true hx2
        have hx1 : nameB x9 = true := by
          rcases List.mem_cons.mp hx1 with rfl | hx1
          · exact hl2
          · obtain ⟨j, hj, rfl⟩ := List.mem_map.mp hx1
            exact zName_ok j (by rw [List.mem_range] at hj; omega)
        have eL6 := s6 _ _ eL5
        refine ⟨D, _, _, _, rfl, rfl, SqL.of e6, atI_nat (j := 0) rfl, L, _, _, rfl, rfl, eL6, by rw [List.length_map, ll, sizeLine_eq]; omega, ?_⟩
        have b06 := b05.trans (SameB.of s6)
        refine ⟨ls ++ [x9], _, _, _, _, rfl, by rw [upd_same, List.map_append]; rfl, (upd_ne (Ne.symm nLW)).trans (s6 _ _ eW5), by rw [List.length_append, ll]; rfl, ⟨fun l hl => ?_, ?_⟩, fun b o nb e => ?_, ?_⟩
        · rcases List.mem_append.mp hl with hl | hl
          · exact nl.ok l hl
          · rw [List.mem_singleton.mp hl]
            exact hx1
        · refine List.nodup_append.mpr ⟨nl.nd, (List.nodup_cons.mpr ⟨fun h => (by cases h), List.nodup_nil⟩), fun a ha b hb => ?_⟩
          rw [List.mem_singleton.mp hb]
          exact fun e => hx2 (by rw [← e]; exact ha)
        · rw [upd_ne (ne_of_none e nLH)]
          exact b06 b o nb e
        · obtain ⟨g, mm, c, ep, r⟩ := (pk5.same s6).ex
          exact ⟨g, mm, c, (upd_ne (Ne.symm nLp)).trans ep, r⟩
    · rintro σ' G ⟨ls, x5, x6, x7, x9, rfl, eL, eW, ll, nl, sG, uG⟩
      exact ⟨_, rfl, q ls L G (by rw [ll, Int.toNat_natCast]) nl sG uG nLp nLH eL⟩
end
end L2.K15
set_option Elab.async false
set_option linter.all false
set_option maxRecDepth 100000
set_option maxHeartbeats 8000000
namespace L2.K15
open PySem PySem.Spec PyProof.Rows L2.Tb
open SX (S)
abbrev s_lform : Stmt := top 66
abbrev N_lform : List Str := ["_law_purse_here", "_law_names_here", "_law_size", "_law_sign", "_law_first"]
theorem sc_lform : FnScope N_lform ["_law_purse_here", "_law_names_here", "_law_size"] (defScope s_lform) := ⟨rfl, rfl, rfl, by decide +kernel, rfl, by decide +kernel, by decide +kernel⟩
abbrev s_lmade : Stmt := top 68
abbrev N_lmade : List Str := ["_law_form_here", "_law_left", "_law_right_here"]
theorem sc_lmade : FnScope N_lmade ["_law_form_here"] (defScope s_lmade) := ⟨rfl, rfl, rfl, by decide +kernel, rfl, by decide +kernel, by decide +kernel⟩
/-! ### the law's formulas: pairs of the empty text and a name, tuples of a sign and two formulas -/
inductive TrW (H : Hp) : V → Fm → Prop where
  | lt {a : Addr} {n : List Nat} : H a = some (.tup [.str (S []), .str (S n)]) → TrW H (.ref a) (.lt n)
  | op {a : Addr} {vl vr : V} {s : Nat} {l r : Fm} : H a = some (.tup [.str (S (sgL s)), vl, vr]) → TrW H vl l → TrW H vr r → TrW H (.ref a) (.op s l r)
theorem TrW.mono {H H' : Hp} (k : ∀ b xs, H b = some (.tup xs) → H' b = some (.tup xs)) {v : V} {f : Fm} (h : TrW H v f) : TrW H' v f := by
  induction h with
  | lt e => exact .lt (k _ _ e)
  | op e _ _ i1 i2 => exact .op (k _ _ e) i1 i2
theorem TrW.same {H H' : Hp} {v : V} {f : Fm} (h : TrW H v f) (s : Same H H') : TrW H' v f := h.mono fun b xs e => s _ _ e
theorem tup_keep {H H' : Hp} {p : Addr} (hp : Pk H p) (s : SameB p H H') : ∀ b xs, H b = some (.tup xs) → H' b = some (.tup xs) := fun b xs e => by
  obtain ⟨g, m, c, ep, _⟩ := hp.ex
  exact s b _ (fun z => by
    rw [z, ep] at e
    cases e) e
theorem TrW.B {H H' : Hp} {p : Addr} {v : V} {f : Fm} (h : TrW H v f) (hp : Pk H p) (s : SameB p H H') : TrW H' v f := h.mono (tup_keep hp s)
theorem sgL_no (s : Nat) : decide (V.str (S (sgL s)) = V.str (Str.ofString "")) = false := by
  refine decide_eq_false fun e => ?_
  rw [cons_S] at e
  injection e with e
  have := SX.S_inj e
  unfold sgL at this
  split at this <;> cases this
def sign4 : List V := [.str (Str.ofString "*"), .str (Str.ofString "//"), .str (Str.ofString ">>"), .str (Str.ofString "*")]
theorem sign4_at : ∀ k : Nat, k < 4 → ∃ s, s < 3 ∧ sign4[k]? = some (.str (S (sgL s))) := by
  intro k hk
  rcases (show k = 0 ∨ k = 1 ∨ k = 2 ∨ k = 3 by omega) with rfl | rfl | rfl | rfl
  · exact ⟨0, by decide, by decide +kernel⟩
  · exact ⟨1, by decide, by decide +kernel⟩
  · exact ⟨2, by decide, by decide +kernel⟩
  · exact ⟨0, by decide, by decide +kernel⟩
theorem name_at {ls : List (List Nat)} {k : Nat} (h : k < ls.length) : ∃ l, l ∈ ls ∧ (ls.map nmV)[k]? = some (.str (S l)) := ⟨ls[k], List.getElem_mem h, by rw [List.getElem?_map, List.getElem?_eq_getElem h]; rfl⟩
def spLform (n : Nat) : Sp := fun vs H Q _ => ∃ (p L : Addr) (ls : List (List Nat)) (m : Nat), vs = [.ref p, .ref L, .int (m : Int)] ∧ Pk H p ∧ H L = some (.lst (ls.map nmV)) ∧ L ≠ p ∧ 0 < ls.length ∧ ls.length ≤ 100 ∧ (∀ l ∈ ls, nameB l = true) ∧ m ≤ n ∧ m ≤ 100 ∧
  ∀ (v : V) (f : Fm) (H' : Hp), SameB p H H' → Pk H' p → TrW H' v f → f.ok = true → f.ops = m → Q v H'
def spLfA : Nat → Sp
  | 0 => fun _ _ _ _ => False
  | n + 1 => spLform n
def spLmade (FC : Addr) (n : Nat) : Sp := fun vs H Q _ => ∃ (v : V) (f : Fm), vs = [v] ∧ TrW H v f ∧ f.ok = true ∧ f.ops ≤ 8 ∧ f.dep ≤ n ∧ ∀ x H', Same H H' → FmAt FC H' x f → Q (.ref x) H'
def spLzA (FC : Addr) : Nat → Sp
  | 0 => fun _ _ _ _ => False
  | n + 1 => spLmade FC n
open PySem.W in
def BinM (P : Program) (w : World) (K : PySem.W.Frag) (mg : Str → Option Value) (base : Heap) (FC CF CM : Addr) (op : Operator) (i : Nat) : Prop := ∃ f fd, findIn K (.ref FC) (PySem.dunder op.info.2) = some (some (.ref f)) ∧ isFn K (.ref f) = true ∧ findIn K (.ref FC) (dunderR op.info.2) = some none ∧
  FnOk P w K mg base (L2.CX P w) 9 f fd ["self", "other"] (spFop i K FC CF CM) ∧ Binds K fd ["self", "other"] []
section
variable {P : Program} {w : World} {K : PySem.W.Frag} {mg : Str → Option Value} {base : Heap} {f : Addr} {fd : FuncData} {FC CNotAFormula CTooMany CInvalidName : Addr}
theorem c_lform_false (F : FnP K "_law_form" s_lform f fd) (hm : mg "_law_form" = some (.ref f)) : Cal P w K mg base 1 "_law_form" (spLfA 0) :=
  ⟨f, fd, ["_law_purse_here", "_law_names_here", "_law_size"], ⟨fun _ _ _ _ h => h.elim, fun _ _ _ _ _ _ _ _ _ _ _ _ _ h => h.elim⟩, hm, F.kp, F.bindsN fun _ _ _ _ _ _ us hl => match us, hl with | [_, _, _], _ => rfl⟩
theorem c_lform_step (T : Bt mg) (k_pick : Cal P w K mg base 1 "_law_pick" spPick) (F : FnP K "_law_form" s_lform f fd) (hm : mg "_law_form" = some (.ref f)) (n : Nat) (k_lform : Cal P w K mg base (n + 1) "_law_form" (spLfA n)) : Cal P w K mg base (n + 1 + 1) "_law_form" (spLform n) := by
  have hnd := sc_lform.nd
  refine cal_mk F hm sc_lform (fun _ _ _ _ _ _ us hl => match us, hl with | [_, _, _], _ => rfl) (fun vs H Q E h => ?_) (fun cdv A outer s H vs Q E hr h => ?_)
  · obtain ⟨p, L, ls, m, rfl, _⟩ := h
    rfl
  · obtain ⟨p, L, ls, m, rfl, hp, eL, nLp, l0, l100, hn, hmn, m100, q⟩ := h
    refine ⟨_, (pss_cons (ps_if (pt_cmpR op_eq (pv 2) pe_int (nomark _))
      (pss_one (ps_ret (pe_tup (pa_cons pe_str (pa_cons (pe_ix (show IxR _ (rIxL K) from ix_list) (pv 1) (pe_cal k_pick hr (by omega) (by rfl) (pa_cons (pv 0) (pa_cons (pe_callB call_len_seq (by rfl) T.m_len (by decide +kernel) (pa_cons (pv 1) pa_nil)) pa_nil))) (fun _ _ => rfl)) pa_nil)))))
      pss_nil)
      (pss_cons (ps_set (i := 3) hnd rfl (by first | exact Or.inl rfl | exact Or.inr rfl) (pe_ix (show IxR _ (rIxL K) from ix_list) (pe_lst (pa_cons pe_str (pa_cons pe_str (pa_cons pe_str (pa_cons pe_str pa_nil))))) (pe_cal k_pick hr (by omega) (by rfl) (pa_cons (pv 0) (pa_cons pe_int pa_nil))) (fun _ _ => rfl)))
      (pss_cons (ps_set (i := 4) hnd rfl (by first | exact Or.inl rfl | exact Or.inr rfl) (pe_cal k_pick hr (by omega) (by rfl) (pa_cons (pv 0) (pa_cons (pv 2) pa_nil))))
      (pss_one (ps_ret (pe_tup (pa_cons (pv 3) (pa_cons (pe_cal k_lform hr (by omega) (by rfl) (pa_cons (pv 0) (pa_cons (pv 1) (pa_cons (pv 4) pa_nil)))) (pa_cons (pe_cal k_lform hr (by omega) (by rfl) (pa_cons (pv 0) (pa_cons (pv 1) (pa_cons (pe_op op_sub (pe_op op_sub (pv 2) pe_int) (pv 4)) pa_nil)))) pa_nil))))))))), ?_⟩
    refine ⟨_, rfl, rfl, _, rfl, ?_⟩
    by_cases c : m = 0
    · subst c
      refine iteT2 (decide_eq_true rfl) ?_
      refine ⟨_, rfl, _, rfl, _, rfl, L, _, rfl, .inl (SqL.of eL), p, (ls.map nmV).length, rfl, hp, by rw [List.length_map]; exact l0, ?_, fun k H1 hk b1 pk1 => ?_⟩
      · rw [List.length_map]
        exact Nat.lt_of_le_of_lt l100 (by decide)
      · rw [List.length_map] at hk
        obtain ⟨l, hl, el⟩ := name_at hk
        refine ⟨L, _, _, .str (S l), rfl, rfl, SqL.of (b1 _ _ nLp eL), atI_nat el, Nat.le_of_ble_eq_true rfl, fun R nR => ?_⟩
        exact q _ (.lt l) _ (b1.trans (SameB.of (same_new nR))) (pk1.same (same_new nR)) (.lt (by rw [upd_same, cons_S])) (hn l hl) rfl
    · refine iteN2 (decide_eq_false fun e => c (by injection e with e; omega)) ?_
      cases n with
      | zero => omega
      | succ n =>
        have m200 : m < 2 ^ 200 := Nat.lt_of_le_of_lt m100 (by decide)
        refine ⟨Nat.le_of_ble_eq_true rfl, fun W nW => ?_⟩
        have sW := same_new (o := .lst sign4) nW
        have eW := upd_same (H := H) (a := W) (o := .lst sign4)
        have nWp := hp.ne nW
        refine ⟨_, rfl, p, 4, rfl, hp.same sW, by decide, by decide, fun k G1 hk b1 pk1 => ?_⟩
        obtain ⟨s0, hs0, es⟩ := sign4_at k hk
        refine ⟨W, sign4, _, _, rfl, rfl, SqL.of (b1 _ _ nWp eW), atI_nat es, gname_go ?_⟩
        try dsimp only
        have b01 : SameB p H G1 := (SameB.of sW).trans b1
        refine ⟨_, rfl, _, rfl, p, m, rfl, pk1, by omega, m200, fun j G2 hj b2 pk2 => gname_go ?_⟩
        try dsimp only
        have b02 := b01.trans b2
        refine ⟨_, rfl, _, rfl, _, rfl, _, rfl, p, L, ls, j, rfl, pk2, b02 _ _ nLp eL, nLp, l0, l100, hn, by omega, by omega, fun v1 f1 G3 b3 pk3 t1 ok1 o1 => ?_⟩
        have b03 := b02.trans b3
        refine ⟨_, rfl, _, rfl, _, rfl, _, _, rfl, rfl, _, rfl, _, _, rfl, rfl, p, L, ls, m - 1 - j, by rw [show ((m - 1 - j : Nat) : Int) = (m : Int) - 1 - (j : Int) by omega]; rfl, pk3, b03 _ _ nLp eL, nLp, l0, l100, hn, by omega, by omega, fun v2 f2 G4 b4 pk4 t2 ok2 o2 => ?_⟩
        have b04 := b03.trans b4
        refine ⟨Nat.le_of_ble_eq_true rfl, fun R nR => ?_⟩
        have sR := same_new (o := .tup [.str (S (sgL s0)), v1, v2]) nR
        exact q _ (.op s0 f1 f2) _ (b04.trans (SameB.of sR)) (pk4.same sR) (.op upd_same ((t1.B pk3 b4).same sR) (t2.same sR)) (Fm.ok_mk hs0 ok1 ok2) (by simp only [Fm.ops]; omega)
theorem c_lform (T : Bt mg) (k_pick : Cal P w K mg base 1 "_law_pick" spPick) (F : FnP K "_law_form" s_lform f fd) (hm : mg "_law_form" = some (.ref f)) : ∀ n, Cal P w K mg base (n + 1 + 1) "_law_form" (spLform n)
  | 0 => c_lform_step T k_pick F hm 0 (c_lform_false F hm)
  | n + 1 => c_lform_step T k_pick F hm (n + 1) (c_lform T k_pick F hm n)
theorem c_lmade_false (F : FnP K "_law_made" s_lmade f fd) (hm : mg "_law_made" = some (.ref f)) : Cal P w K mg base 10 "_law_made" (spLzA FC 0) :=
  ⟨f, fd, ["_law_form_here"], ⟨fun _ _ _ _ h => h.elim, fun _ _ _ _ _ _ _ _ _ _ _ _ _ h => h.elim⟩, hm, F.kp, F.bindsN fun _ _ _ _ _ _ us hl => match us, hl with | [_], _ => rfl⟩
theorem c_lmade_step (T : Bt mg) (FF : FoF K mg FC) (sfF : PySem.W.selfFirst K FC = true) (MU : BinM P w K mg base FC CNotAFormula CTooMany .Mult 0) (FD : BinM P w K mg base FC CNotAFormula CTooMany .FloorDiv 1) (RS : BinM P w K mg base FC CNotAFormula CTooMany .RShift 2)
    (x_letter : CalX P w K mg base 8 "letter" (spLetter K FC CInvalidName)) (F : FnP K "_law_made" s_lmade f fd) (hm : mg "_law_made" = some (.ref f)) (n : Nat) (k_lmade : Cal P w K mg base (10 + n) "_law_made" (spLzA FC n)) : Cal P w K mg base (10 + n + 1) "_law_made" (spLmade FC n) := by
  have hnd := sc_lmade.nd
  obtain ⟨fm, fdm, hsM, hfM, hrM, Fm_, Bm⟩ := MU
  obtain ⟨fv, fdv, hsD, hfD, hrD, Fd_, Bd_⟩ := FD
  obtain ⟨fq, fdq, hsR, hfR, hrR, Fr_, Br⟩ := RS
  refine cal_mk F hm sc_lmade (fun _ _ _ _ _ _ us hl => match us, hl with | [_], _ => rfl) (fun vs H Q E h => ?_) (fun cdv A outer s H vs Q E hr h => ?_)
  · obtain ⟨v, f0, rfl, _⟩ := h
    rfl
  · obtain ⟨v, f0, rfl, ht, okf, o8, hd, q⟩ := h
    refine ⟨_, (pss_cons (ps_if (pt_cmpR op_eq (pe_ix (show IxR _ (rIxT K) from ix_tup) (pv 0) pe_int (fun _ _ => rfl)) pe_str (nomark _))
      (pss_one (ps_ret (pe_calX x_letter hr (by omega) (by rfl) pass_none (pa_cons (pe_ix (show IxR _ (rIxT K) from ix_tup) (pv 0) pe_int (fun _ _ => rfl)) pa_nil))))
      pss_nil)
      (pss_cons (ps_par (i := 1) (j := 2) (by rfl) hnd rfl rfl (by decide) (by rfl) (by rfl) (pa_cons (pe_cal k_lmade hr (by omega) (by rfl) (pa_cons (pe_ix (show IxR _ (rIxT K) from ix_tup) (pv 0) pe_int (fun _ _ => rfl)) pa_nil)) (pa_cons (pe_cal k_lmade hr (by omega) (by rfl) (pa_cons (pe_ix (show IxR _ (rIxT K) from ix_tup) (pv 0) pe_int (fun _ _ => rfl)) pa_nil)) pa_nil)) (by rfl))
      (pss_cons (ps_if (pt_cmpR op_eq (pe_ix (show IxR _ (rIxT K) from ix_tup) (pv 0) pe_int (fun _ _ => rfl)) pe_str (nomark _))
      (pss_one (ps_ret (pe_op (show OpR _ (binaryOp .Mult) (rOwnBinA K FC .Mult (spFop 0 K FC CNotAFormula CTooMany) L2.E0) from op_ownBinA Fm_ (hr.mono (by omega)) sfF hsM hfM hrM Bm pass_none) (pv 1) (pv 2))))
      pss_nil)
      (pss_one (ps_ret (pe_ifExp (pt_cmpR op_eq (pe_ix (show IxR _ (rIxT K) from ix_tup) (pv 0) pe_int (fun _ _ => rfl)) pe_str (nomark _)) (pe_op (show OpR _ (binaryOp .FloorDiv) (rOwnBinA K FC .FloorDiv (spFop 1 K FC CNotAFormula CTooMany) L2.E0) from op_ownBinA Fd_ (hr.mono (by omega)) sfF hsD hfD hrD Bd_ pass_none) (pv 1) (pv 2)) (pe_op (show OpR _ (binaryOp .RShift) (rOwnBinA K FC .RShift (spFop 2 K FC CNotAFormula CTooMany) L2.E0) from op_ownBinA Fr_ (hr.mono (by omega)) sfF hsR hfR hrR Br pass_none) (pv 1) (pv 2)))))))), ?_⟩
    cases ht with
    | lt e =>
      rename_i a nm
      refine ⟨_, rfl, a, _, _, .str (S []), rfl, rfl, SqT.of e, atI_nat (j := 0) rfl, rfl, _, rfl, iteT2 (decide_eq_true (by rw [cons_S])) ?_⟩
      exact ⟨_, rfl, a, _, _, .str (S nm), rfl, rfl, SqT.of e, atI_nat (j := 1) rfl, _, rfl, .inl ⟨_, rfl, okf, fun x H' s hx => q x H' s hx⟩⟩
    | op e hl hr_ =>
      rename_i a vl vr s0 l r
      refine ⟨_, rfl, a, _, _, .str (S (sgL s0)), rfl, rfl, SqT.of e, atI_nat (j := 0) rfl, rfl, _, rfl, iteN2 (sgL_no s0) ?_⟩
      obtain ⟨hs0, okl, okr⟩ := Fm.ok_op okf
      simp only [Fm.ops] at o8
      simp only [Fm.dep] at hd
      cases n with
      | zero => omega
      | succ n =>
        refine ⟨_, rfl, a, _, _, vl, rfl, rfl, SqT.of e, atI_nat (j := 1) rfl, vl, l, rfl, hl, okl, by omega, by omega, fun x1 H1 s1 h1 => ?_⟩
        refine ⟨_, rfl, a, _, _, vr, rfl, rfl, SqT.of (s1 _ _ e), atI_nat (j := 2) rfl, vr, r, rfl, hr_.same s1, okr, by omega, by omega, fun x2 H2 s2 h2 => ⟨_, _, rfl, ?_⟩⟩
        try dsimp only
        have h1' := h1.same s2
        have s12 := s1.trans s2
        obtain ⟨d1, f1, e1⟩ := h1'.ins
        refine ⟨_, rfl, a, _, _, .str (S (sgL s0)), rfl, rfl, SqT.of (s12 _ _ e), atI_nat (j := 0) rfl, rfl, _, rfl, ?_⟩
        have c42 : (Str.ofString "*") = S [42] := by decide +kernel
        have c47 : (Str.ofString "//") = S [47, 47] := by decide +kernel
        rw [c42, dec_str]
        have fin : ∀ i : Nat, i = s0 → spFop i K FC CNotAFormula CTooMany [.ref x1, .ref x2] H2 Q E0 := fun i hi => by
          subst hi
          exact ⟨rfl, i, x1, .ref x2, l, rfl, hs0, h1', okl, by omega, .inl ⟨x2, r, rfl, h2, okr, by omega, .inl ⟨by omega, fun x H' s hx => q x H' (s12.trans s) hx⟩⟩⟩
        rcases (show s0 = 0 ∨ s0 = 1 ∨ s0 = 2 by omega) with rfl | rfl | rfl
        · exact iteT2 (by decide +kernel) ⟨_, rfl, _, rfl, x1, d1, f1, .ref FC, rfl, e1, h2.ty FF, .inr (.inl rfl), fin 0 rfl⟩
        · refine iteN2 (by decide +kernel) ?_
          refine ⟨_, rfl, a, _, _, .str (S (sgL 1)), rfl, rfl, SqT.of (s12 _ _ e), atI_nat (j := 0) rfl, rfl, _, rfl, ?_⟩
          rw [c47, dec_str]
          exact iteT2 (by decide +kernel) ⟨_, rfl, _, rfl, x1, d1, f1, .ref FC, rfl, e1, h2.ty FF, .inr (.inl rfl), fin 1 rfl⟩
        · refine iteN2 (by decide +kernel) ?_
          refine ⟨_, rfl, a, _, _, .str (S (sgL 2)), rfl, rfl, SqT.of (s12 _ _ e), atI_nat (j := 0) rfl, rfl, _, rfl, ?_⟩
          rw [c47, dec_str]
          exact iteN2 (by decide +kernel) ⟨_, rfl, _, rfl, x1, d1, f1, .ref FC, rfl, e1, h2.ty FF, .inr (.inl rfl), fin 2 rfl⟩
theorem c_lmade (T : Bt mg) (FF : FoF K mg FC) (sfF : PySem.W.selfFirst K FC = true) (MU : BinM P w K mg base FC CNotAFormula CTooMany .Mult 0) (FD : BinM P w K mg base FC CNotAFormula CTooMany .FloorDiv 1) (RS : BinM P w K mg base FC CNotAFormula CTooMany .RShift 2)
    (x_letter : CalX P w K mg base 8 "letter" (spLetter K FC CInvalidName)) (F : FnP K "_law_made" s_lmade f fd) (hm : mg "_law_made" = some (.ref f)) : ∀ n, Cal P w K mg base (10 + n + 1) "_law_made" (spLmade FC n)
  | 0 => c_lmade_step T FF sfF MU FD RS x_letter F hm 0 (c_lmade_false F hm)
  | n + 1 => c_lmade_step T FF sfF MU FD RS x_letter F hm (n + 1) (c_lmade T FF sfF MU FD RS x_letter F hm n)
end
end L2.K15
set_option Elab.async false
set_option linter.all false
set_option maxRecDepth 100000
set_option maxHeartbeats 4000000
/-! isinstance(e, c) in the suite of an except clause, e an own exception with attributes -/
namespace L2.Tb
open PySem PySem.Spec PyProof.Rows
def rIsCt (K : PySem.W.Frag) (D a : Addr) (cls : Value) (d : Option Addr) : List V → Hp → VK → Prop := fun xs H Q => ∃ (c : V) (cv : Value) (b : Bool) (dd : Addr) (fs : List (Str × V)), xs = [.ref a, c] ∧ cls = .ref D ∧ d = some dd ∧ H dd = some (.xd fs) ∧ (∀ u, RelV c u → u = cv) ∧ PySem.W.kitOne K (.ref D) cv = some b ∧ Q (.bl b) H
theorem relV_ref {C : Addr} : ∀ u, RelV (.ref C) u → u = .ref C := fun u r => by cases r; rfl
theorem call_isCt {X : Cx} {a D : Addr} {oe : Obj} {cls : Value} {d : Option Addr} {pn : List (Addr × Obj)} (C : ExcC X.K D) (hz : Zc cls d oe) (hf : ∃ vs, oe.data = .fields vs) : CallR (X.suite a ((a, oe) :: pn)) (.builtin "isinstance") (rIsCt X.K D a cls d) := by
  intro pins s σ H xs us Q I r h
  obtain ⟨c, cv, b, dd, fs, rfl, rfl, rfl, ed, hcv, e, q⟩ := h
  cases r with
  | cons rx rr =>
    cases rr with
    | cons rt rr =>
      cases rr
      cases rx
      have ec := hcv _ rt
      subst ec
      obtain ⟨hget, _⟩ := I.pin (a, oe) (List.mem_append.mpr (.inl List.mem_cons_self))
      obtain ⟨vs, hv⟩ := hf
      have hx : ObjOk X.prog X.w H s.heap dd (.xd fs) := I.hok dd _ ed
      obtain ⟨mA, hns, hr⟩ := hx
      obtain ⟨od, ho, hl⟩ := lookIn_ns hns
      have J : PySem.W.InstAt s.heap a oe D (some od) := ⟨hget, hz.1, by unfold PySem.W.notCls; rw [hv] <;> rfl, by rw [hz.2]; exact ho⟩
      have hcl : (PySem.W.clsIn X.K D).isSome = true := by
        obtain ⟨cd, hc, _⟩ := PySem.W.any_some C.hd
        rw [hc]
        rfl
      exact PySem.W.kia_one (PySem.W.kitx_exc hcl C.hg C.hk C.hs C.ha C.hn C.ht C.hm) I.kIn J e (fun z => nomatch z) fun tk => ⟨.bl b, H, I.kept (t' := tk) fun _ _ z => z, rfl, q⟩
end L2.Tb
set_option Elab.async false
set_option linter.all false
set_option maxRecDepth 100000
set_option maxHeartbeats 8000000
namespace L2.K15
open PySem PySem.Spec PyProof.Rows L2.Tb
open SX (S)
abbrev s_ltold : Stmt := top 74
abbrev N_ltold : List Str := ["_law_mine", "_law_formula", "_law_contents", "e"]
theorem sc_ltold : FnScope N_ltold ["_law_mine", "_law_formula", "_law_contents"] (defScope s_ltold) := ⟨rfl, rfl, rfl, by decide +kernel, rfl, by decide +kernel, by decide +kernel⟩
/-- a try's body, whatever it wishes -/
theorem pss_ech {X : Cx} {W : WX} {b : List Stmt} {t : XK → TS} (h : ∀ E : XK, (∀ cls d σ' H', E cls d H' → W cls d σ' H') → PSs X b (t E)) : PSs X b (fun D σ H => ∃ E : XK, (∀ cls d σ' H', E cls d H' → W cls d σ' H') ∧ t E D σ H) :=
  ⟨fun pins s σ H D I h' => let ⟨E, hE, q⟩ := h'; (h E hE).run pins s σ H D I q⟩
/-- the errors that the law names -/
structure ToldG (K : PySem.W.Frag) (mg : Str → Option Value) (CF CI CA : Addr) : Prop where
  gF : mg "NotAFormula" = some (.ref CF)
  gI : mg "InvalidContents" = some (.ref CI)
  gA : mg "WrongValue" = some (.ref CA)
  xF : XfC K CF
  xI : XfC K CI
  nF : PySem.W.findIn K (.ref CF) "given" = some none
  nI : PySem.W.findIn K (.ref CI) "index" = some none
  cF : ExcC K CF
  cI : ExcC K CI
  ff : PySem.W.exmOne K (.ref CF) (.ref CF) = some true
  if_ : PySem.W.exmOne K (.ref CI) (.ref CF) = some false
  ii : PySem.W.exmOne K (.ref CI) (.ref CI) = some true
  kF : PySem.W.kitOne K (.ref CF) (.ref CA) = some true
  kI : PySem.W.kitOne K (.ref CI) (.ref CA) = some true
abbrev bpsV : List Str := ["self", "formula", "contents"]
/-- what a beginning's class offers -/
structure BgV (P : Program) (w : World) (K : PySem.W.Frag) (mg : Str → Option Value) (base : Heap) (C BC CK CN CT CC FC CFm CI : Addr) : Prop where
  bf : BgF K mg BC
  mkr : ∃ fi fdi, Mk K BC fi ∧ FnOk P w K mg base (L2.CX P w) 4 fi fdi ["self", "kind", "size", "triples"] (spBinit K C BC CK CN CT CC) ∧ Binds K fdi ["self", "kind", "size", "triples"] []
  va : ∃ f fd, Meth K BC "value" f ∧ FnOk P w K mg base (L2.CX P w) 13 f fd bpsV (spBval K C BC FC CFm CI) ∧ Binds K fd bpsV []
/-- what the value of a formula tells: which contents are not right -/
def spLtold (K : PySem.W.Frag) (C BC FC : Addr) : Sp := fun vs H Q _ => ∃ (a : Addr) (d : Bg) (vf vc : V), vs = [.ref a, vf, vc] ∧ BgAt C BC H a d ∧ d.n ≤ 600 ∧ TOk d.n d.T ∧
  ((NoF K FC H vf ∧ ∀ T H', Same H H' → H' T = some (.tup [.str "formula", vf, .bl true]) → Q (.ref T) H') ∨ ∃ b f, vf = .ref b ∧ FmAt FC H b f ∧ f.ok = true ∧ f.dep ≤ 8 ∧
    ((NoT K H vc ∧ ∀ T H', Same H H' → H' T = some (.tup [.str "contents", .non, .bl true]) → Q (.ref T) H') ∨
     (∃ (q : Addr) (xs : List V) (os : List (Option (List Nat))) (i : Nat), vc = .ref q ∧ H q = some (.tup xs) ∧ Paired (CoV K H d.n) xs os ∧ firstC 0 none os = some i ∧ ∀ T H', Same H H' → H' T = some (.tup [.str "contents", .int (i : Nat), .bl true]) → Q (.ref T) H') ∨
     (∃ (q : Addr) (ps : List (List Nat × Nat)), vc = .ref q ∧ ConAt H q ps ∧ ConOk d.n ps ∧ ps.length ≤ 1000 ∧ ∀ T H', Same H H' → H' T = some (.tup [.str "told", .non, .bl true]) → Q (.ref T) H')))
section
variable {P : Program} {w : World} {K : PySem.W.Frag} {mg : Str → Option Value} {base : Heap} {f : Addr} {fd : FuncData} {C BC CK CN CT CC FC CF CI CA : Addr}
theorem c_ltold (T : Bt mg) (BM' : BgV P w K mg base C BC CK CN CT CC FC CF CI) (TG : ToldG K mg CF CI CA) (F : FnP K "_law_told" s_ltold f fd) (hm : mg "_law_told" = some (.ref f)) : Cal P w K mg base 14 "_law_told" (spLtold K C BC FC) := by
  have hnd := sc_ltold.nd
  obtain ⟨BF, -, ⟨fv, fvd, VM, VF9, VB9⟩⟩ := BM'
  refine cal_mk F hm sc_ltold (fun _ _ _ _ _ _ us hl => match us, hl with | [_, _, _], _ => rfl) (fun vs H Q E h => ?_) (fun cdv A outer s H vs Q E hr h => ?_)
  · obtain ⟨a, d, vf, vc, rfl, _⟩ := h
    rfl
  · obtain ⟨a, d, vf, vc, rfl, ba, n6, tok, h⟩ := h
    refine ⟨_, (pss_cons (ps_try_asMany rfl rfl hnd (fun W pn xe tk _ => pss_ech fun E hE => (pss_one (ps_expr (pe_meth (pv 0) BF.cls VM VF9 (hr.mono (by omega)) VB9 .nil (passes_call tk hE) (pa_cons (pv 1) (pa_cons (pv 2) pa_nil))))))
      (.cons (i := 3) (c := .ref CF) rfl rfl ⟨rfl, by decide, .inl TG.gF⟩ (fun a oe cls d pn hz hf => (pss_one (ps_ret (pe_tup (pa_cons pe_str (pa_cons (pe_xf TG.xF TG.nF hz hf (pv 3)) (pa_cons (pe_callB (show CallR _ (.builtin "isinstance") (rIsCt K CF a cls d) from call_isCt TG.cF hz hf) (by rfl) T.m_isinstance (by decide +kernel) (pa_cons (pv 3) (pa_cons (pe_glob (v := .ref CA) (by rfl) TG.gA rfl) pa_nil))) pa_nil)))))))
      (.cons (i := 3) (c := .ref CI) rfl rfl ⟨rfl, by decide, .inl TG.gI⟩ (fun a oe cls d pn hz hf => (pss_one (ps_ret (pe_tup (pa_cons pe_str (pa_cons (pe_xf TG.xI TG.nI hz hf (pv 3)) (pa_cons (pe_callB (show CallR _ (.builtin "isinstance") (rIsCt K CI a cls d) from call_isCt TG.cI hz hf) (by rfl) T.m_isinstance (by decide +kernel) (pa_cons (pv 3) (pa_cons (pe_glob (v := .ref CA) (by rfl) TG.gA rfl) pa_nil))) pa_nil)))))))
      (.stop _))))
      (pss_one (ps_ret (pe_tup (pa_cons pe_str (pa_cons pe_non (pa_cons pe_bl pa_nil))))))), ?_⟩
    obtain ⟨dx, tk, tb, ea, ek, tt⟩ := id ba
    have sl : ∀ {σ' : St}, σ'.length = N_ltold.length → ∃ s0 s1 s2 s3, σ' = [s0, s1, s2, s3] := fun {σ'} hl => by
      match σ', hl with
      | [s0, s1, s2, s3], _ => exact ⟨s0, s1, s2, s3, rfl⟩
    rcases h with ⟨hn, q⟩ | ⟨b, g, rfl, hg, okg, g8, h⟩
    · refine ⟨fun cls dd H1 => cls = .ref CF ∧ ∃ d0, dd = some d0 ∧ H1 d0 = some (.xd [("given", vf)]) ∧ Same H H1, fun cls dd σ' H1 e hl => ?_, _, rfl, a, dx, _, rfl, ea, rfl, _, rfl, _, rfl, a, d, vf, vc, rfl, ba, n6, tok, .inl ⟨hn, fun d1 H' s nd x => ⟨rfl, d1, rfl, x, s⟩⟩⟩
      obtain ⟨s0, s1, s2, s3, rfl⟩ := sl hl
      obtain ⟨rfl, d0, rfl, ed, s9⟩ := e
      refine ⟨true, TG.ff, fun _ a9 na => ?_, fun z => Bool.noConfusion z⟩
      exact ⟨_, rfl, rfl, rfl, d0, _, vf, rfl, ed, rfl, _, rfl, _, _, _, _, _, rfl, rfl, rfl, ed, relV_ref, TG.kF, Nat.le_of_ble_eq_true rfl, fun T nT => q T _ (s9.trans (same_new nT)) upd_same⟩
    rcases h with ⟨hn, q⟩ | ⟨q9, xs, os, i, rfl, e9, pr, fi, q⟩ | ⟨q9, ps, rfl, ca, co, pl, q⟩
    · refine ⟨fun cls dd H1 => cls = .ref CI ∧ ∃ d0, dd = some d0 ∧ H1 d0 = some (.xd [("index", .non)]) ∧ Same H H1, fun cls dd σ' H1 e hl => ?_, _, rfl, a, dx, _, rfl, ea, rfl, _, rfl, _, rfl, a, d, .ref b, vc, rfl, ba, n6, tok, .inr ⟨b, g, rfl, hg, okg, g8, .inl ⟨hn, fun d1 H' s nd x => ⟨rfl, d1, rfl, x, s⟩⟩⟩⟩
      obtain ⟨s0, s1, s2, s3, rfl⟩ := sl hl
      obtain ⟨rfl, d0, rfl, ed, s9⟩ := e
      refine ⟨false, TG.if_, (fun z => Bool.noConfusion z), fun _ => ⟨true, TG.ii, fun _ a9 na => ?_, fun z => Bool.noConfusion z⟩⟩
      exact ⟨_, rfl, rfl, rfl, d0, _, .non, rfl, ed, rfl, _, rfl, _, _, _, _, _, rfl, rfl, rfl, ed, relV_ref, TG.kI, Nat.le_of_ble_eq_true rfl, fun T nT => q T _ (s9.trans (same_new nT)) upd_same⟩
    · refine ⟨fun cls dd H1 => cls = .ref CI ∧ ∃ d0, dd = some d0 ∧ H1 d0 = some (.xd [("index", .int (i : Nat))]) ∧ Same H H1, fun cls dd σ' H1 e hl => ?_, _, rfl, a, dx, _, rfl, ea, rfl, _, rfl, _, rfl, a, d, .ref b, .ref q9, rfl, ba, n6, tok, .inr ⟨b, g, rfl, hg, okg, g8, .inr (.inl ⟨q9, xs, os, i, rfl, e9, pr, fi, fun d1 H' s nd x => ⟨rfl, d1, rfl, x, s⟩⟩)⟩⟩
      obtain ⟨s0, s1, s2, s3, rfl⟩ := sl hl
      obtain ⟨rfl, d0, rfl, ed, s9⟩ := e
      refine ⟨false, TG.if_, (fun z => Bool.noConfusion z), fun _ => ⟨true, TG.ii, fun _ a9 na => ?_, fun z => Bool.noConfusion z⟩⟩
      exact ⟨_, rfl, rfl, rfl, d0, _, .int (i : Nat), rfl, ed, rfl, _, rfl, _, _, _, _, _, rfl, rfl, rfl, ed, relV_ref, TG.kI, Nat.le_of_ble_eq_true rfl, fun T nT => q T _ (s9.trans (same_new nT)) upd_same⟩
    · refine ⟨fun _ _ _ => False, fun _ _ _ _ e => e.elim, _, rfl, a, dx, _, rfl, ea, rfl, _, rfl, _, rfl, a, d, .ref b, .ref q9, rfl, ba, n6, tok, .inr ⟨b, g, rfl, hg, okg, g8, .inr (.inr ⟨q9, ps, rfl, ca, co, pl, fun H1 s1 => ?_⟩)⟩⟩
      exact ⟨Nat.le_of_ble_eq_true rfl, fun T nT => q T _ (s1.trans (same_new nT)) upd_same⟩
end
end L2.K15
set_option Elab.async false
set_option linter.all false
set_option maxRecDepth 100000
set_option maxHeartbeats 8000000
namespace L2.K15
open PySem PySem.Spec PyProof.Rows L2.Tb
open SX (S)
abbrev s_ltext : Stmt := top 67
abbrev N_ltext : List Str := ["_law_form_here"]
theorem sc_ltext : FnScope N_ltext ["_law_form_here"] (defScope s_ltext) := ⟨rfl, rfl, rfl, by decide +kernel, rfl, by decide +kernel, by decide +kernel⟩
def spLtext (n : Nat) : Sp := fun vs H Q _ => ∃ (v : V) (f : Fm), vs = [v] ∧ TrW H v f ∧ f.ok = true ∧ f.ops ≤ 200 ∧ f.dep ≤ n ∧ Q (.str (S f.txt)) H
def spLxA : Nat → Sp
  | 0 => fun _ _ _ _ => False
  | n + 1 => spLtext n
section
variable {P : Program} {w : World} {K : PySem.W.Frag} {mg : Str → Option Value} {base : Heap} {f : Addr} {fd : FuncData}
theorem c_ltext_false (F : FnP K "_law_text" s_ltext f fd) (hm : mg "_law_text" = some (.ref f)) : Cal P w K mg base 0 "_law_text" (spLxA 0) :=
  ⟨f, fd, ["_law_form_here"], ⟨fun _ _ _ _ h => h.elim, fun _ _ _ _ _ _ _ _ _ _ _ _ _ h => h.elim⟩, hm, F.kp, F.bindsN fun _ _ _ _ _ _ us hl => match us, hl with | [_], _ => rfl⟩
theorem c_ltext_step (T : Bt mg) (F : FnP K "_law_text" s_ltext f fd) (hm : mg "_law_text" = some (.ref f)) (n : Nat) (k_ltext : Cal P w K mg base n "_law_text" (spLxA n)) : Cal P w K mg base (n + 1) "_law_text" (spLtext n) := by
  have hnd := sc_ltext.nd
  refine cal_mk F hm sc_ltext (fun _ _ _ _ _ _ us hl => match us, hl with | [_], _ => rfl) (fun vs H Q E h => ?_) (fun cdv A outer s H vs Q E hr h => ?_)
  · obtain ⟨v, f0, rfl, _⟩ := h
    rfl
  · obtain ⟨v, f0, rfl, ht, okf, o2, hd, q⟩ := h
    refine ⟨_, (pss_cons (ps_if (pt_cmpR op_eq (pe_ix (show IxR _ (rIxT K) from ix_tup) (pv 0) pe_int (fun _ _ => rfl)) pe_str (nomark _))
      (pss_one (ps_ret (pe_ix (show IxR _ (rIxT K) from ix_tup) (pv 0) pe_int (fun _ _ => rfl))))
      pss_nil)
      (pss_one (ps_ret (pe_op op_add_str (pe_op op_add_str (pe_op op_add_str (pe_op op_add_str (pe_op op_add_str (pe_op op_add_str pe_str (pe_cal k_ltext hr (by omega) (by rfl) (pa_cons (pe_ix (show IxR _ (rIxT K) from ix_tup) (pv 0) pe_int (fun _ _ => rfl)) pa_nil))) pe_str) (pe_ix (show IxR _ (rIxT K) from ix_tup) (pv 0) pe_int (fun _ _ => rfl))) pe_str) (pe_cal k_ltext hr (by omega) (by rfl) (pa_cons (pe_ix (show IxR _ (rIxT K) from ix_tup) (pv 0) pe_int (fun _ _ => rfl)) pa_nil))) pe_str)))), ?_⟩
    cases ht with
    | lt e =>
      rename_i a nm
      refine ⟨_, rfl, a, _, _, .str (S []), rfl, rfl, SqT.of e, atI_nat (j := 0) rfl, rfl, _, rfl, iteT2 (decide_eq_true (by rw [cons_S])) ?_⟩
      exact ⟨_, rfl, a, _, _, .str (S nm), rfl, rfl, SqT.of e, atI_nat (j := 1) rfl, q⟩
    | op e hl hr_ =>
      rename_i a vl vr s0 l r
      refine ⟨_, rfl, a, _, _, .str (S (sgL s0)), rfl, rfl, SqT.of e, atI_nat (j := 0) rfl, rfl, _, rfl, iteN2 (sgL_no s0) ?_⟩
      have lf := Fm.txt_len _ okf
      obtain ⟨hs0, okl, okr⟩ := Fm.ok_op okf
      simp only [Fm.ops] at o2 lf
      simp only [Fm.dep] at hd
      simp only [Fm.txt, List.length_append, List.length_singleton] at lf
      cases n with
      | zero => omega
      | succ n =>
        have c1 : (Str.ofString "(") = S [40] := by decide +kernel
        have c2 : (Str.ofString " ") = S [32] := by decide +kernel
        have c3 : (Str.ofString ")") = S [41] := by decide +kernel
        simp only [Fm.txt] at q
        refine ⟨_, rfl, a, _, _, vl, rfl, rfl, SqT.of e, atI_nat (j := 1) rfl, vl, l, rfl, hl, okl, by omega, by omega, ?_⟩
        rw [c1]
        refine ⟨_, _, rfl, rfl, by rw [SX.S_len, SX.S_len, sizeLine_eq, List.length_singleton]; omega, ?_⟩
        rw [SX.S_cat, c2]
        refine ⟨_, _, rfl, rfl, by rw [SX.S_len, SX.S_len, sizeLine_eq]; simp only [List.length_append, List.length_singleton]; omega, ?_⟩
        rw [SX.S_cat]
        refine ⟨_, rfl, a, _, _, .str (S (sgL s0)), rfl, rfl, SqT.of e, atI_nat (j := 0) rfl, _, _, rfl, rfl, by rw [SX.S_len, SX.S_len, sizeLine_eq]; simp only [List.length_append, List.length_singleton]; omega, ?_⟩
        rw [SX.S_cat]
        refine ⟨_, _, rfl, rfl, by rw [SX.S_len, SX.S_len, sizeLine_eq]; simp only [List.length_append, List.length_singleton]; omega, ?_⟩
        rw [SX.S_cat]
        refine ⟨_, rfl, a, _, _, vr, rfl, rfl, SqT.of e, atI_nat (j := 2) rfl, vr, r, rfl, hr_, okr, by omega, by omega, ?_⟩
        refine ⟨_, _, rfl, rfl, by rw [SX.S_len, SX.S_len, sizeLine_eq]; simp only [List.length_append, List.length_singleton]; omega, ?_⟩
        rw [SX.S_cat, c3]
        refine ⟨_, _, rfl, rfl, by rw [SX.S_len, SX.S_len, sizeLine_eq]; simp only [List.length_append, List.length_singleton]; omega, ?_⟩
        rw [SX.S_cat]
        exact q
theorem c_ltext (T : Bt mg) (F : FnP K "_law_text" s_ltext f fd) (hm : mg "_law_text" = some (.ref f)) : ∀ n, Cal P w K mg base (n + 1) "_law_text" (spLtext n)
  | 0 => c_ltext_step T F hm 0 (c_ltext_false F hm)
  | n + 1 => c_ltext_step T F hm (n + 1) (c_ltext T F hm n)
end
abbrev s_lbent : Stmt := top 75
abbrev N_lbent : List Str := ["_law_purse_here", "_law_pair", "_law_size", "_law_name", "_law_thing", "_law_odd", "_law_bad", "_law_rows"]
theorem sc_lbent : FnScope N_lbent ["_law_purse_here", "_law_pair", "_law_size"] (defScope s_lbent) := ⟨rfl, rfl, rfl, by decide +kernel, rfl, by decide +kernel, by decide +kernel⟩
/-- no thing below n -/
inductive OddT (H : Hp) (n : Nat) : V → Prop
  | non : OddT H n .non
  | int {i : Int} (h : ¬(0 ≤ i ∧ i < (n : Int))) : OddT H n (.int i)
  | str {z : Str} : OddT H n (.str z)
  | bl (b : Bool) : OddT H n (.bl b)
  | tup {q : Addr} {xs : List V} (e : H q = some (.tup xs)) : OddT H n (.ref q)
  | lst {q : Addr} {xs : List V} (e : H q = some (.lst xs)) (hp : True) : OddT H n (.ref q)
theorem OddT.mono {H H' : Hp} {n : Nat} {v : V} (h : OddT H n v) (k1 : ∀ q xs, v = .ref q → H q = some (.tup xs) → H' q = some (.tup xs)) (k2 : ∀ q xs, v = .ref q → H q = some (.lst xs) → H' q = some (.lst xs)) : OddT H' n v := by
  cases h with
  | non => exact .non
  | int h => exact .int h
  | str => exact .str
  | bl b => exact .bl b
  | tup e => exact .tup (k1 _ _ rfl e)
  | lst e _ => exact .lst (k2 _ _ rfl e) trivial
theorem OddT.same {H H' : Hp} {n : Nat} {v : V} (h : OddT H n v) (s : Same H H') : OddT H' n v := h.mono (fun _ _ _ e => s _ _ e) fun _ _ _ e => s _ _ e
theorem OddT.B {H H' : Hp} {p : Addr} {n : Nat} {v : V} (h : OddT H n v) (hv : v ≠ .ref p) (s : SameB p H H') : OddT H' n v := h.mono (fun q _ e1 e => s _ _ (fun z => hv (by rw [e1, z])) e) fun q _ e1 e => s _ _ (fun z => hv (by rw [e1, z])) e
theorem OddT.th {K : PySem.W.Frag} {H : Hp} {n : Nat} {v : V} (h : OddT H n v) : IsTh K H n v false := by
  cases h with
  | non => exact .inr ⟨noI_non, rfl⟩
  | int h => exact .inl ⟨_, rfl, (decide_eq_false h).symm⟩
  | str => exact .inr ⟨⟨"str", .base (.str _), .inl (by decide +kernel)⟩, rfl⟩
  | bl b => exact .inr ⟨⟨"bool", .base (.bl b), .inr ⟨by decide +kernel, by decide +kernel⟩⟩, rfl⟩
  | tup e => exact .inr ⟨⟨"tuple", .base (.tup e), .inl (by decide +kernel)⟩, rfl⟩
  | lst e _ => exact .inr ⟨⟨"list", .base (.lst e), .inl (by decide +kernel)⟩, rfl⟩
/-- no name -/
inductive BadT (H : Hp) : V → Prop
  | str {l : List Nat} (h : nameB l = false) (hl : l.length ≤ 100) : BadT H (.str (S l))
  | non : BadT H .non
  | int (i : Int) : BadT H (.int i)
  | tup {q : Addr} {xs : List V} (e : H q = some (.tup xs)) : BadT H (.ref q)
theorem BadT.same {H H' : Hp} {v : V} (h : BadT H v) (s : Same H H') : BadT H' v := by
  cases h with
  | str h hl => exact .str h hl
  | non => exact .non
  | int i => exact .int i
  | tup e => exact .tup (s _ _ e)
theorem BadT.nm {K : PySem.W.Frag} {H : Hp} {v : V} (h : BadT H v) : NmV K H v none := by
  cases h with
  | str h hl => exact .inl ⟨_, rfl, by omega, by rw [h]; rfl⟩
  | non => exact .inr ⟨⟨_, .base .non, kit_ty (by decide +kernel : kitB "NoneType" "str" = some false)⟩, rfl⟩
  | int i => exact .inr ⟨⟨_, .base (.int i), kit_ty (by decide +kernel : kitB "int" "str" = some false)⟩, rfl⟩
  | tup e => exact .inr ⟨⟨_, .base (.tup e), kit_ty (by decide +kernel : kitB "tuple" "str" = some false)⟩, rfl⟩
def bad9 (q : Addr) : List V := [.str (Str.ofString ""), .str (Str.ofString "A"), .str (Str.ofString "9a"), .str (Str.ofString "abcdefghi"), .non, .int 7, .ref q, .str (Str.ofString "a b"), .str (Str.ofString "a-")]
theorem badS {H : Hp} (z : Str) (h : nameB z.cps.toList = false) (hl : z.cps.toList.length ≤ 100) : BadT H (.str z) := by
  rw [str_S z]
  exact .str h hl
def spLbent (K : PySem.W.Frag) : Sp := fun vs H Q _ => ∃ (p pr : Addr) (m : List Nat) (k n : Nat), vs = [.ref p, .ref pr, .int (n : Int)] ∧ Pk H p ∧ H pr = some (.tup [.str (S m), .int (k : Int)]) ∧ nameB m = true ∧ k < n ∧ n ≤ 600 ∧ ∀ v H', SameB p H H' → Pk H' p → CoV K H' n v none → Q v H'
section
variable {P : Program} {w : World} {K : PySem.W.Frag} {mg : Str → Option Value} {base : Heap} {f : Addr} {fd : FuncData}
theorem c_lbent (T : Bt mg) (k_pick : Cal P w K mg base 1 "_law_pick" spPick) (F : FnP K "_law_bent" s_lbent f fd) (hm : mg "_law_bent" = some (.ref f)) : Cal P w K mg base 2 "_law_bent" (spLbent K) := by
  have hnd := sc_lbent.nd
  refine cal_mk F hm sc_lbent (fun _ _ _ _ _ _ us hl => match us, hl with | [_, _, _], _ => rfl) (fun vs H Q E h => ?_) (fun cdv A outer s H vs Q E hr h => ?_)
  · obtain ⟨p, pr, m, k, n, rfl, _⟩ := h
    rfl
  · obtain ⟨p, pr, m, k, n, rfl, hp, ep, hm, hk, hn, q⟩ := h
    refine ⟨_, (pss_cons (ps_asg (pv 1) (pg_tup (by rfl) (pgs_cons (pg_name (i := 3) hnd rfl (by first | exact Or.inl rfl | exact Or.inr rfl)) (pgs_cons (pg_name (i := 4) hnd rfl (by first | exact Or.inl rfl | exact Or.inr rfl)) pgs_nil))))
      (pss_cons (ps_set (i := 5) hnd rfl (by first | exact Or.inl rfl | exact Or.inr rfl) (pe_ix (show IxR _ (rIxL K) from ix_list) (pe_lst (pa_cons (pv 2) (pa_cons (pe_un un_neg pe_int) (pa_cons pe_non (pa_cons pe_str (pa_cons pe_bl (pa_cons (pe_tup (pa_cons pe_int pa_nil)) (pa_cons (pe_lst (pa_cons pe_int pa_nil)) (pa_cons (pe_op op_pow pe_int pe_int) pa_nil))))))))) (pe_cal k_pick hr (by omega) (by rfl) (pa_cons (pv 0) (pa_cons pe_int pa_nil))) (fun _ _ => rfl)))
      (pss_cons (ps_set (i := 6) hnd rfl (by first | exact Or.inl rfl | exact Or.inr rfl) (pe_ix (show IxR _ (rIxL K) from ix_list) (pe_lst (pa_cons pe_str (pa_cons pe_str (pa_cons pe_str (pa_cons pe_str (pa_cons pe_non (pa_cons pe_int (pa_cons (pe_tup (pa_cons pe_str pa_nil)) (pa_cons pe_str (pa_cons pe_str pa_nil)))))))))) (pe_cal k_pick hr (by omega) (by rfl) (pa_cons (pv 0) (pa_cons pe_int pa_nil))) (fun _ _ => rfl)))
      (pss_cons (ps_set (i := 7) hnd rfl (by first | exact Or.inl rfl | exact Or.inr rfl) (pe_lst (pa_cons (pe_tup (pa_cons (pv 3) (pa_cons (pv 5) pa_nil))) (pa_cons (pe_tup (pa_cons (pv 6) (pa_cons (pv 4) pa_nil))) (pa_cons (pe_tup (pa_cons (pv 6) (pa_cons (pv 5) pa_nil))) (pa_cons (pe_tup (pa_cons (pv 3) pa_nil)) (pa_cons (pe_tup (pa_cons (pv 3) (pa_cons (pv 4) (pa_cons (pv 4) pa_nil)))) (pa_cons (pe_lst (pa_cons (pv 3) (pa_cons (pv 4) pa_nil))) (pa_cons pe_non (pa_cons (pv 3) pa_nil))))))))))
      (pss_one (ps_ret (pe_ix (show IxR _ (rIxL K) from ix_list) (pv 7) (pe_cal k_pick hr (by omega) (by rfl) (pa_cons (pv 0) (pa_cons pe_int pa_nil))) (fun _ _ => rfl)))))))), ?_⟩
    refine ⟨_, rfl, pr, _, rfl, SqT.of ep, rfl, _, _, rfl, _, _, rfl, rfl, ?_⟩
    try dsimp only
    refine asg_all (fun v G => OddT G n v ∧ v ≠ .ref p ∧ SameB p H G ∧ Pk G p) (fun Q9 hQ => ?_) ?_
    · refine ⟨_, rfl, _, rfl, Nat.le_of_ble_eq_true rfl, fun T1 nT1 => ⟨Nat.le_of_ble_eq_true rfl, fun L9 nL9 => ⟨_, _, rfl, rfl, ⟨by decide, by decide, by decide⟩, Nat.le_of_ble_eq_true rfl, fun LL nLL => ?_⟩⟩⟩
      have y1 := same_new (o := .tup [.int 0]) nT1
      have y2 := same_new (o := .lst [.int 0]) nL9
      have y3 := same_new (o := .lst [V.int (n : Int), .int (-1), .non, .str "0", .bl true, .ref T1, .ref L9, .int (10 ^ 21)]) nLL
      have eT1 := y3 _ _ (y2 _ _ (upd_same (H := H) (a := T1) (o := .tup [.int 0])))
      have eL9 := y3 _ _ (upd_same (H := upd H T1 (.tup [.int 0])) (a := L9) (o := .lst [.int 0]))
      have eLL := upd_same (H := upd (upd H T1 (.tup [.int 0])) L9 (.lst [.int 0])) (a := LL) (o := .lst [V.int (n : Int), .int (-1), .non, .str "0", .bl true, .ref T1, .ref L9, .int (10 ^ 21)])
      have y := (y1.trans y2).trans y3
      have nT1p : T1 ≠ p := hp.ne nT1
      have nL9p : L9 ≠ p := (hp.same y1).ne nL9
      have nLp : LL ≠ p := ((hp.same y1).same y2).ne nLL
      show tCall spPick [] E0 _ _ (upd (upd (upd H T1 (.tup [.int 0])) L9 (.lst [.int 0])) LL (.lst [V.int (n : Int), .int (-1), .non, .str "0", .bl true, .ref T1, .ref L9, .int (10 ^ 21)])) _
      generalize upd (upd (upd H T1 (.tup [.int 0])) L9 (.lst [.int 0])) LL (.lst [V.int (n : Int), .int (-1), .non, .str "0", .bl true, .ref T1, .ref L9, .int (10 ^ 21)]) = G1 at eT1 eL9 eLL y ⊢
      have pkG := hp.same y
      refine ⟨_, rfl, p, 8, rfl, pkG, by decide, by decide, fun j G2 hj c2 pk2 => ?_⟩
      have eT2 := c2 _ _ nT1p eT1
      have eL2 := c2 _ _ nL9p eL9
      have ok : ∃ v, [V.int (n : Int), .int (-1), .non, .str "0", .bl true, .ref T1, .ref L9, .int (10 ^ 21)][j]? = some v ∧ OddT G2 n v ∧ v ≠ .ref p := match j, hj with
        | 0, _ => ⟨_, rfl, .int (by omega), fun z => by cases z⟩
        | 1, _ => ⟨_, rfl, .int (by omega), fun z => by cases z⟩
        | 2, _ => ⟨_, rfl, .non, fun z => by cases z⟩
        | 3, _ => ⟨_, rfl, .str, fun z => by cases z⟩
        | 4, _ => ⟨_, rfl, .bl true, fun z => by cases z⟩
        | 5, _ => ⟨_, rfl, .tup eT2, fun z => nT1p (by injection z)⟩
        | 6, _ => ⟨_, rfl, .lst eL2 trivial, fun z => nL9p (by injection z)⟩
        | 7, _ => ⟨_, rfl, .int (by omega), fun z => by cases z⟩
        | j + 8, h => absurd h (by omega)
      obtain ⟨v, hv, od, nv⟩ := ok
      exact ⟨LL, _, _, v, rfl, rfl, SqL.of (c2 _ _ nLp eLL), atI_nat hv, hQ _ _ ⟨od, nv, (SameB.of y).trans c2, pk2⟩⟩
    rintro vo G1 ⟨od, nvp, b1, pk1⟩
    refine gname_go ?_
    try dsimp only
    refine asg_all (fun v G => BadT G v ∧ SameB p G1 G ∧ Pk G p) (fun Q9 hQ => ?_) ?_
    · refine ⟨Nat.le_of_ble_eq_true rfl, fun T1 nT1 => ⟨Nat.le_of_ble_eq_true rfl, fun LL nLL => ?_⟩⟩
      have y1 := same_new (o := .tup [.str (Str.ofString "a")]) nT1
      have y3 := same_new (o := .lst (bad9 T1)) nLL
      have eT1 := y3 _ _ (upd_same (H := G1) (a := T1) (o := .tup [.str (Str.ofString "a")]))
      have eLL := upd_same (H := upd G1 T1 (.tup [.str (Str.ofString "a")])) (a := LL) (o := .lst (bad9 T1))
      have y := y1.trans y3
      have nT1p : T1 ≠ p := pk1.ne nT1
      have nLp : LL ≠ p := (pk1.same y1).ne nLL
      show tCall spPick [] E0 _ _ (upd (upd G1 T1 (.tup [.str (Str.ofString "a")])) LL (.lst (bad9 T1))) _
      generalize upd (upd G1 T1 (.tup [.str (Str.ofString "a")])) LL (.lst (bad9 T1)) = G2 at eT1 eLL y ⊢
      have pkG := pk1.same y
      refine ⟨_, rfl, p, 9, rfl, pkG, by decide, by decide, fun j G3 hj c2 pk2 => ?_⟩
      have eT2 := c2 _ _ nT1p eT1
      have ok : ∃ v, (bad9 T1)[j]? = some v ∧ BadT G3 v := match j, hj with
        | 0, _ => ⟨_, rfl, badS _ (by decide +kernel) (by decide +kernel)⟩
        | 1, _ => ⟨_, rfl, badS _ (by decide +kernel) (by decide +kernel)⟩
        | 2, _ => ⟨_, rfl, badS _ (by decide +kernel) (by decide +kernel)⟩
        | 3, _ => ⟨_, rfl, badS _ (by decide +kernel) (by decide +kernel)⟩
        | 4, _ => ⟨_, rfl, .non⟩
        | 5, _ => ⟨_, rfl, .int 7⟩
        | 6, _ => ⟨_, rfl, .tup eT2⟩
        | 7, _ => ⟨_, rfl, badS _ (by decide +kernel) (by decide +kernel)⟩
        | 8, _ => ⟨_, rfl, badS _ (by decide +kernel) (by decide +kernel)⟩
        | j + 9, h => absurd h (by omega)
      obtain ⟨v, hv, bd⟩ := ok
      exact ⟨LL, _, _, v, rfl, rfl, SqL.of (c2 _ _ nLp eLL), atI_nat hv, hQ _ _ ⟨bd, (SameB.of y).trans c2, pk2⟩⟩
    rintro vb G2 ⟨bd, b2, pk2⟩
    refine gname_go ?_
    try dsimp only
    have od2 := od.B nvp b2
    have b02 := b1.trans b2
    have pair0 : ∀ {G : Hp} {R : Addr} {x y : V} {o : Option (List Nat)} {b : Bool}, G R = some (.tup [x, y]) → NmV K G x o → IsTh K G n y b → (b = false ∨ o = none) → CoV K G n (.ref R) none := fun {G R x y o b} e hx hy h => by
      have := CoV.pair e hx hy
      rcases h with rfl | rfl
      · rwa [if_neg (by decide)] at this
      · cases b with
        | true => rwa [if_pos rfl] at this
        | false => rwa [if_neg (by decide)] at this
    have nmS : ∀ {G : Hp}, NmV K G (.str (S m)) (some m) := fun {G} => .inl ⟨m, rfl, by have := (nameB_len hm).2; omega, by rw [hm]; rfl⟩
    refine ⟨_, rfl, _, rfl, Nat.le_of_ble_eq_true rfl, fun R0 n0 => ⟨_, rfl, _, rfl, Nat.le_of_ble_eq_true rfl, fun R1 n1 => ⟨_, rfl, _, rfl, Nat.le_of_ble_eq_true rfl, fun R2 n2 => ⟨_, rfl, Nat.le_of_ble_eq_true rfl, fun R3 n3 => ⟨_, rfl, _, rfl, _, rfl, Nat.le_of_ble_eq_true rfl, fun R4 n4 => ⟨_, rfl, _, rfl, Nat.le_of_ble_eq_true rfl, fun R5 n5 => ⟨_, rfl, Nat.le_of_ble_eq_true rfl, fun LL nLL => ?_⟩⟩⟩⟩⟩⟩⟩
    have s0 := same_new (o := .tup [.str (S m), vo]) n0
    have e0 := upd_same (H := G2) (a := R0) (o := .tup [.str (S m), vo])
    have s1 := same_new (o := .tup [vb, .int (k : Int)]) n1
    have e1 := upd_same (H := (upd G2 R0 (.tup [.str (S m), vo]))) (a := R1) (o := .tup [vb, .int (k : Int)])
    have s2 := same_new (o := .tup [vb, vo]) n2
    have e2 := upd_same (H := (upd (upd G2 R0 (.tup [.str (S m), vo])) R1 (.tup [vb, .int (k : Int)]))) (a := R2) (o := .tup [vb, vo])
    have s3 := same_new (o := .tup [.str (S m)]) n3
    have e3 := upd_same (H := (upd (upd (upd G2 R0 (.tup [.str (S m), vo])) R1 (.tup [vb, .int (k : Int)])) R2 (.tup [vb, vo]))) (a := R3) (o := .tup [.str (S m)])
    have s4 := same_new (o := .tup [.str (S m), .int (k : Int), .int (k : Int)]) n4
    have e4 := upd_same (H := (upd (upd (upd (upd G2 R0 (.tup [.str (S m), vo])) R1 (.tup [vb, .int (k : Int)])) R2 (.tup [vb, vo])) R3 (.tup [.str (S m)]))) (a := R4) (o := .tup [.str (S m), .int (k : Int), .int (k : Int)])
    have s5 := same_new (o := .lst [.str (S m), .int (k : Int)]) n5
    have e5 := upd_same (H := (upd (upd (upd (upd (upd G2 R0 (.tup [.str (S m), vo])) R1 (.tup [vb, .int (k : Int)])) R2 (.tup [vb, vo])) R3 (.tup [.str (S m)])) R4 (.tup [.str (S m), .int (k : Int), .int (k : Int)]))) (a := R5) (o := .lst [.str (S m), .int (k : Int)])
    have s6 := same_new (o := .lst [.ref R0, .ref R1, .ref R2, .ref R3, .ref R4, .ref R5, .non, .str (S m)]) nLL
    have e6 := upd_same (H := (upd (upd (upd (upd (upd (upd G2 R0 (.tup [.str (S m), vo])) R1 (.tup [vb, .int (k : Int)])) R2 (.tup [vb, vo])) R3 (.tup [.str (S m)])) R4 (.tup [.str (S m), .int (k : Int), .int (k : Int)])) R5 (.lst [.str (S m), .int (k : Int)]))) (a := LL) (o := .lst [.ref R0, .ref R1, .ref R2, .ref R3, .ref R4, .ref R5, .non, .str (S m)])
    have f0 := s6 _ _ (s5 _ _ (s4 _ _ (s3 _ _ (s2 _ _ (s1 _ _ (e0))))))
    have f1 := s6 _ _ (s5 _ _ (s4 _ _ (s3 _ _ (s2 _ _ (e1)))))
    have f2 := s6 _ _ (s5 _ _ (s4 _ _ (s3 _ _ (e2))))
    have f3 := s6 _ _ (s5 _ _ (s4 _ _ (e3)))
    have f4 := s6 _ _ (s5 _ _ (e4))
    have f5 := s6 _ _ (e5)
    have y := s0.trans (s1.trans (s2.trans (s3.trans (s4.trans (s5.trans s6)))))
    have nR5p : R5 ≠ p := (pk2.same (s0.trans (s1.trans (s2.trans (s3.trans s4))))).ne n5
    have nLp : LL ≠ p := (pk2.same (s0.trans (s1.trans (s2.trans (s3.trans (s4.trans s5)))))).ne nLL
    show gName 7 (.ref LL) _ (upd (upd (upd (upd (upd (upd (upd G2 R0 (.tup [.str (S m), vo])) R1 (.tup [vb, .int (k : Int)])) R2 (.tup [vb, vo])) R3 (.tup [.str (S m)])) R4 (.tup [.str (S m), .int (k : Int), .int (k : Int)])) R5 (.lst [.str (S m), .int (k : Int)])) LL (.lst [.ref R0, .ref R1, .ref R2, .ref R3, .ref R4, .ref R5, .non, .str (S m)])) _
    generalize upd (upd (upd (upd (upd (upd (upd G2 R0 (.tup [.str (S m), vo])) R1 (.tup [vb, .int (k : Int)])) R2 (.tup [vb, vo])) R3 (.tup [.str (S m)])) R4 (.tup [.str (S m), .int (k : Int), .int (k : Int)])) R5 (.lst [.str (S m), .int (k : Int)])) LL (.lst [.ref R0, .ref R1, .ref R2, .ref R3, .ref R4, .ref R5, .non, .str (S m)]) = G3 at f0 f1 f2 f3 f4 f5 e6 y ⊢
    refine gname_go ?_
    try dsimp only
    have od3 := od2.same y
    have bd3 := bd.same y
    have pk3 := pk2.same y
    refine ⟨_, rfl, _, rfl, p, 8, rfl, pk3, by decide, by decide, fun j G4 hj c4 pk4 => ?_⟩
    have kt := tup_keep pk3 c4
    have od4 : IsTh K G4 n vo false := (od3.B nvp c4).th
    have bd4 : NmV K G4 vb none := by
      cases bd3 with
      | str h hl => exact BadT.nm (H := G4) (.str h hl)
      | non => exact BadT.nm (H := G4) .non
      | int i => exact BadT.nm (H := G4) (.int i)
      | tup e => exact BadT.nm (H := G4) (.tup (kt _ _ e))
    have th4 : IsTh K G4 n (.int (k : Int)) true := isTh_nat hk
    have ok : ∃ v, [V.ref R0, .ref R1, .ref R2, .ref R3, .ref R4, .ref R5, .non, .str (S m)][j]? = some v ∧ CoV K G4 n v none := match j, hj with
      | 0, _ => ⟨_, rfl, pair0 (kt _ _ f0) nmS od4 (.inl rfl)⟩
      | 1, _ => ⟨_, rfl, pair0 (kt _ _ f1) bd4 th4 (.inr rfl)⟩
      | 2, _ => ⟨_, rfl, pair0 (kt _ _ f2) bd4 od4 (.inl rfl)⟩
      | 3, _ => ⟨_, rfl, .len (kt _ _ f3) (by simp)⟩
      | 4, _ => ⟨_, rfl, .len (kt _ _ f4) (by simp)⟩
      | 5, _ => ⟨_, rfl, .no ⟨_, .base (.lst (c4 _ _ nR5p f5)), kit_ty (by decide +kernel : kitB "list" "tuple" = some false)⟩⟩
      | 6, _ => ⟨_, rfl, .no ⟨_, .base .non, kit_ty (by decide +kernel : kitB "NoneType" "tuple" = some false)⟩⟩
      | 7, _ => ⟨_, rfl, .no ⟨_, .base (.str _), kit_ty (by decide +kernel : kitB "str" "tuple" = some false)⟩⟩
      | j + 8, h => absurd h (by omega)
    obtain ⟨v, hv, cv⟩ := ok
    exact ⟨LL, _, _, v, rfl, rfl, SqL.of (c4 _ _ nLp e6), atI_nat hv, q v G4 (b02.trans ((SameB.of y).trans c4)) pk4 cv⟩
end
end L2.K15
set_option Elab.async false
set_option linter.all false
set_option maxRecDepth 100000
set_option maxHeartbeats 4000000
/-! y not in x by x's own __contains__; == by one rule or by another -/
namespace L2.Tb
open PySem PySem.Spec PyProof.Rows
section
variable {X : Cx} {C f : Addr} {fd : FuncData} {ps : List Str} {sp : Sp} {k : Nat}
def rOwnNotIn (C : Addr) (sp : Sp) : R2 := fun v y H Q => ∃ (a dx : Addr) (fs : List (Str × V)), y = .ref a ∧ H a = some (.ins C dx fs) ∧ sp [.ref a, v] H (fun r H' => ∃ b, r = .bl b ∧ Q (.bl (!b)) H') E0
theorem op_ownNotIn (F : FnOk X.prog X.w X.K X.mg X.base L2.CX0 k f fd ps sp) (hr : Room k X.A) (hs : PySem.W.findIn X.K (.ref C) "__contains__" = some (some (.ref f))) (hf : PySem.W.isFn X.K (.ref f) = true) (hb : Binds X.K fd ps []) : OpR X (compareOp .NotIn) (rOwnNotIn C sp) := by
  intro pins s σ H x y v u Q I rx ry h
  obtain ⟨a, dx, fs, rfl, ea, h⟩ := h
  obtain rfl : u = Value.ref a := ry
  obtain ⟨mA, O, _⟩ := ins_get I.hok ea
  obtain ⟨od, J, _⟩ := O.look
  obtain ⟨m, hF⟩ := I.fr
  have hl := F.len _ _ _ _ h
  refine PySem.W.notIn_K hF I.ok.mod.kin J hs hf (wpAny_call (codeAny_mono (F.run X.A X.stack s H ⟨[.ref a, v], []⟩ [.ref a, v] [.ref a, x] _ E0 hr I.env0 (by
    have z := hb s [.ref a, v] I.kIn (by simpa using hl)
    simpa using z) (.cons rfl (.cons rx .nil)) h) fun r s' hq => ?_))
  match r, hq with
  | .error e, hq => exact hq.elim
  | .ok (.ret u), hq =>
    obtain ⟨v2, H', I', rv, b, ev, q⟩ := I.after hq
    rw [ev] at rv
    obtain rfl : u = Value.bool b := rv
    exact wpAny_truthy_bool ⟨.bl (!b), H', I', rfl, q⟩
/-- one of two rules -/
theorem op_or2 {op : Value → Value → Sem Value} {r1 r2 : R2} (h1 : OpR X op r1) (h2 : OpR X op r2) : OpR X op (fun x y H Q => r1 x y H Q ∨ r2 x y H Q) := by
  intro pins s σ H x y v u Q I rx ry h
  rcases h with h | h
  · exact h1 pins s σ H x y v u Q I rx ry h
  · exact h2 pins s σ H x y v u Q I rx ry h
end
end L2.Tb
set_option Elab.async false
set_option linter.all false
set_option maxRecDepth 100000
set_option maxHeartbeats 4000000
/-! repr of texts, ints, bools and None, or of data; x is True -/
namespace L2.Tb
open PySem PySem.Spec PyProof.Rows
/-- what repr tells of a plain value -/
inductive ReprV : V → Str → Prop
  | str (x : Str) (h : (reprText x).length ≤ sizeLine) : ReprV (.str x) (reprText x)
  | int (i : Int) (h : i.natAbs.log2 < 1920) : ReprV (.int i) (toString i)
  | bl (b : Bool) : ReprV (.bl b) (if b then "True" else "False")
  | non : ReprV .non "None"
def rReprA (K : PySem.W.Frag) : List V → Hp → VK → Prop := fun vs H Q => rReprD K vs H Q ∨ ∃ v t, vs = [v] ∧ ReprV v t ∧ Q (.str t) H
theorem call_reprA {X : Cx} (hg : X.A.guards = some []) (hu : X.A.units + 64 < cLine) : CallR X (.builtin "repr") (rReprA X.K) := by
  intro pins s σ H vs us Q I r h
  rcases h with h | ⟨v, t, rfl, e, q⟩
  · exact call_reprD hg hu pins s σ H vs us Q I r h
  · obtain ⟨u, rfl, rx⟩ := vals1 r
    cases e with
    | str x hl =>
      obtain ⟨k, rfl⟩ := rx
      exact PySem.P.repr_of_str ⟨.str _, H, I.tok _, ⟨_, rfl⟩, q⟩ hl
    | int i hl =>
      obtain ⟨k, rfl⟩ := rx
      exact PySem.P.repr_of_int hl ⟨.str _, H, I.tok _, ⟨_, rfl⟩, q⟩
    | bl b =>
      cases (show u = Value.bool b from rx)
      exact PySem.P.repr_of_bool ⟨.str _, H, I.tok _, ⟨_, rfl⟩, q⟩
    | non =>
      cases rx
      exact PySem.P.repr_of_none ⟨.str _, H, I.tok _, ⟨_, rfl⟩, q⟩
theorem op_isB {X : Cx} : OpR X (compareOp .Is) (fun x y H Q => ∃ b, y = .bl b ∧ Q (.bl (decide (x = .bl b))) H) := by
  intro pins s σ H x y v u Q I rx ry h
  obtain ⟨b, rfl, q⟩ := h
  cases (show u = Value.bool b from ry)
  by_cases e : x = .bl b
  · subst e
    cases (show v = Value.bool b from rx)
    exact wpAny_is_self rfl ⟨.bl true, H, I, rfl, by simpa using q⟩
  · have q2 : Q (.bl false) H := by simpa [e] using q
    have fin : ∀ {w : Value}, v = w → w ≠ .bool b → (plainIs w (.bool b) = true) → wpAny (model X.prog X.w) X.A (compareOp .Is v (.bool b)) (EP X pins σ Q) X.xe s := fun e1 e2 e3 => by
      rw [e1]
      exact wpAny_is_other e3 e2 ⟨.bl false, H, I, rfl, q2⟩
    cases x with
    | bl c =>
      cases (show v = Value.bool c from rx)
      exact fin rfl (fun z => e (by injection z with z; rw [z])) rfl
    | non => exact fin rx (fun z => nomatch z) rfl
    | ref a => exact fin rx (fun z => nomatch z) rfl
    | ty n => exact fin rx (fun z => nomatch z) rfl
    | int i =>
      obtain ⟨t, e1⟩ := rx
      exact fin e1 (fun z => nomatch z) rfl
    | str i =>
      obtain ⟨t, e1⟩ := rx
      exact fin e1 (fun z => nomatch z) rfl
    | byt i =>
      obtain ⟨t, e1⟩ := rx
      exact fin e1 (fun z => nomatch z) rfl
    | flt i =>
      obtain ⟨t, e1⟩ := rx
      exact fin e1 (fun z => nomatch z) rfl
end L2.Tb
set_option Elab.async false
set_option linter.all false
set_option maxRecDepth 100000
set_option maxHeartbeats 8000000
namespace L2.K15
open PySem PySem.Spec PyProof.Rows L2.Tb
open SX (S)
/-! ### what repr asks of data -/
structure Rp (n w : Nat) (d : PyData) : Prop where
  sh : d.showable = true
  nd : d.hasDict = false
  dp : d.depth ≤ n
  ls : d.leavesShort 40 = true
  bk : d.bulk ≤ w
theorem Rp.up {n w n' w' : Nat} {d : PyData} (h : Rp n w d) (hn : n ≤ n') (hw : w ≤ w') : Rp n' w' d := ⟨h.sh, h.nd, Nat.le_trans h.dp hn, h.ls, Nat.le_trans h.bk hw⟩
/-- what rReprD asks -/
def Rok (d : PyData) : Prop := d.showable = true ∧ d.hasDict = false ∧ d.depth ≤ 60 ∧ d.shown.length ≤ sizeLine
theorem Rp.ok {n w : Nat} {d : PyData} (h : Rp n w d) (hn : n ≤ 60) (hw : w ≤ 300000) : Rok d := by
  refine ⟨h.sh, h.nd, Nat.le_trans h.dp hn, ?_⟩
  have := PyData.shown_le_bulk 40 (by decide) _ h.ls
  have := h.bk
  rw [sizeLine_eq]
  omega
structure RpAll (n w : Nat) (ds : List PyData) : Prop where
  sh : PyData.showableAll ds = true
  nd : PyData.hasDictAll ds = false
  dp : PyData.depthAll ds ≤ n
  ls : PyData.leavesShortAll 40 ds = true
  bk : PyData.bulkAll ds ≤ w
theorem RpAll.nil : RpAll 0 1 [] := ⟨rfl, rfl, by simp [PyData.depthAll], rfl, by simp [PyData.bulkAll]⟩
theorem RpAll.cons {n w m v k : Nat} {d : PyData} {ds : List PyData} (h : Rp n w d) (hs : RpAll m v ds) (hn : n ≤ k) (hm : m ≤ k) : RpAll k (w + v + 1) (d :: ds) := by
  have := h.bk
  have := hs.bk
  have := h.dp
  have := hs.dp
  refine ⟨?_, ?_, ?_, ?_, ?_⟩
  · simp only [PyData.showableAll, h.sh, hs.sh, Bool.and_true]
  · simp only [PyData.hasDictAll, h.nd, hs.nd, Bool.or_false]
  · simp only [PyData.depthAll]; omega
  · simp only [PyData.leavesShortAll, h.ls, hs.ls, Bool.and_true]
  · simp only [PyData.bulkAll]; omega
theorem RpAll.tup {n w : Nat} {ds : List PyData} (h : RpAll n w ds) : Rp (n + 1) (w + 1) (.tuple ds) := by
  have := h.bk
  have := h.dp
  refine ⟨?_, ?_, ?_, ?_, ?_⟩
  · simp only [PyData.showable, h.sh]
  · simp only [PyData.hasDict, h.nd]
  · simp only [PyData.depth]; omega
  · simp only [PyData.leavesShort, h.ls]
  · simp only [PyData.bulk]; omega
theorem RpAll.lst {n w : Nat} {ds : List PyData} (h : RpAll n w ds) : Rp (n + 1) (w + 1) (.list ds) := by
  have := h.bk
  have := h.dp
  refine ⟨?_, ?_, ?_, ?_, ?_⟩
  · simp only [PyData.showable, h.sh]
  · simp only [PyData.hasDict, h.nd]
  · simp only [PyData.depth]; omega
  · simp only [PyData.leavesShort, h.ls]
  · simp only [PyData.bulk]; omega
def rpB (n w : Nat) (d : PyData) : Bool := d.showable && (!d.hasDict && (decide (d.depth ≤ n) && (d.leavesShort 40 && decide (d.bulk ≤ w))))
theorem rpB_ok {n w : Nat} {d : PyData} (h : rpB n w d = true) : Rp n w d := by
  unfold rpB at h
  obtain ⟨h1, h⟩ := He.ba h
  obtain ⟨h2, h⟩ := He.ba h
  obtain ⟨h3, h⟩ := He.ba h
  obtain ⟨h4, h5⟩ := He.ba h
  exact ⟨h1, by simpa using h2, of_decide_eq_true h3, h4, of_decide_eq_true h5⟩
theorem rp_non : Rp 1 9 .none := rpB_ok (by decide +kernel)
theorem rp_bl (b : Bool) : Rp 1 9 (.bool b) := by cases b <;> exact rpB_ok (by decide +kernel)
theorem rp_int {i : Int} (h : -1000000 < i ∧ i < 1000000) : Rp 1 9 (.int i) := by
  have l1 : i.natAbs.log2 < 1920 := by
    have := Nat.log2_le_self i.natAbs
    by_cases z : i.natAbs = 0
    · rw [z]; decide +kernel
    · exact (Nat.log2_lt z).mpr (Nat.lt_of_le_of_lt (m := 2 ^ 20) (by omega) (Nat.pow_lt_pow_right (by decide) (by decide)))
  have l2 : (toString i).length ≤ 8 := PySem.int_text_length_le10 (k := 7) (by decide) (by omega)
  refine ⟨?_, ?_, ?_, ?_, ?_⟩
  · simp only [PyData.showable]
    exact decide_eq_true l1
  · simp only [PyData.hasDict]
  · simp only [PyData.depth]; omega
  · rw [PyData.leavesShort]
    refine decide_eq_true ?_
    show (Str.ofString (toString i)).length ≤ 40
    rw [PySem.ofString_length]
    omega
  · simp only [PyData.bulk]; omega
theorem rp_nat {k : Nat} (h : k < 1000000) : Rp 1 9 (.int (k : Int)) := rp_int ⟨by omega, by omega⟩
mutual
theorem Dp.same {K : PySem.W.Frag} {H H' : Hp} (s : Same H H') : ∀ {v : V} {d : PyData}, Dp K H v d → Dp K H' v d
  | _, _, .non => .non
  | _, _, .bl b => .bl b
  | _, _, .int i => .int i
  | _, _, .str x => .str x
  | _, _, .lst h a => .lst (SqX.same (b := false) h s) (DpAll.same s a)
  | _, _, .tup h a => .tup (SqX.same (b := true) h s) (DpAll.same s a)
theorem DpAll.same {K : PySem.W.Frag} {H H' : Hp} (s : Same H H') : ∀ {vs : List V} {ds : List PyData}, DpAll K H vs ds → DpAll K H' vs ds
  | _, _, .nil => .nil
  | _, _, .cons h a => .cons (Dp.same s h) (DpAll.same s a)
end
theorem nnv (v : V) : (!decide (v = v)) = false := by rw [decide_eq_true rfl]; rfl
theorem eev (v : V) : decide (v = v) = true := decide_eq_true rfl
def tolD (w : Str) (d : PyData) : PyData := .tuple [.str w, d, .bool true]
theorem dp_tol {K : PySem.W.Frag} {H : Hp} {q : Addr} {w : Str} {v : V} {d : PyData} (e : H q = some (.tup [.str w, v, .bl true])) (h : Dp K H v d) : Dp K H (.ref q) (tolD w d) := .tup (SqT.of e) (.cons (.str _) (.cons h (.cons (.bl _) .nil)))
theorem rp_tol {n w : Nat} {d : PyData} {x : Str} (hx : rpB 1 20 (.str x) = true) (h : Rp n w d) (hn : n ≤ 5) (hw : w ≤ 100) : Rp 7 200 (tolD x d) :=
  ((RpAll.cons (k := 6) (rpB_ok hx) (RpAll.cons (k := 6) h (RpAll.cons (k := 6) (rp_bl true) RpAll.nil (by omega) (by omega)) (by omega) (by omega)) (by omega) (by omega)).tup).up (by omega) (by omega)
theorem made_ok {K : PySem.W.Frag} {C CT CF : Addr} {H : Hp} {z : Str} {b : Bool} {Qf : VK} {E : XK} {x dx : Addr} (hz : wordsD.contains z = true) (hx : H x = none) (hdx : H dx = none) (q : ∀ H', Same H H' → KindAt C H' x z b → Qf .non H') :
    spKinit K C CT CF [.ref x, .str z, .bl b] (upd (upd H dx (.own x)) x (.ins C dx [])) Qf E := by
  refine ⟨x, dx, .str z, .bl b, rfl, upd_same, .inl ⟨z, b, rfl, hz, rfl, q _ (fun c o h => ?_) ⟨dx, upd_same⟩⟩⟩
  rw [upd_ne (ne_of_none h hx), upd_ne (ne_of_none h hx), upd_ne (ne_of_none h hx), upd_ne (ne_of_none h hdx)]
  exact h
theorem KindAt.keepL {C : Addr} {H H' : Hp} {a : Addr} {z : Str} {b : Bool} (h : KindAt C H a z b) (s : KeepL H H') : KindAt C H' a z b := let ⟨dx, e⟩ := h; ⟨dx, s _ _ e fun _ z => by cases z⟩
theorem Tabs.keepL {H H' : Hp} {tb : Addr} {T : List Trp} (h : Tabs H tb T) (s : KeepL H H') : Tabs H' tb T := by
  obtain ⟨d0, d1, d2, h0, h1, h2, h3⟩ := h
  exact ⟨d0, d1, d2, s _ _ h0 (fun _ z => by cases z), s _ _ h1 (fun _ z => by cases z), s _ _ h2 (fun _ z => by cases z), s _ _ h3 (fun _ z => by cases z)⟩
theorem BgAt.keepL {C BC : Addr} {H H' : Hp} {a : Addr} {d : Bg} (h : BgAt C BC H a d) (s : KeepL H H') : BgAt C BC H' a d := by
  obtain ⟨dx, tk, tb, h1, h2, h3⟩ := h
  exact ⟨dx, tk, tb, s _ _ h1 (fun _ z => by cases z), h2.keepL s, h3.keepL s⟩
theorem FmAt.keepL {FC : Addr} {H H' : Hp} {a : Addr} {f : Fm} (h : FmAt FC H a f) (s : KeepL H H') : FmAt FC H' a f := h.mono fun b o n e => s b o e fun ys z => by
  rcases n with ⟨_, _, _, rfl, _⟩ | ⟨_, rfl⟩ <;> cases z
theorem TrW.keepL {H H' : Hp} {v : V} {f : Fm} (h : TrW H v f) (s : KeepL H H') : TrW H' v f := h.mono fun b xs e => s b _ e fun _ z => by cases z
/-- what a kind's class offers -/
def KiM (P : Program) (w : World) (K : PySem.W.Frag) (mg : Str → Option Value) (base : Heap) (C CT CF : Addr) : Prop := ∃ fi fdi, Mk K C fi ∧ FnOk P w K mg base (L2.CX P w) 3 fi fdi ["self", "turns", "calm"] (spKinit K C CT CF) ∧ KBn K fdi ["self", "turns", "calm"] 2 ["calm"] (fun us ws => us ++ ws) (fun us ws => us ++ ws)
/-! ### sorted names -/
theorem rising_pw : ∀ (zs : List (List Nat)) (p : List Nat), risingS (S p) (zs.map S) = true → (p :: zs).Pairwise fun a b => a ≤ b
  | [], p, _ => List.pairwise_singleton _ _
  | x :: r, p, h => by
    have h : (!PySem.Spec.ltCps (S x).cps.toList (S p).cps.toList && risingS (S x) (r.map S)) = true := h
    rw [Bool.and_eq_true] at h
    have ih := rising_pw r x h.2
    have hxp : p ≤ x := by
      have h1 := h.1
      rw [cps_S, cps_S, ltCps_eq] at h1
      simpa using h1
    refine List.pairwise_cons.mpr ⟨fun y hy => ?_, ih⟩
    rcases List.mem_cons.mp hy with rfl | hy
    · exact hxp
    · exact List.le_trans hxp ((List.pairwise_cons.mp ih).1 y hy)
theorem sorted_lt {zs : List (List Nat)} (h : sortedS (zs.map S) = true) (nd : zs.Nodup) : zs.Pairwise fun a b => a < b := by
  have h1 : zs.Pairwise fun a b => a ≤ b := by
    cases zs with
    | nil => exact .nil
    | cons x r => exact rising_pw r x h
  refine (List.Pairwise.and h1 nd).imp fun {a b} hab => ?_
  by_cases c : a < b
  · exact c
  · exact absurd (List.le_antisymm hab.1 c) hab.2
theorem cutV_nm {ls : List (List Nat)} {lo hi : Option Int} : ∃ ms : List (List Nat), cutV (ls.map nmV) lo hi = ms.map nmV ∧ (∀ m ∈ ms, m ∈ ls) ∧ ms.length ≤ ls.length := by
  refine ⟨_, by unfold cutV; rw [← List.map_drop, ← List.map_take], fun m hm => List.mem_of_mem_drop (List.mem_of_mem_take hm), ?_⟩
  rw [List.length_take, List.length_drop]
  omega
/-! ### wrong contents -/
theorem first_upto {n : Nat} : ∀ {ps : List (List Nat × Nat)} {i : Nat} {p : Option (List Nat)} {rest : List (Option (List Nat))}, ConOk n ps → (∀ m, p = some m → ∀ x ∈ ps, m < x.1) → firstC i p (ps.map (fun x => some x.1) ++ rest) = firstC (i + ps.length) (match ps.getLast? with | none => p | some x => some x.1) rest
  | [], i, p, rest, _, _ => rfl
  | x :: ps, i, p, rest, h, hp => by
    show (if _ then _ else _) = _
    rw [if_pos]
    · rw [show (List.map (fun x : List Nat × Nat => some x.1) ps).append rest = List.map (fun x => some x.1) ps ++ rest from rfl, first_upto (ps := ps) (p := some x.1) ⟨fun y hy => h.1 y (List.mem_cons_of_mem _ hy), (List.pairwise_cons.mp h.2).2⟩ fun m e y hy => by
        cases e
        exact (List.pairwise_cons.mp h.2).1 y hy]
      rw [List.length_cons, show i + 1 + ps.length = i + (ps.length + 1) by omega]
      congr 1
      cases ps with
      | nil => rfl
      | cons y ys =>
        rw [List.getLast?_cons_cons]
        cases e : (y :: ys).getLast? with
        | none => simp at e
        | some z => rfl
    · cases p with
      | none => rfl
      | some m => exact decide_eq_true (hp m rfl x List.mem_cons_self)
theorem ConOk.take {n : Nat} {ps : List (List Nat × Nat)} (h : ConOk n ps) (k : Nat) : ConOk n (ps.take k) := ⟨fun p hp => h.1 p (List.mem_of_mem_take hp), h.2.sublist (List.take_sublist _ _)⟩
theorem ConOk.drop {n : Nat} {ps : List (List Nat × Nat)} (h : ConOk n ps) (k : Nat) : ConOk n (ps.drop k) := ⟨fun p hp => h.1 p (List.mem_of_mem_drop hp), h.2.sublist (List.drop_sublist _ _)⟩
def nmO (p : List Nat × Nat) : Option (List Nat) := some p.1
theorem first_bent {n : Nat} {ps : List (List Nat × Nat)} (h : ConOk n ps) {k : Nat} (hk : k < ps.length) {rest : List (Option (List Nat))} : firstC 0 none ((ps.take k).map nmO ++ (none :: rest)) = some k := by
  have := first_upto (i := 0) (p := none) (rest := none :: rest) (h.take k) (fun m e => by cases e)
  refine Eq.trans this ?_
  show some (0 + (ps.take k).length) = _
  rw [List.length_take, Nat.min_eq_left (Nat.le_of_lt hk), Nat.zero_add]
theorem first_stop {m m0 : List Nat} {i : Nat} {rest : List (Option (List Nat))} (h : ¬ m0 < m) : firstC i (some m0) (some m :: rest) = some i := by
  show (if _ then _ else _) = _
  rw [if_neg (by simpa using h)]
theorem first_twice {n : Nat} {ps : List (List Nat × Nat)} (h : ConOk n ps) {k : Nat} {q : List Nat × Nat} (hk : ps[k]? = some q) {rest : List (Option (List Nat))} : firstC 0 none ((ps.take (k + 1)).map nmO ++ (nmO q :: rest)) = some (k + 1) := by
  have := first_upto (i := 0) (p := none) (rest := nmO q :: rest) (h.take (k + 1)) (fun m e => by cases e)
  refine Eq.trans this ?_
  have hl := (List.getElem?_eq_some_iff.mp hk).1
  rw [take_at hk, List.getLast?_append, List.getLast?_singleton]
  show firstC _ (some q.1) (some q.1 :: rest) = _
  rw [first_stop (List.lt_irrefl _)]
  simp
  omega
theorem first_later {n : Nat} {q : List Nat × Nat} {ps : List (List Nat × Nat)} (h : ConOk n (q :: ps)) (hp : ps ≠ []) : firstC 0 none (ps.map nmO ++ [nmO q]) = some ps.length := by
  have := first_upto (i := 0) (p := none) (rest := [nmO q]) (h.drop 1) (fun m e => by cases e)
  refine Eq.trans this ?_
  have e : (q :: ps).drop 1 = ps := rfl
  rw [e]
  cases hl : ps.getLast? with
  | none => exact absurd (List.getLast?_eq_none_iff.mp hl) hp
  | some z =>
    show firstC _ (some z.1) (some q.1 :: []) = _
    have hz : z ∈ ps := List.mem_of_getLast? hl
    have hlt := (List.pairwise_cons.mp h.2).1 z hz
    rw [first_stop (fun c => List.lt_irrefl _ (List.lt_trans hlt c)), Nat.zero_add]
/-- contents that are not right, and what is told of them -/
def WrongC (K : PySem.W.Frag) (H : Hp) (n : Nat) (g iv : V) : Prop := (NoT K H g ∧ iv = .non) ∨ ∃ (q : Addr) (xs : List V) (os : List (Option (List Nat))) (i : Nat), g = .ref q ∧ H q = some (.tup xs) ∧ Paired (CoV K H n) xs os ∧ firstC 0 none os = some i ∧ iv = .int (i : Nat) ∧ i < 100
theorem WrongC.same {K : PySem.W.Frag} {H H' : Hp} {n : Nat} {g iv : V} (h : WrongC K H n g iv) (s : Same H H') : WrongC K H' n g iv := by
  rcases h with ⟨h, e⟩ | ⟨q, xs, os, i, e1, e2, e3, e4, e5⟩
  · exact .inl ⟨h.same s, e⟩
  · exact .inr ⟨q, xs, os, i, e1, s _ _ e2, paired_imp (fun _ _ h => h.same s) e3, e4, e5⟩
/-- no formula -/
inductive OddV (H : Hp) (p : Addr) : V → Prop
  | str (z : Str) : OddV H p (.str z)
  | non : OddV H p .non
  | int (i : Int) : OddV H p (.int i)
  | bl (b : Bool) : OddV H p (.bl b)
  | tup {q : Addr} (e : H q = some (.tup [.str (Str.ofString "*"), .int 1, .int 2])) : OddV H p (.ref q)
  | lst {L b : Addr} (e : H L = some (.lst [.ref b])) (n : L ≠ p) : OddV H p (.ref L)
theorem OddV.same {H H' : Hp} {p : Addr} {v : V} (h : OddV H p v) (s : Same H H') : OddV H' p v := by
  cases h with
  | str z => exact .str z
  | non => exact .non
  | int i => exact .int i
  | bl b => exact .bl b
  | tup e => exact .tup (s _ _ e)
  | lst e n => exact .lst (s _ _ e) n
theorem OddV.B {H H' : Hp} {p : Addr} {v : V} (h : OddV H p v) (pk : Pk H p) (s : SameB p H H') : OddV H' p v := by
  cases h with
  | str z => exact .str z
  | non => exact .non
  | int i => exact .int i
  | bl b => exact .bl b
  | tup e => exact .tup (tup_keep pk s _ _ e)
  | lst e n => exact .lst (s _ _ n e) n
theorem OddV.noF {K : PySem.W.Frag} {FC : Addr} (OG : ∀ T ∈ (["NoneType", "bool", "int", "str", "list", "tuple", "dict"] : List String), PySem.W.kitOne K (.type T) (.ref FC) = some false) {H : Hp} {p : Addr} {v : V} (h : OddV H p v) : NoF K FC H v := by
  cases h with
  | str z => exact ⟨_, .base (.str z), OG "str" (by decide)⟩
  | non => exact ⟨_, .base .non, OG "NoneType" (by decide)⟩
  | int i => exact ⟨_, .base (.int i), OG "int" (by decide)⟩
  | bl b => exact ⟨_, .base (.bl b), OG "bool" (by decide)⟩
  | tup e => exact ⟨_, .base (.tup e), OG "tuple" (by decide)⟩
  | lst e n => exact ⟨_, .base (.lst e), OG "list" (by decide)⟩
theorem OddV.eq {K : PySem.W.Frag} {H : Hp} {p : Addr} {v : V} (h : OddV H p v) {Q : VK} (q : Q (.bl true) H) : rEq v v H Q ∨ (rEqD K v v H Q ∨ rEqV K v v H Q) := by
  have sc : ∀ {u : V}, scal u u = true → (Q (.bl true) H) → rEq u u H Q := fun {u} s q => ⟨s, by rw [decide_eq_true rfl]; exact q⟩
  cases h with
  | str z => exact .inl (sc rfl q)
  | non => exact .inl (sc rfl q)
  | int i => exact .inl (sc rfl q)
  | bl b => exact .inl (sc rfl q)
  | tup e => exact .inr (.inl ⟨.tuple [.str (Str.ofString "*"), .int 1, .int 2], .tuple [.str (Str.ofString "*"), .int 1, .int 2], .tup (SqT.of e) (.cons (.str _) (.cons (.int _) (.cons (.int _) .nil))), .tup (SqT.of e) (.cons (.str _) (.cons (.int _) (.cons (.int _) .nil))), by decide +kernel, by decide +kernel, by
      rw [show PyData.eqv (.tuple [.str (Str.ofString "*"), .int 1, .int 2]) (.tuple [.str (Str.ofString "*"), .int 1, .int 2]) = true by decide +kernel]
      exact q⟩)
  | @lst L b e n => exact .inr (.inr ⟨1, by decide, .inl ⟨L, L, _, _, rfl, rfl, SqL.of e, SqL.of e, .cons (.inr (.inl ⟨b, rfl, rfl⟩)) .nil⟩, q⟩)
abbrev AdAt (H : Hp) (ad : Addr) (q : List Nat × Nat) : Prop := H ad = some (.tup [.str (S q.1), .int (q.2 : Int)])
theorem padS {H H' : Hp} {ads : List Addr} {ps : List (List Nat × Nat)} (s : Same H H') (h : Paired (AdAt H) ads ps) : Paired (AdAt H') ads ps := paired_imp (fun _ _ h => s _ _ h) h
theorem cat_go {H : Hp} {a b : Addr} {xs ys : List V} {Q : VK} (ha : H a = some (.lst xs)) (hb : H b = some (.lst ys)) (hl : xs.length + ys.length ≤ 1000) (q : ∀ R H', Same H H' → H' R = some (.lst (xs ++ ys)) → Q (.ref R) H') : rCat (.ref a) (.ref b) H Q :=
  ⟨a, b, xs, ys, rfl, rfl, ha, hb, by rw [sizeLine_eq]; omega, fun R nR => q R _ (same_new nR) upd_same⟩
theorem sl_go {K : PySem.W.Frag} {H : Hp} {a : Addr} {xs ys : List V} {lo hi : Option Int} {Q : VK} (ha : H a = some (.lst xs)) (e : cutV xs lo hi = ys) (q : ∀ R H', Same H H' → H' R = some (.lst ys) → Q (.ref R) H') : rSlL K (.ref a) lo hi H Q :=
  ⟨a, xs, rfl, SqL.of ha, fun R nR => q R _ (same_new nR) (by rw [e]; exact upd_same)⟩
theorem cov_all {K : PySem.W.Frag} {H : Hp} {n : Nat} : ∀ {ads : List Addr} {ps : List (List Nat × Nat)}, Paired (AdAt H) ads ps → (∀ p ∈ ps, nameB p.1 = true ∧ p.2 < n) → Paired (CoV K H n) (ads.map V.ref) (ps.map nmO)
  | _, _, .nil, _ => .nil
  | _, _, .cons h t, k => .cons (coV_pair h (k _ List.mem_cons_self).1 (k _ List.mem_cons_self).2) (cov_all t fun p hp => k p (List.mem_cons_of_mem _ hp))
theorem paired_take {α β : Type} {R : α → β → Prop} : ∀ {xs : List α} {ys : List β} (k : Nat), Paired R xs ys → Paired R (xs.take k) (ys.take k)
  | _, _, 0, _ => .nil
  | _, _, _ + 1, .nil => .nil
  | _, _, k + 1, .cons h t => .cons h (paired_take k t)
theorem paired_drop {α β : Type} {R : α → β → Prop} : ∀ {xs : List α} {ys : List β} (k : Nat), Paired R xs ys → Paired R (xs.drop k) (ys.drop k)
  | _, _, 0, h => h
  | _, _, _ + 1, .nil => .nil
  | _, _, k + 1, .cons _ t => paired_drop k t
theorem cutV_take {xs : List V} {k : Nat} (h : k ≤ xs.length) : cutV xs none (some (k : Int)) = xs.take k := by
  unfold cutV
  rw [HT.sIx_none, HT.sIx_nat, Nat.min_eq_left h, List.drop_zero, Nat.sub_zero]
theorem cutV_drop {xs : List V} {k : Nat} (h : k ≤ xs.length) : cutV xs (some (k : Int)) none = xs.drop k := by
  unfold cutV
  rw [HT.sIx_none, HT.sIx_nat, Nat.min_eq_left h]
  exact List.take_of_length_le (by rw [List.length_drop]; omega)
theorem con_map {H H' : Hp} : ∀ {ads : List Addr} {qs : List (List Nat × Nat)}, Paired (fun ad (q : List Nat × Nat) => H ad = some (.tup [.str (S q.1), .int (q.2 : Int)])) ads qs → Same H H' → Paired (fun x (p : List Nat × Nat) => ∃ ad, x = V.ref ad ∧ H' ad = some (.tup [.str (S p.1), .int (p.2 : Int)])) (ads.map V.ref) qs
  | _, _, .nil, _ => .nil
  | _, _, .cons h t, s => .cons ⟨_, rfl, s _ _ h⟩ (con_map t s)
abbrev s_right : Stmt := top 76
abbrev N_right : List Str := ["_law_purse_here", "_law_kind_here", "_law_size", "_law_kept", "_law_held", "_law_mine", "_law_names_here", "_law_name", "_law_right_here", "_law_form_here", "_law_at", "_law_bent_here", "_law_twice", "_law_later", "_law_wrong", "_law_given", "_law_index", "_law_odd", "_law_said"]
theorem sc_right : FnScope N_right ["_law_purse_here"] (defScope s_right) := ⟨rfl, rfl, rfl, by decide +kernel, rfl, by decide +kernel, by decide +kernel⟩
def spRight : Sp := fun vs H Q _ => ∃ p : Addr, vs = [.ref p] ∧ Pk H p ∧ ∀ H', SameB p H H' → Q (.bl true) H'
section
variable {P : Program} {w : World} {K : PySem.W.Frag} {mg : Str → Option Value} {base : Heap} {f : Addr} {fd : FuncData} {C BC CK CN CT CC FC CFm CI dL CF CTk : Addr} {es : Array DictEntry} {n9 : Nat}
theorem c_right (T : Bt mg) (KF : KiF P w K mg base C dL CTk CF es n9) (FF : FoF K mg FC) (KM' : KiM P w K mg base C CTk CF) (BM' : BgV P w K mg base C BC CK CN CT CC FC CFm CI) (OG : ∀ T ∈ (["NoneType", "bool", "int", "str", "list", "tuple", "dict"] : List String), PySem.W.kitOne K (.type T) (.ref FC) = some false) (k_pick : Cal P w K mg base 1 "_law_pick" spPick) (k_lkind : Cal P w K mg base 2 "_law_kind" spLkind)
    (k_begun : Cal P w K mg base 3 "_law_begun" spBegun) (k_lnames : Cal P w K mg base 2 "_law_names" spLnames) (k_lform : Cal P w K mg base 10 "_law_form" (spLform 8)) (k_lmade : Cal P w K mg base 19 "_law_made" (spLmade FC 8)) (k_ltext : Cal P w K mg base 9 "_law_text" (spLtext 8)) (k_lbent : Cal P w K mg base 2 "_law_bent" (spLbent K)) (k_ltold : Cal P w K mg base 14 "_law_told" (spLtold K C BC FC))
    (F : FnP K "_law_right" s_right f fd) (hm : mg "_law_right" = some (.ref f)) : CalG P w K mg base 20 "_law_right" spRight := by
  have hnd := sc_right.nd
  obtain ⟨fk, fdk, KM, Fi, B1⟩ := KM'
  obtain ⟨BF, ⟨fi, fdi, BM, FiB, Bi3⟩, ⟨fv, fvd, VM, VF9, VB9⟩⟩ := BM'
  refine calG_mk F hm sc_right (fun _ _ _ _ _ _ us hl => match us, hl with | [_], _ => rfl) (fun vs H Q E h => ?_) (fun cdv A outer s H vs Q E hg2 hr h => ?_)
  · obtain ⟨p, rfl, _⟩ := h
    rfl
  · obtain ⟨p, rfl, hp, q⟩ := h
    refine ⟨_, PSs.nox (pss_cons (ps_pairL rfl (pa_cons (pe_cal k_lkind hr (by omega) (by rfl) (pa_cons (pv 0) pa_nil)) (pa_cons (pe_op op_add pe_int (pe_cal k_pick hr (by omega) (by rfl) (pa_cons (pv 0) (pa_cons pe_int pa_nil)))) pa_nil)) (pgs_cons (pg_name (i := 1) hnd rfl (by first | exact Or.inl rfl | exact Or.inr rfl)) (pgs_cons (pg_name (i := 2) hnd rfl (by first | exact Or.inl rfl | exact Or.inr rfl)) pgs_nil)) (by rfl) (by rfl) (by rfl))
      (pss_cons (ps_asg (pe_cal k_begun hr (by omega) (by rfl) (pa_cons (pv 0) (pa_cons (pv 1) (pa_cons (pv 2) (pa_cons (pe_cal k_pick hr (by omega) (by rfl) (pa_cons (pv 0) (pa_cons pe_int pa_nil))) pa_nil))))) (pg_tup (by rfl) (pgs_cons (pg_name (i := 3) hnd rfl (by first | exact Or.inl rfl | exact Or.inr rfl)) (pgs_cons (pg_name (i := 4) hnd rfl (by first | exact Or.inl rfl | exact Or.inr rfl)) pgs_nil))))
      (pss_cons (ps_set (i := 5) hnd rfl (by first | exact Or.inl rfl | exact Or.inr rfl) (pe_make BM FiB (hr.mono (by omega)) (by rfl) BF.mgB Bi3 .nil pass_none (pa_cons (pe_makeK KM Fi (hr.mono (by omega)) (by rfl) KF.mgC B1 pass_none (pa_cons (pe_ix (show IxR _ (rIxT K) from ix_tup) (pv 1) pe_int (fun _ _ => rfl)) pa_nil) (pk_cons (pe_ix (show IxR _ (rIxT K) from ix_tup) (pv 1) pe_int (fun _ _ => rfl)) pk_nil)) (pa_cons (pv 2) (pa_cons (pe_callTy call_tuple_of (by rfl) T.m_tuple (by decide +kernel) (pa_cons (pv 3) pa_nil)) pa_nil)))))
      (pss_cons (ps_set (i := 6) hnd rfl (by first | exact Or.inl rfl | exact Or.inr rfl) (pe_callB cr_sortedS (by rfl) T.m_sorted (by decide +kernel) (pa_cons (pe_cal k_lnames hr (by omega) (by rfl) (pa_cons (pv 0) (pa_cons (pe_op op_add pe_int (pe_cal k_pick hr (by omega) (by rfl) (pa_cons (pv 0) (pa_cons pe_int pa_nil)))) pa_nil))) pa_nil)))
      (pss_cons (ps_setLc (i := 8) (own := [("_law_name", 7)]) (tt := tYes) (by rfl) hnd rfl (by rfl) (sw_true rfl rfl rfl (by decide +kernel)) (pi_list (pv 6)) (blkOk_by (own := [("_law_name", 7)]) (N := N_right) (sc := defScope s_right) (by decide +kernel)) (fun _ _ _ _ _ => (pg_name (i := 7) hnd rfl (by first | exact Or.inl rfl | exact Or.inr rfl))) (fun _ _ _ _ _ => pts_nil) (fun _ _ _ _ _ => (pe_tup (pa_cons (pv 7) (pa_cons (pe_cal k_pick hr (by omega) (by rfl) (pa_cons (pv 0) (pa_cons (pv 2) pa_nil))) pa_nil)))))
      (pss_cons (ps_par (i := 9) (j := 10) (by rfl) hnd rfl rfl (by decide) (by rfl) (by rfl) (pa_cons (pe_cal k_lmade hr (by omega) (by rfl) (pa_cons (pe_cal k_lform hr (by omega) (by rfl) (pa_cons (pv 0) (pa_cons (pv 6) (pa_cons (pe_cal k_pick hr (by omega) (by rfl) (pa_cons (pv 0) (pa_cons pe_int pa_nil))) pa_nil)))) pa_nil)) (pa_cons (pe_cal k_pick hr (by omega) (by rfl) (pa_cons (pv 0) (pa_cons (pe_callB call_len_seq (by rfl) T.m_len (by decide +kernel) (pa_cons (pv 8) pa_nil)) pa_nil))) pa_nil)) (by rfl))
      (pss_cons (ps_if (pt_cmpR (show OpR _ (compareOp .NotEq) (rNeD K) from op_neD hr.units) (pe_cal k_ltold hr (by omega) (by rfl) (pa_cons (pv 5) (pa_cons (pv 9) (pa_cons (pe_callTy call_tuple_of (by rfl) T.m_tuple (by decide +kernel) (pa_cons (pv 8) pa_nil)) pa_nil)))) (pe_tup (pa_cons pe_str (pa_cons pe_non (pa_cons pe_bl pa_nil)))) (nomark _))
      (pss_one (ps_ret pe_bl))
      pss_nil)
      (pss_cons (ps_set (i := 11) hnd rfl (by first | exact Or.inl rfl | exact Or.inr rfl) (pe_callTy call_tuple_of (by rfl) T.m_tuple (by decide +kernel) (pa_cons (pe_op op_cat (pe_op op_cat (pe_op op_cat (pe_slice sl_list (pv 8) po_none (po_some (pv 10))) (pe_lst (pa_cons (pe_cal k_lbent hr (by omega) (by rfl) (pa_cons (pv 0) (pa_cons (pe_ix (show IxR _ (rIxL K) from ix_list) (pv 8) (pv 10) (fun _ _ => rfl)) (pa_cons (pv 2) pa_nil)))) pa_nil))) (pe_slice sl_list (pv 8) (po_some (pe_op op_add (pv 10) pe_int)) po_none)) (pe_lst (pa_cons pe_non pa_nil))) pa_nil)))
      (pss_cons (ps_set (i := 12) hnd rfl (by first | exact Or.inl rfl | exact Or.inr rfl) (pe_callTy call_tuple_of (by rfl) T.m_tuple (by decide +kernel) (pa_cons (pe_op op_cat (pe_op op_cat (pe_slice sl_list (pv 8) po_none (po_some (pe_op op_add (pv 10) pe_int))) (pe_lst (pa_cons (pe_ix (show IxR _ (rIxL K) from ix_list) (pv 8) (pv 10) (fun _ _ => rfl)) pa_nil))) (pe_slice sl_list (pv 8) (po_some (pe_op op_add (pv 10) pe_int)) po_none)) pa_nil)))
      (pss_cons (ps_set (i := 13) hnd rfl (by first | exact Or.inl rfl | exact Or.inr rfl) (pe_callTy call_tuple_of (by rfl) T.m_tuple (by decide +kernel) (pa_cons (pe_op op_cat (pe_slice sl_list (pv 8) (po_some pe_int) po_none) (pe_lst (pa_cons (pe_ix (show IxR _ (rIxL K) from ix_list) (pv 8) pe_int (fun _ _ => rfl)) pa_nil))) pa_nil)))
      (pss_cons (ps_set (i := 14) hnd rfl (by first | exact Or.inl rfl | exact Or.inr rfl) (pe_lst (pa_cons (pe_tup (pa_cons (pv 11) (pa_cons (pv 10) pa_nil))) (pa_cons (pe_tup (pa_cons (pv 12) (pa_cons (pe_op op_add (pv 10) pe_int) pa_nil))) (pa_cons (pe_tup (pa_cons (pv 13) (pa_cons (pe_op op_sub (pe_callB call_len_seq (by rfl) T.m_len (by decide +kernel) (pa_cons (pv 8) pa_nil)) pe_int) pa_nil))) (pa_cons (pe_tup (pa_cons (pe_callTy call_list_of (by rfl) T.m_list (by decide +kernel) (pa_cons (pv 8) pa_nil)) (pa_cons pe_non pa_nil))) (pa_cons (pe_tup (pa_cons pe_non (pa_cons pe_non pa_nil))) (pa_cons (pe_tup (pa_cons pe_str (pa_cons pe_non pa_nil))) pa_nil))))))))
      (pss_cons (ps_for PassesOwn.never (by rfl) (pi_list (pv 14)) (pg_tup (by rfl) (pgs_cons (pg_name (i := 15) hnd rfl (by first | exact Or.inl rfl | exact Or.inr rfl)) (pgs_cons (pg_name (i := 16) hnd rfl (by first | exact Or.inl rfl | exact Or.inr rfl)) pgs_nil)))
      (pss_one (ps_if (pt_cmpR op_ne (pe_callB (show CallR _ (.builtin "repr") (rReprD K) from call_reprD hg2 hr.units) (by rfl) T.m_repr (by decide +kernel) (pa_cons (pe_cal k_ltold hr (by omega) (by rfl) (pa_cons (pv 5) (pa_cons (pv 9) (pa_cons (pv 15) pa_nil)))) pa_nil)) (pe_callB (show CallR _ (.builtin "repr") (rReprD K) from call_reprD hg2 hr.units) (by rfl) T.m_repr (by decide +kernel) (pa_cons (pe_tup (pa_cons pe_str (pa_cons (pv 16) (pa_cons pe_bl pa_nil)))) pa_nil)) (nomark _))
      (pss_one (ps_ret pe_bl))
      pss_nil)))
      (pss_cons (ps_set (i := 17) hnd rfl (by first | exact Or.inl rfl | exact Or.inr rfl) (pe_ix (show IxR _ (rIxL K) from ix_list) (pe_lst (pa_cons pe_str (pa_cons pe_non (pa_cons pe_int (pa_cons (pe_cal k_ltext hr (by omega) (by rfl) (pa_cons (pe_cal k_lform hr (by omega) (by rfl) (pa_cons (pv 0) (pa_cons (pv 6) (pa_cons pe_int pa_nil)))) pa_nil)) (pa_cons (pe_tup (pa_cons pe_str (pa_cons pe_int (pa_cons pe_int pa_nil)))) (pa_cons pe_bl (pa_cons (pe_lst (pa_cons (pv 9) pa_nil)) pa_nil)))))))) (pe_cal k_pick hr (by omega) (by rfl) (pa_cons (pv 0) (pa_cons pe_int pa_nil))) (fun _ _ => rfl)))
      (pss_cons (ps_set (i := 18) hnd rfl (by first | exact Or.inl rfl | exact Or.inr rfl) (pe_cal k_ltold hr (by omega) (by rfl) (pa_cons (pv 5) (pa_cons (pv 17) (pa_cons (pe_ix (show IxR _ (rIxL K) from ix_list) (pe_lst (pa_cons (pv 11) (pa_cons (pe_callTy call_tuple_of (by rfl) T.m_tuple (by decide +kernel) (pa_cons (pv 8) pa_nil)) (pa_cons pe_non pa_nil)))) (pe_cal k_pick hr (by omega) (by rfl) (pa_cons (pv 0) (pa_cons pe_int pa_nil))) (fun _ _ => rfl)) pa_nil)))))
      (pss_one (ps_ret (pe_and (pe_cmpR op_eq (pe_ix (show IxR _ (rIxT K) from ix_tup) (pv 18) pe_int (fun _ _ => rfl)) pe_str (nomark _)) (pe_and (pe_cmpR (show OpR _ (compareOp .Eq) (fun x y H Q => rEq x y H Q ∨ (rEqD K x y H Q ∨ rEqV K x y H Q)) from op_or2 op_eq (op_or2 (op_eqD hr.units) (op_eqV hr.units))) (pe_ix (show IxR _ (rIxT K) from ix_tup) (pv 18) pe_int (fun _ _ => rfl)) (pv 17) (nomark _)) (pe_one (pe_cmpR op_isB (pe_ix (show IxR _ (rIxT K) from ix_tup) (pv 18) pe_int (fun _ _ => rfl)) pe_bl (nomark _))))))))))))))))))))), ?_⟩
    refine ⟨_, rfl, p, rfl, hp, fun kh z b H1 hz b1 pk1 ekh => ⟨_, rfl, p, 5, rfl, pk1, by decide, by decide, fun n0 H2 hn b2 pk2 => ⟨_, _, rfl, rfl, rfl, _, _, rfl, _, _, rfl, rfl, ?_⟩⟩⟩
    have zm : z ∈ wordsD := List.contains_iff_mem.mp hz
    have ekh2 := pk1.keepL b2 _ _ ekh (fun _ z => by cases z)
    obtain ⟨n, hn1, hn2, hn3⟩ : ∃ n : Nat, (1 : Int) + (n0 : Int) = (n : Int) ∧ 1 ≤ n ∧ n ≤ 6 := ⟨1 + n0, by omega, by omega, by omega⟩
    dsimp only
    rw [hn1]
    refine ⟨_, rfl, _, rfl, _, rfl, _, rfl, p, 7, rfl, pk2, by decide, by decide, fun len H3 hlen b3 pk3 => ?_⟩
    have ekh3 := pk2.keepL b3 _ _ ekh2 (fun _ z => by cases z)
    refine ⟨p, kh, z, b, n, len, rfl, pk3, ekh3, hz, by omega, by omega, fun R0 L1 L2 kept TT S9 H4 b4 pk4 nL1 nL2 eR0 tk ts hS held kl tl => ?_⟩
    refine ⟨R0, _, rfl, SqT.of eR0, rfl, _, _, rfl, _, _, rfl, rfl, ?_⟩
    have ekh4 := pk3.keepL b4 _ _ ekh3 (fun _ z => by cases z)
    have bb4 : SameB p H H4 := ((b1.trans b2).trans b3).trans b4
    have n600 : n ≤ 600 := by omega
    have Tok := held.ok zm n600
    clear b1 b2 b3 b4 pk1 pk2 pk3 ekh ekh2 ekh3 eR0 nL1 nL2 hn hn1 ts hS
    try dsimp only
    refine ⟨_, rfl, kh, _, _, .str z, rfl, rfl, SqT.of ekh4, atI_nat (j := 0) rfl, _, rfl, kh, _, _, .bl b, rfl, rfl, SqT.of ekh4, atI_nat (j := 1) rfl, rfl, rfl, fun tk9 dxk nk ndk nek => made_ok hz nk ndk fun H5 s5 ek5 => ⟨rfl, ?_⟩⟩
    obtain ⟨ks, eks, pks⟩ := tk.same s5
    refine ⟨_, rfl, _, rfl, L1, _, rfl, .inl ⟨SqL.of eks, fun R nR x dx nx ndx dne => ?_⟩⟩
    have sR := same_new (o := .tup (ks.map V.ref)) nR
    have sM : Same H5 (upd (upd (upd H5 R (.tup (ks.map V.ref))) dx (.own x)) x (.ins BC dx [])) := (sR.trans (same_new ndx)).trans (same_new (by rw [upd_ne (Ne.symm dne)]; exact nx))
    have sR1 : Same (upd H5 R (.tup (ks.map V.ref))) (upd (upd (upd H5 R (.tup (ks.map V.ref))) dx (.own x)) x (.ins BC dx [])) := (same_new ndx).trans (same_new (by rw [upd_ne (Ne.symm dne)]; exact nx))
    have nx5 : H5 x = none := none_back sR nx
    refine ⟨x, dx, _, _, _, rfl, upd_same, .inr ⟨tk9, z, b, rfl, ek5.same sM, hz, .inr ⟨n, rfl, n600, .inr (.inr ⟨R, ks, kept, rfl, SqT.of (sR1 _ _ upd_same), paired_imp (fun _ _ h => sM _ _ h) pks, held.bd, by omega, ?_⟩)⟩⟩⟩
    rw [held.add]
    intro H6 sB bg6
    have s6 : Same H5 H6 := fun c o e => sB c o (fun z => by rw [z, nx5] at e; cases e) (sM c o e)
    refine ⟨rfl, ?_⟩
    have pk6 := (pk4.same s5).same s6
    have bb6 : SameB p H H6 := bb4.trans (SameB.of (s5.trans s6))
    clear sM sR1 sB nR nx ndx dne sR eks pks ek5 tk ekh4 pk4 bb4 s5 s6 nx5
    refine gname_go ?_
    try dsimp only
    -- the names
    refine asg_all (fun v G => ∃ (N : Addr) (zs : List (List Nat)), v = .ref N ∧ G N = some (.lst (zs.map nmV)) ∧ zs.Pairwise (fun a b => a < b) ∧ (∀ m ∈ zs, nameB m = true) ∧ 2 ≤ zs.length ∧ zs.length ≤ 5 ∧ N ≠ p ∧ SameB p H6 G ∧ Pk G p) (fun Q9 hQ => ?_) ?_
    · refine ⟨_, rfl, _, rfl, p, 4, rfl, pk6, by decide, by decide, fun d G1 hd b1 pk1 => ⟨_, _, rfl, rfl, ?_⟩⟩
      refine ⟨p, 2 + d, by simp, pk1, by omega, fun ls N0 G2 ll nl b2 pk2 nNp nN eN => ?_⟩
      refine ⟨N0, ls.map S, rfl, SqL.of (by rw [eN, List.map_map]; rfl), by rw [List.length_map]; omega, fun ys R perm srt nR => ?_⟩
      obtain ⟨zs, rfl⟩ : ∃ zs : List (List Nat), ys = zs.map S := ⟨ys.map fun y => y.cps.toList, by rw [List.map_map]; exact (List.map_id ys).symm.trans (List.map_congr_left fun y _ => str_S y)⟩
      have zp : zs.Perm ls := by
        have := perm.map fun y : Str => y.cps.toList
        rw [List.map_map, List.map_map] at this
        have e : ((fun y : Str => y.cps.toList) ∘ S) = id := funext cps_S
        rwa [e, List.map_id, List.map_id] at this
      have zl := zp.length_eq
      have sR := same_new (o := .lst ((zs.map S).map V.str)) nR
      exact hQ _ _ ⟨R, zs, rfl, by rw [upd_same, List.map_map]; rfl, sorted_lt srt (zp.nodup_iff.mpr nl.nd), fun m hm => nl.ok m (zp.mem_iff.mp hm), by omega, by omega, pk2.ne nR, (b1.trans b2).trans (SameB.of sR), pk2.same sR⟩
    rintro _ H7 ⟨N, zs, rfl, eN, zlt, zok, z2, z5, nNp, b7, pk7⟩
    refine gname_go ?_
    try dsimp only
    have bg7 := bg6.keepL (pk6.keepL b7)
    have bb7 := bb6.trans b7
    clear b7 pk6 bg6 bb6
    -- right contents
    refine asg_all (fun v G => ∃ (RL : Addr) (ads : List Addr) (ps : List (List Nat × Nat)), v = .ref RL ∧ G RL = some (.lst (ads.map V.ref)) ∧ Paired (AdAt G) ads ps ∧ ps.map (·.1) = zs ∧ (∀ q ∈ ps, q.2 < n) ∧ RL ≠ p ∧ SameB p H7 G ∧ Pk G p) (fun Q9 hQ => ?_) ?_
    · refine ⟨_, rfl, N, rfl, ⟨_, SqL.of eN⟩, fun D nD => ?_⟩
      have nDp : D ≠ p := pk7.ne nD
      refine lc_list (xs := zs.map nmV) (fun j G => SameB p H7 G ∧ Pk G p ∧ ∃ (ads : List Addr) (ps : List (List Nat × Nat)), G D = some (.lst (ads.map V.ref)) ∧ Paired (AdAt G) ads ps ∧ ps.map (·.1) = zs.take j ∧ (∀ q ∈ ps, q.2 < n)) ⟨SameB.of (same_new nD), pk7.same (same_new nD), [], [], upd_same, .nil, rfl, fun _ h => by cases h⟩ (fun j G _ h => SqL.of (h.1 _ _ nNp eN)) ?_ ?_
      · rintro j y G hj ⟨bG, pkG, ads, ps, eD, pp, pm, pb⟩
        rw [List.getElem?_map] at hj
        obtain ⟨m, hm, rfl⟩ := Option.map_eq_some_iff.mp hj
        refine gname_go ⟨rfl, ?_⟩
        unfold tYes
        dsimp only
        rw [if_pos rfl]
        refine ⟨_, rfl, _, rfl, _, rfl, p, n, rfl, pkG, by omega, Nat.lt_of_le_of_lt (m := 10) (by omega) (by decide), fun d G1 hd b1 pk1 => ⟨Nat.le_of_ble_eq_true rfl, fun R nR => ?_⟩⟩
        have sR := same_new (o := .tup [.str (S m), .int (d : Int)]) nR
        have eD1 := sR _ _ (b1 _ _ nDp eD)
        have kt := tup_keep pkG b1
        have pl := pp.length
        have pml := congrArg List.length pm
        rw [List.length_map, List.length_take] at pml
        refine ⟨_, eD1, by rw [List.length_map, sizeLine_eq]; omega, fun b o nb e => ?_, ?_, ads ++ [R], ps ++ [(m, d)], by rw [upd_same, List.map_append]; rfl, ?_, by rw [List.map_append, pm, take_at hm]; rfl, fun q hq => ?_⟩
        · rw [upd_ne (ne_of_none e nD)]
          exact sR _ _ (b1 _ _ nb (bG _ _ nb e))
        · obtain ⟨g, mm9, c9, ep, r⟩ := (pk1.same sR).ex
          exact ⟨g, mm9, c9, (upd_ne (Ne.symm nDp)).trans ep, r⟩
        · have nD8 : ∀ {x : Addr} {w9 : List V}, (upd G1 R (.tup [.str (S m), .int (d : Int)])) x = some (.tup w9) → x ≠ D := fun {x w9} e z => by
            rw [z, eD1] at e
            cases e
          exact paired_app (paired_imp (fun x t h => (upd_ne (nD8 (sR _ _ (kt _ _ h)))).trans (sR _ _ (kt _ _ h))) pp) (.cons ((upd_ne (nD8 upd_same)).trans upd_same) .nil)
        · rcases List.mem_append.mp hq with hq | hq
          · exact pb q hq
          · rw [List.mem_singleton.mp hq]
            exact hd
      · rintro G ⟨bG, pkG, ads, ps, eD, pp, pm, pb⟩
        rw [List.length_map, List.take_length] at pm
        exact hQ _ _ ⟨D, ads, ps, rfl, eD, pp, pm, pb, nDp, bG, pkG⟩
    rintro _ H8 ⟨RL, ads, ps, rfl, eRL, pads, pm, pb, nRp, b8, pk8⟩
    refine gname_go ?_
    try dsimp only
    have bg8 := bg7.keepL (pk7.keepL b8)
    have bb8 := bb7.trans b8
    have eN8 := b8 _ _ nNp eN
    have cok : ConOk n ps := ⟨fun q hq => ⟨zok q.1 (by rw [← pm]; exact List.mem_map_of_mem hq), pb q hq⟩, by rw [← pm, List.pairwise_map] at zlt; exact zlt⟩
    have plen : ps.length = zs.length := by rw [← pm, List.length_map]
    have alen := pads.length
    clear b8 pk7 bg7 bb7 eN zlt
    -- the formula, the place
    refine sig_go (σ' := [some (.ref p), some (.ref kh), some (.int (n : Int)), some (.ref L1), some (.ref L2), some (.ref x), some (.ref N), none, some (.ref RL), none, none, none, none, none, none, none, none, none, none]) rfl ?_
    try dsimp only
    refine ⟨_, rfl, _, rfl, _, rfl, p, 4, rfl, pk8, by decide, by decide, fun k H9 hk b9 pk9 => ?_⟩
    refine ⟨p, N, zs, k, rfl, pk9, b9 _ _ nNp eN8, nNp, by omega, by omega, zok, by omega, by omega, fun v0 f0 H10 b10 pk10 tr0 ok0 ops0 => ?_⟩
    refine ⟨v0, f0, rfl, tr0, ok0, by omega, by have := Fm.dep_ops f0; omega, fun fa H11 s11 hfa => ?_⟩
    have b811 : SameB p H8 H11 := (b9.trans b10).trans (SameB.of s11)
    have pk11 := pk10.same s11
    refine ⟨_, rfl, _, rfl, RL, _, rfl, .inl (SqL.of (b811 _ _ nRp eRL)), p, (ads.map V.ref).length, rfl, pk11, by rw [List.length_map]; omega, Nat.lt_of_le_of_lt (m := 10) (by rw [List.length_map]; omega) (by decide), fun at_ H12 hat b12 pk12 => ⟨_, _, rfl, ?_⟩⟩
    rw [List.length_map] at hat
    have hfa12 := hfa.keepL (pk11.keepL b12)
    have b812 := b811.trans b12
    have bg12 := bg8.keepL (pk8.keepL b812)
    have eRL12 := b812 _ _ nRp eRL
    have eN12 := b812 _ _ nNp eN8
    have pads12 : Paired (AdAt H12) ads ps := paired_imp (fun _ _ h => tup_keep pk8 b812 _ _ h) pads
    have bb12 := bb8.trans b812
    have fdep : f0.dep ≤ 8 := by have := Fm.dep_ops f0; omega
    clear b812 b811 b12 b9 b10 s11 pk8 pk9 pk10 pk11 hfa bg8 eRL eN8 pads bb8 tr0 v0
    try dsimp only
    -- right ones
    refine ⟨_, rfl, _, rfl, _, rfl, RL, _, rfl, .inl ⟨SqL.of eRL12, fun T1 nT1 => ?_⟩⟩
    have s1 := same_new (o := .tup (ads.map V.ref)) nT1
    have eT1 := upd_same (H := H12) (a := T1) (o := .tup (ads.map V.ref))
    refine ⟨x, ⟨z, b, n, TT⟩, .ref fa, .ref T1, rfl, bg12.same s1, n600, Tok, .inr ⟨fa, f0, rfl, hfa12.same s1, ok0, fdep, .inr (.inr ⟨T1, ps, rfl, ⟨_, eT1, con_map pads12 s1⟩, cok, by omega, fun T2 H13 s2 e2 => ?_⟩)⟩⟩
    have s12 := s1.trans s2
    clear s1 s2 eT1
    refine ⟨Nat.le_of_ble_eq_true rfl, fun T3 nT3 => ?_⟩
    have s3 := same_new (o := .tup [.str (Str.ofString "told"), .non, .bl true]) nT3
    refine ⟨.tuple [.str (Str.ofString "told"), .none, .bool true], .tuple [.str (Str.ofString "told"), .none, .bool true], .tup (SqT.of (s3 _ _ e2)) (.cons (.str _) (.cons .non (.cons (.bl _) .nil))), .tup (SqT.of upd_same) (.cons (.str _) (.cons .non (.cons (.bl _) .nil))), by decide +kernel, by decide +kernel, ?_⟩
    refine ⟨_, rfl, iteN2 (by decide +kernel) ?_⟩
    have s14 := s12.trans s3
    have bg14 := bg12.same s14
    have hfa14 := hfa12.same s14
    have eRL14 := s14 _ _ eRL12
    have eN14 := s14 _ _ eN12
    have pads14 := padS s14 pads12
    have pk14 := pk12.same s14
    have bb14 := bb12.trans (SameB.of s14)
    generalize upd H13 T3 (.tup [.str (Str.ofString "told"), .non, .bl true]) = H14 at bg14 hfa14 eRL14 eN14 pads14 pk14 bb14 ⊢
    clear s14 s12 s3 e2 bg12 hfa12 eRL12 eN12 pads12 pk12 bb12
    try dsimp only [tNext]
    have ca : cutV (ads.map V.ref) none (some (at_ : Int)) = (ads.take at_).map V.ref := by rw [cutV_take (by rw [List.length_map]; omega), List.map_take]
    have cb : cutV (ads.map V.ref) (some ((at_ : Int) + 1)) none = (ads.drop (at_ + 1)).map V.ref := by
      rw [show (at_ : Int) + 1 = ((at_ + 1 : Nat) : Int) by omega, cutV_drop (by rw [List.length_map]; omega), List.map_drop]
    have cc : cutV (ads.map V.ref) none (some ((at_ : Int) + 1)) = (ads.take (at_ + 1)).map V.ref := by
      rw [show (at_ : Int) + 1 = ((at_ + 1 : Nat) : Int) by omega, cutV_take (by rw [List.length_map]; omega), List.map_take]
    have c1 : cutV (ads.map V.ref) (some 1) none = (ads.drop 1).map V.ref := by
      have := cutV_drop (xs := ads.map V.ref) (k := 1) (by rw [List.length_map]; omega)
      rw [show ((1 : Nat) : Int) = 1 from rfl] at this
      rw [this, List.map_drop]
    obtain ⟨ad0, had0⟩ : ∃ a, ads[at_]? = some a := ⟨_, List.getElem?_eq_getElem hat⟩
    obtain ⟨q0, hq0, eq0⟩ := pairedNth pads14 had0
    have cov14 := cov_all (K := K) pads14 cok.1
    have lat : at_ < ps.length := by omega
    -- bent
    refine asg_all (fun v G => ∃ B, v = .ref B ∧ SameB p H14 G ∧ Pk G p ∧ WrongC K G n (.ref B) (.int (at_ : Nat))) (fun Q9 hQ => ?_) ?_
    · refine ⟨_, rfl, _, rfl, _, rfl, RL, _, rfl, SqL.of eRL14, fun A nA => ?_⟩
      rw [ca]
      have sA := same_new (o := .lst ((ads.take at_).map V.ref)) nA
      have eA := upd_same (H := H14) (a := A) (o := .lst ((ads.take at_).map V.ref))
      have nAp := pk14.ne nA
      have pkA := pk14.same sA
      generalize upd H14 A (.lst ((ads.take at_).map V.ref)) = GA at sA eA pkA ⊢
      refine ⟨_, rfl, _, rfl, _, rfl, RL, _, _, .ref ad0, rfl, rfl, SqL.of (sA _ _ eRL14), atI_nat (by rw [List.getElem?_map, had0]; rfl), _, rfl, p, ad0, q0.1, q0.2, n, rfl, pkA, sA _ _ eq0, (cok.1 q0 (List.mem_of_getElem? hq0)).1, (cok.1 q0 (List.mem_of_getElem? hq0)).2, n600, fun vb GB bB pkB cvb => ?_⟩
      have kt := tup_keep pkA bB
      have eA' := bB _ _ nAp eA
      have b14B := (SameB.of sA).trans bB
      have eRLB := b14B _ _ nRp eRL14
      refine ⟨Nat.le_of_ble_eq_true rfl, fun C1 nC1 => ?_⟩
      have sC := same_new (o := .lst [vb]) nC1
      refine ⟨A, C1, _, _, rfl, rfl, sC _ _ eA', upd_same, by rw [List.length_map, List.length_take, sizeLine_eq]; show _ + 1 ≤ _; omega, fun D1 nD1 => ?_⟩
      have sD := sC.trans (same_new (o := .lst ((ads.take at_).map V.ref ++ [vb])) nD1)
      have eD := upd_same (H := upd GB C1 (.lst [vb])) (a := D1) (o := .lst ((ads.take at_).map V.ref ++ [vb]))
      generalize upd (upd GB C1 (.lst [vb])) D1 (.lst ((ads.take at_).map V.ref ++ [vb])) = GD at sD eD ⊢
      refine ⟨_, rfl, _, rfl, _, _, rfl, rfl, _, rfl, RL, _, rfl, SqL.of (sD _ _ eRLB), fun E1 nE1 => ?_⟩
      rw [cb]
      have sE := sD.trans (same_new (o := .lst ((ads.drop (at_ + 1)).map V.ref)) nE1)
      have eD2 := (same_new (o := .lst ((ads.drop (at_ + 1)).map V.ref)) nE1) _ _ eD
      have eE := upd_same (H := GD) (a := E1) (o := .lst ((ads.drop (at_ + 1)).map V.ref))
      generalize upd GD E1 (.lst ((ads.drop (at_ + 1)).map V.ref)) = GE at sE eD2 eE ⊢
      refine cat_go eD2 eE (by simp; omega) fun F1 GF sF0 eF => ?_
      have sF := sE.trans sF0
      refine ⟨Nat.le_of_ble_eq_true rfl, fun M1 nM1 => ?_⟩
      have sM := sF.trans (same_new (o := .lst [.non]) nM1)
      have eFM := (same_new (o := .lst [.non]) nM1) _ _ eF
      refine cat_go eFM upd_same (by simp; omega) fun O1 GO sO0 eO => ?_
      have sO := sM.trans sO0
      refine ⟨O1, _, rfl, .inl ⟨SqL.of eO, fun B nB => ?_⟩⟩
      have sB := sO.trans (same_new (o := .tup ((((ads.take at_).map V.ref ++ [vb]) ++ (ads.drop (at_ + 1)).map V.ref) ++ [V.non])) nB)
      refine hQ _ _ ⟨B, rfl, b14B.trans (SameB.of sB), pkB.same sB, .inr ⟨B, _, (((ps.take at_).map nmO ++ [none]) ++ (ps.drop (at_ + 1)).map nmO) ++ [none], at_, rfl, upd_same, ?_, ?_, rfl, by omega⟩⟩
      · have pB : Paired (AdAt GB) ads ps := paired_imp (fun _ _ h => kt _ _ (sA _ _ h)) pads14
        have p1 := cov_all (K := K) (padS sB (paired_take at_ pB)) (cok.take at_).1
        have p2 := cov_all (K := K) (padS sB (paired_drop (at_ + 1) pB)) (cok.drop (at_ + 1)).1
        exact paired_app (paired_app (paired_app p1 (.cons (cvb.same sB) .nil)) p2) (.cons (.no ⟨_, .base .non, kit_ty (by decide +kernel : kitB "NoneType" "tuple" = some false)⟩) .nil)
      · have := first_bent cok lat (rest := (ps.drop (at_ + 1)).map nmO ++ [none])
        simpa [List.append_assoc] using this
    rintro _ H15 ⟨B1, rfl, b15, pk15, wc1⟩
    refine gname_go ?_
    try dsimp only
    have eRL15 := b15 _ _ nRp eRL14
    have eN15 := b15 _ _ nNp eN14
    have bg15 := bg14.keepL (pk14.keepL b15)
    have hfa15 := hfa14.keepL (pk14.keepL b15)
    have pads15 : Paired (AdAt H15) ads ps := paired_imp (fun _ _ h => tup_keep pk14 b15 _ _ h) pads14
    have bb15 := bb14.trans b15
    have eq15 := tup_keep pk14 b15 _ _ eq0
    clear b15 pk14 bb14 bg14 hfa14 eRL14 eN14 cov14 pads14 eq0
    -- twice
    refine asg_all (fun v G => ∃ B, v = .ref B ∧ Same H15 G ∧ WrongC K G n (.ref B) (.int ((at_ + 1 : Nat) : Int))) (fun Q9 hQ => ?_) ?_
    · refine ⟨_, rfl, _, rfl, _, _, rfl, rfl, _, rfl, ?_⟩
      refine sl_go eRL15 cc fun A GA sA eA => ?_
      refine ⟨_, rfl, _, rfl, RL, _, _, .ref ad0, rfl, rfl, SqL.of (sA _ _ eRL15), atI_nat (by rw [List.getElem?_map, had0]; rfl), Nat.le_of_ble_eq_true rfl, fun C1 nC1 => ?_⟩
      have sC0 := same_new (o := .lst [V.ref ad0]) nC1
      have sC := sA.trans sC0
      refine cat_go (sC0 _ _ eA) upd_same (by simp; omega) fun D1 GD sD0 eD => ?_
      have sD := sC.trans sD0
      refine ⟨_, rfl, _, rfl, _, _, rfl, rfl, _, rfl, ?_⟩
      refine ⟨RL, _, rfl, SqL.of (sD _ _ eRL15), fun E1 nE1 => ?_⟩
      rw [cb]
      have sE0 := same_new (o := .lst ((ads.drop (at_ + 1)).map V.ref)) nE1
      have eE := upd_same (H := GD) (a := E1) (o := .lst ((ads.drop (at_ + 1)).map V.ref))
      generalize upd GD E1 (.lst ((ads.drop (at_ + 1)).map V.ref)) = GE at sE0 eE ⊢
      have sE := sD.trans sE0
      refine cat_go (sE0 _ _ eD) eE (by simp; omega) fun O1 GO sO0 eO => ?_
      have sO := sE.trans sO0
      refine ⟨O1, _, rfl, .inl ⟨SqL.of eO, fun B nB => ?_⟩⟩
      have sB := sO.trans (same_new (o := .tup (((ads.take (at_ + 1)).map V.ref ++ [V.ref ad0]) ++ (ads.drop (at_ + 1)).map V.ref)) nB)
      refine hQ _ _ ⟨B, rfl, sB, .inr ⟨B, _, ((ps.take (at_ + 1)).map nmO ++ [nmO q0]) ++ (ps.drop (at_ + 1)).map nmO, at_ + 1, rfl, upd_same, ?_, ?_, rfl, by omega⟩⟩
      · have p1 := cov_all (K := K) (padS sB (paired_take (at_ + 1) pads15)) (cok.take (at_ + 1)).1
        have p2 := cov_all (K := K) (padS sB (paired_drop (at_ + 1) pads15)) (cok.drop (at_ + 1)).1
        have hh := cok.1 q0 (List.mem_of_getElem? hq0)
        exact paired_app (paired_app p1 (.cons (coV_pair (sB _ _ eq15) hh.1 hh.2) .nil)) p2
      · have := first_twice cok hq0 (rest := (ps.drop (at_ + 1)).map nmO)
        simpa [List.append_assoc] using this
    rintro _ H16 ⟨B2, rfl, s16, wc2⟩
    refine gname_go ?_
    try dsimp only
    -- later
    refine asg_all (fun v G => ∃ B, v = .ref B ∧ Same H16 G ∧ WrongC K G n (.ref B) (.int ((ps.length - 1 : Nat) : Int))) (fun Q9 hQ => ?_) ?_
    · refine ⟨_, rfl, 1, rfl, RL, _, rfl, SqL.of (s16 _ _ eRL15), fun A nA => ?_⟩
      rw [c1]
      have sA := same_new (o := .lst ((ads.drop 1).map V.ref)) nA
      have eA := upd_same (H := H16) (a := A) (o := .lst ((ads.drop 1).map V.ref))
      generalize upd H16 A (.lst ((ads.drop 1).map V.ref)) = GA at sA eA ⊢
      obtain ⟨ad1, had1⟩ : ∃ a, ads[0]? = some a := ⟨_, List.getElem?_eq_getElem (by omega)⟩
      obtain ⟨q1, hq1, eq1⟩ := pairedNth pads15 had1
      have sA16 := s16.trans sA
      refine ⟨_, rfl, RL, _, _, .ref ad1, rfl, rfl, SqL.of (sA16 _ _ eRL15), atI_nat (j := 0) (by rw [List.getElem?_map, had1]; rfl), Nat.le_of_ble_eq_true rfl, fun C1 nC1 => ?_⟩
      have sC0 := same_new (o := .lst [V.ref ad1]) nC1
      refine cat_go (sC0 _ _ eA) upd_same (by simp; omega) fun O1 GO sO0 eO => ?_
      refine ⟨O1, _, rfl, .inl ⟨SqL.of eO, fun B nB => ?_⟩⟩
      have sB0 := ((sA.trans sC0).trans sO0).trans (same_new (o := .tup ((ads.drop 1).map V.ref ++ [V.ref ad1])) nB)
      have sB := s16.trans sB0
      obtain ⟨ps', rfl⟩ : ∃ ps', ps = q1 :: ps' := by
        cases ps with
        | nil => cases hq1
        | cons a r => cases hq1; exact ⟨r, rfl⟩
      refine hQ _ _ ⟨B, rfl, sB0, .inr ⟨B, _, ps'.map nmO ++ [nmO q1], ps'.length, rfl, upd_same, ?_, first_later cok (fun e => by rw [e] at plen; simp at plen; omega), rfl, by rw [List.length_cons] at plen; omega⟩⟩
      have p2 := cov_all (K := K) (padS sB (paired_drop 1 pads15)) (cok.drop 1).1
      have hh := cok.1 q1 List.mem_cons_self
      exact paired_app p2 (.cons (coV_pair (sB _ _ eq1) hh.1 hh.2) .nil)
    rintro _ H17 ⟨B3, rfl, s17, wc3⟩
    refine gname_go ?_
    try dsimp only
    have s1517 := s16.trans s17
    have wc1' := wc1.same s1517
    have wc2' := wc2.same s17
    have bg17 := bg15.same s1517
    have hfa17 := hfa15.same s1517
    have eRL17 := s1517 _ _ eRL15
    have eN17 := s1517 _ _ eN15
    have pk17 := pk15.same s1517
    have bb17 := bb15.trans (SameB.of s1517)
    clear wc1 wc2 bg15 hfa15 eRL15 eN15 pk15 bb15 s16 s17 s1517 eq15 pads15
    try dsimp only
    refine sig_go (σ' := [some (.ref p), some (.ref kh), some (.int (n : Int)), some (.ref L1), some (.ref L2), some (.ref x), some (.ref N), none, some (.ref RL), some (.ref fa), some (.int (at_ : Int)), some (.ref B1), some (.ref B2), some (.ref B3), none, none, none, none, none]) rfl ?_
    refine asg_all (fun v G => ∃ (WL : Addr) (ws : List Addr), v = .ref WL ∧ G WL = some (.lst (ws.map V.ref)) ∧ Same H17 G ∧ ∀ w9 ∈ ws, ∃ g iv, G w9 = some (.tup [g, iv]) ∧ WrongC K G n g iv) (fun Q9 hQ => ?_) ?_
    · refine ⟨_, rfl, _, rfl, Nat.le_of_ble_eq_true rfl, fun W1 nW1 => ⟨_, rfl, _, rfl, _, _, rfl, rfl, Nat.le_of_ble_eq_true rfl, fun W2 nW2 => ?_⟩⟩
      have s1 := same_new (o := .tup [.ref B1, .int (at_ : Int)]) nW1
      have s2 := s1.trans (same_new (o := .tup [.ref B2, .int ((at_ : Int) + 1)]) nW2)
      refine ⟨_, rfl, _, rfl, RL, _, rfl, .inl (SqL.of (s2 _ _ eRL17)), _, _, rfl, rfl, Nat.le_of_ble_eq_true rfl, fun W3 nW3 => ?_⟩
      have s3 := s2.trans (same_new (o := .tup [.ref B3, .int ((((ads.map V.ref).length : Nat) : Int) - 1)]) nW3)
      refine ⟨_, rfl, RL, _, rfl, .inl (SqL.of (s3 _ _ eRL17)), fun L9 nL9 => ⟨Nat.le_of_ble_eq_true rfl, fun W4 nW4 => ⟨Nat.le_of_ble_eq_true rfl, fun W5 nW5 => ⟨Nat.le_of_ble_eq_true rfl, fun W6 nW6 => ⟨Nat.le_of_ble_eq_true rfl, fun WL nWL => ?_⟩⟩⟩⟩⟩
      have t0 := same_new (o := .tup [.ref B1, .int (at_ : Int)]) nW1
      have e0 := upd_same (H := H17) (a := W1) (o := .tup [.ref B1, .int (at_ : Int)])
      have t1 := same_new (o := .tup [.ref B2, .int ((at_ : Int) + 1)]) nW2
      have e1 := upd_same (H := (upd H17 W1 (.tup [.ref B1, .int (at_ : Int)]))) (a := W2) (o := .tup [.ref B2, .int ((at_ : Int) + 1)])
      have t2 := same_new (o := .tup [.ref B3, .int ((((ads.map V.ref).length : Nat) : Int) - 1)]) nW3
      have e2 := upd_same (H := (upd (upd H17 W1 (.tup [.ref B1, .int (at_ : Int)])) W2 (.tup [.ref B2, .int ((at_ : Int) + 1)]))) (a := W3) (o := .tup [.ref B3, .int ((((ads.map V.ref).length : Nat) : Int) - 1)])
      have t3 := same_new (o := .lst (ads.map V.ref)) nL9
      have e3 := upd_same (H := (upd (upd (upd H17 W1 (.tup [.ref B1, .int (at_ : Int)])) W2 (.tup [.ref B2, .int ((at_ : Int) + 1)])) W3 (.tup [.ref B3, .int ((((ads.map V.ref).length : Nat) : Int) - 1)]))) (a := L9) (o := .lst (ads.map V.ref))
      have t4 := same_new (o := .tup [.ref L9, .non]) nW4
      have e4 := upd_same (H := (upd (upd (upd (upd H17 W1 (.tup [.ref B1, .int (at_ : Int)])) W2 (.tup [.ref B2, .int ((at_ : Int) + 1)])) W3 (.tup [.ref B3, .int ((((ads.map V.ref).length : Nat) : Int) - 1)])) L9 (.lst (ads.map V.ref)))) (a := W4) (o := .tup [.ref L9, .non])
      have t5 := same_new (o := .tup [.non, .non]) nW5
      have e5 := upd_same (H := (upd (upd (upd (upd (upd H17 W1 (.tup [.ref B1, .int (at_ : Int)])) W2 (.tup [.ref B2, .int ((at_ : Int) + 1)])) W3 (.tup [.ref B3, .int ((((ads.map V.ref).length : Nat) : Int) - 1)])) L9 (.lst (ads.map V.ref))) W4 (.tup [.ref L9, .non]))) (a := W5) (o := .tup [.non, .non])
      have t6 := same_new (o := .tup [.str (Str.ofString ""), .non]) nW6
      have e6 := upd_same (H := (upd (upd (upd (upd (upd (upd H17 W1 (.tup [.ref B1, .int (at_ : Int)])) W2 (.tup [.ref B2, .int ((at_ : Int) + 1)])) W3 (.tup [.ref B3, .int ((((ads.map V.ref).length : Nat) : Int) - 1)])) L9 (.lst (ads.map V.ref))) W4 (.tup [.ref L9, .non])) W5 (.tup [.non, .non]))) (a := W6) (o := .tup [.str (Str.ofString ""), .non])
      have t7 := same_new (o := .lst [.ref W1, .ref W2, .ref W3, .ref W4, .ref W5, .ref W6]) nWL
      have e7 := upd_same (H := (upd (upd (upd (upd (upd (upd (upd H17 W1 (.tup [.ref B1, .int (at_ : Int)])) W2 (.tup [.ref B2, .int ((at_ : Int) + 1)])) W3 (.tup [.ref B3, .int ((((ads.map V.ref).length : Nat) : Int) - 1)])) L9 (.lst (ads.map V.ref))) W4 (.tup [.ref L9, .non])) W5 (.tup [.non, .non])) W6 (.tup [.str (Str.ofString ""), .non]))) (a := WL) (o := .lst [.ref W1, .ref W2, .ref W3, .ref W4, .ref W5, .ref W6])
      have f0 := t7 _ _ (t6 _ _ (t5 _ _ (t4 _ _ (t3 _ _ (t2 _ _ (t1 _ _ (e0)))))))
      have f1 := t7 _ _ (t6 _ _ (t5 _ _ (t4 _ _ (t3 _ _ (t2 _ _ (e1))))))
      have f2 := t7 _ _ (t6 _ _ (t5 _ _ (t4 _ _ (t3 _ _ (e2)))))
      have f3 := t7 _ _ (t6 _ _ (t5 _ _ (t4 _ _ (e3))))
      have f4 := t7 _ _ (t6 _ _ (t5 _ _ (e4)))
      have f5 := t7 _ _ (t6 _ _ (e5))
      have f6 := t7 _ _ (e6)
      have y := t0.trans (t1.trans (t2.trans (t3.trans (t4.trans (t5.trans (t6.trans (t7)))))))
      show Q9 (.ref WL) (upd (upd (upd (upd (upd (upd (upd (upd H17 W1 (.tup [.ref B1, .int (at_ : Int)])) W2 (.tup [.ref B2, .int ((at_ : Int) + 1)])) W3 (.tup [.ref B3, .int ((((ads.map V.ref).length : Nat) : Int) - 1)])) L9 (.lst (ads.map V.ref))) W4 (.tup [.ref L9, .non])) W5 (.tup [.non, .non])) W6 (.tup [.str (Str.ofString ""), .non])) WL (.lst [.ref W1, .ref W2, .ref W3, .ref W4, .ref W5, .ref W6]))
      generalize upd (upd (upd (upd (upd (upd (upd (upd H17 W1 (.tup [.ref B1, .int (at_ : Int)])) W2 (.tup [.ref B2, .int ((at_ : Int) + 1)])) W3 (.tup [.ref B3, .int ((((ads.map V.ref).length : Nat) : Int) - 1)])) L9 (.lst (ads.map V.ref))) W4 (.tup [.ref L9, .non])) W5 (.tup [.non, .non])) W6 (.tup [.str (Str.ofString ""), .non])) WL (.lst [.ref W1, .ref W2, .ref W3, .ref W4, .ref W5, .ref W6]) = GP at f0 f1 f2 f3 f4 f5 f6 e7 y ⊢
      refine hQ _ _ ⟨WL, [W1, W2, W3, W4, W5, W6], rfl, e7, y, fun w9 hw => ?_⟩
      have no : ∀ {G : Hp}, NoT K G .non := ⟨_, .base .non, kit_ty (by decide +kernel : kitB "NoneType" "tuple" = some false)⟩
      simp only [List.mem_cons, List.not_mem_nil, or_false] at hw
      rcases hw with rfl | rfl | rfl | rfl | rfl | rfl
      · exact ⟨_, _, f0, wc1'.same y⟩
      · exact ⟨_, _, f1, by
          have := wc2'.same y
          rwa [show ((at_ + 1 : Nat) : Int) = (at_ : Int) + 1 by omega] at this⟩
      · exact ⟨_, _, f2, by
          have := wc3.same y
          rwa [show ((ps.length - 1 : Nat) : Int) = (((ads.map V.ref).length : Nat) : Int) - 1 by rw [List.length_map]; omega] at this⟩
      · exact ⟨_, _, f4, .inl ⟨⟨_, .base (.lst f3), kit_ty (by decide +kernel : kitB "list" "tuple" = some false)⟩, rfl⟩⟩
      · exact ⟨_, _, f5, .inl ⟨no, rfl⟩⟩
      · exact ⟨_, _, f6, .inl ⟨⟨_, .base (.str _), kit_ty (by decide +kernel : kitB "str" "tuple" = some false)⟩, rfl⟩⟩
    rintro _ H18 ⟨WL, ws, rfl, eWL, s18, wall⟩
    refine gname_go ?_
    try dsimp only
    have bg18 := bg17.same s18
    have hfa18 := hfa17.same s18
    have eRL18 := s18 _ _ eRL17
    have eN18 := s18 _ _ eN17
    have pk18 := pk17.same s18
    have bb18 := bb17.trans (SameB.of s18)
    have wc1x := wc1'.same s18
    clear bg17 hfa17 eRL17 eN17 pk17 bb17 wc1' wc2' wc3 s18
    have eB1 : ∃ xs, H18 B1 = some (.tup xs) := by
      rcases wc1x with ⟨_, h⟩ | ⟨q5, xs, os, i5, h1, h2, _⟩
      · cases h
      · cases h1
        exact ⟨xs, h2⟩
    refine ⟨_, rfl, WL, rfl, ⟨_, SqL.of eWL⟩, ?_⟩
    refine for_list (xs := ws.map V.ref) (fun j σ' G => Same H18 G ∧ ∃ x15 x16 : Option V, σ' = [some (.ref p), some (.ref kh), some (.int (n : Int)), some (.ref L1), some (.ref L2), some (.ref x), some (.ref N), none, some (.ref RL), some (.ref fa), some (.int (at_ : Int)), some (.ref B1), some (.ref B2), some (.ref B3), some (.ref WL), x15, x16, none, none]) ⟨Same.refl _, _, _, rfl⟩ (fun j σ' G _ h => SqL.of (h.1 _ _ eWL)) ?_ ?_
    · rintro j y σ' G hj ⟨sG, x15, x16, rfl⟩
      rw [List.getElem?_map] at hj
      obtain ⟨w9, hw9, rfl⟩ := Option.map_eq_some_iff.mp hj
      obtain ⟨g, iv, ew, wc⟩ := wall w9 (List.mem_of_getElem? hw9)
      refine ⟨w9, _, rfl, SqT.of (sG _ _ ew), rfl, _, _, rfl, _, _, rfl, rfl, ?_⟩
      try dsimp only
      have wcG := wc.same sG
      have bgG := bg18.same sG
      have hfaG := hfa18.same sG
      obtain ⟨DD, ⟨r1, r2, r3, r4⟩, hDD⟩ : ∃ DD : PyData, Rok DD ∧ ∀ (G : Hp) (T : Addr), G T = some (.tup [.str (Str.ofString "contents"), iv, .bl true]) → Dp K G (.ref T) DD := by
        rcases wc with ⟨_, rfl⟩ | ⟨_, _, _, i5, _, _, _, _, rfl, l5⟩
        · exact ⟨_, (rp_tol (by decide +kernel : rpB 1 20 (.str (Str.ofString "contents")) = true) rp_non (by decide) (by decide)).ok (by decide) (by decide), fun G T e => dp_tol e .non⟩
        · exact ⟨_, (rp_tol (by decide +kernel : rpB 1 20 (.str (Str.ofString "contents")) = true) (rp_nat (k := i5) (by omega)) (by decide) (by decide)).ok (by decide) (by decide), fun G T e => dp_tol e (.int _)⟩
      refine ⟨_, rfl, _, rfl, _, rfl, x, ⟨z, b, n, TT⟩, .ref fa, g, rfl, bgG, n600, Tok, .inr ⟨fa, f0, rfl, hfaG, ok0, fdep, ?_⟩⟩
      rcases wcG with ⟨hn9, rfl⟩ | ⟨q5, xs5, os5, i5, rfl, e5, pr5, fi5, rfl, l5⟩
      · refine .inl ⟨hn9, fun T2 G2 s2 e2 => ?_⟩
        refine ⟨T2, DD, rfl, hDD _ _ e2, r1, r2, r3, r4, ?_⟩
        refine ⟨_, rfl, Nat.le_of_ble_eq_true rfl, fun T3 nT3 => ?_⟩
        refine ⟨T3, DD, rfl, hDD _ _ upd_same, r1, r2, r3, r4, rfl, _, rfl, iteN2 (by simp) ?_⟩
        exact ⟨sG.trans (s2.trans (same_new nT3)), _, _, rfl⟩
      · refine .inr (.inl ⟨q5, xs5, os5, i5, rfl, e5, pr5, fi5, fun T2 G2 s2 e2 => ?_⟩)
        refine ⟨T2, DD, rfl, hDD _ _ e2, r1, r2, r3, r4, ?_⟩
        refine ⟨_, rfl, Nat.le_of_ble_eq_true rfl, fun T3 nT3 => ?_⟩
        refine ⟨T3, DD, rfl, hDD _ _ upd_same, r1, r2, r3, r4, rfl, _, rfl, iteN2 (by simp) ?_⟩
        exact ⟨sG.trans (s2.trans (same_new nT3)), _, _, rfl⟩
    · rintro σ' G ⟨sG, x15, x16, rfl⟩
      have bg19 := bg18.same sG
      have hfa19 := hfa18.same sG
      have eRL19 := sG _ _ eRL18
      have eN19 := sG _ _ eN18
      have pk19 := pk18.same sG
      have bb19 := bb18.trans (SameB.of sG)
      obtain ⟨xs1, eB1⟩ := eB1
      have eB19 := sG _ _ eB1
      try dsimp only
      refine asg_all (fun v G' => OddV G' p v ∧ SameB p G G' ∧ Pk G' p) (fun Q9 hQ => ?_) ?_
      · refine ⟨_, rfl, _, rfl, p, N, zs, 1, rfl, pk19, eN19, nNp, by omega, by omega, zok, by decide, by decide, fun v1 f1 G1 b1 pk1 tr1 ok1 ops1 => ?_⟩
        refine ⟨v1, f1, rfl, tr1, ok1, by omega, by have := Fm.dep_ops f1; omega, Nat.le_of_ble_eq_true rfl, fun T5 nT5 => ?_⟩
        refine ⟨_, rfl, Nat.le_of_ble_eq_true rfl, fun L5 nL5 => ⟨Nat.le_of_ble_eq_true rfl, fun LO nLO => ?_⟩⟩
        have y1 := same_new (o := .tup [.str (Str.ofString "*"), .int 1, .int 2]) nT5
        have y2 := same_new (o := .lst [V.ref fa]) nL5
        have y3 := same_new (o := .lst [.str (Str.ofString "a"), .non, .int 0, .str (S f1.txt), .ref T5, .bl true, .ref L5]) nLO
        have eT := y3 _ _ (y2 _ _ (upd_same (H := G1) (a := T5) (o := .tup [.str (Str.ofString "*"), .int 1, .int 2])))
        have eL := y3 _ _ (upd_same (H := upd G1 T5 (.tup [.str (Str.ofString "*"), .int 1, .int 2])) (a := L5) (o := .lst [V.ref fa]))
        have eO := upd_same (H := upd (upd G1 T5 (.tup [.str (Str.ofString "*"), .int 1, .int 2])) L5 (.lst [V.ref fa])) (a := LO) (o := .lst [.str (Str.ofString "a"), .non, .int 0, .str (S f1.txt), .ref T5, .bl true, .ref L5])
        have y := (y1.trans y2).trans y3
        have nL5p : L5 ≠ p := (pk1.same y1).ne nL5
        have nLOp : LO ≠ p := ((pk1.same y1).same y2).ne nLO
        show tCall spPick [] E0 _ _ (upd (upd (upd G1 T5 (.tup [.str (Str.ofString "*"), .int 1, .int 2])) L5 (.lst [V.ref fa])) LO (.lst [.str (Str.ofString "a"), .non, .int 0, .str (S f1.txt), .ref T5, .bl true, .ref L5])) _
        generalize upd (upd (upd G1 T5 (.tup [.str (Str.ofString "*"), .int 1, .int 2])) L5 (.lst [V.ref fa])) LO (.lst [.str (Str.ofString "a"), .non, .int 0, .str (S f1.txt), .ref T5, .bl true, .ref L5]) = G2 at eT eL eO y ⊢
        have pk2 := pk1.same y
        refine ⟨_, rfl, p, 7, rfl, pk2, by decide, by decide, fun j G3 hj c3 pk3 => ?_⟩
        have ok : ∃ v, [V.str (Str.ofString "a"), .non, .int 0, .str (S f1.txt), .ref T5, .bl true, .ref L5][j]? = some v ∧ OddV G3 p v := match j, hj with
          | 0, _ => ⟨_, rfl, .str _⟩
          | 1, _ => ⟨_, rfl, .non⟩
          | 2, _ => ⟨_, rfl, .int _⟩
          | 3, _ => ⟨_, rfl, .str _⟩
          | 4, _ => ⟨_, rfl, .tup (tup_keep pk2 c3 _ _ eT)⟩
          | 5, _ => ⟨_, rfl, .bl _⟩
          | 6, _ => ⟨_, rfl, .lst (c3 _ _ nL5p eL) nL5p⟩
          | j + 7, h => absurd h (by omega)
        obtain ⟨v, hv, od⟩ := ok
        exact ⟨LO, _, _, v, rfl, rfl, SqL.of (c3 _ _ nLOp eO), atI_nat hv, hQ _ _ ⟨od, (b1.trans (SameB.of y)).trans c3, pk3⟩⟩
      rintro vo H20 ⟨od, b20, pk20⟩
      refine gname_go ?_
      try dsimp only
      have bg20 := bg19.keepL (pk19.keepL b20)
      have eRL20 := b20 _ _ nRp eRL19
      have eB20 := tup_keep pk19 b20 _ _ eB19
      have bb20 := bb19.trans b20
      clear bg19 hfa19 eRL19 eN19 pk19 bb19 eB19 b20
      refine asg_all (fun v G' => ∃ T9, v = .ref T9 ∧ G' T9 = some (.tup [.str (Str.ofString "formula"), vo, .bl true]) ∧ OddV G' p vo ∧ SameB p H20 G') (fun Q9 hQ => ?_) ?_
      · refine ⟨_, rfl, _, rfl, _, rfl, _, rfl, RL, _, rfl, .inl ⟨SqL.of eRL20, fun T6 nT6 => ⟨Nat.le_of_ble_eq_true rfl, fun L6 nL6 => ?_⟩⟩⟩
        have y1 := same_new (o := .tup (ads.map V.ref)) nT6
        have y2 := same_new (o := .lst [V.ref B1, .ref T6, .non]) nL6
        have eL := upd_same (H := upd H20 T6 (.tup (ads.map V.ref))) (a := L6) (o := .lst [V.ref B1, .ref T6, .non])
        have nLp : L6 ≠ p := (pk20.same y1).ne nL6
        have y := y1.trans y2
        show tCall spPick [] E0 _ _ (upd (upd H20 T6 (.tup (ads.map V.ref))) L6 (.lst [V.ref B1, .ref T6, .non])) _
        generalize upd (upd H20 T6 (.tup (ads.map V.ref))) L6 (.lst [V.ref B1, .ref T6, .non]) = G2 at eL y ⊢
        have pk2 := pk20.same y
        refine ⟨_, rfl, p, 3, rfl, pk2, by decide, by decide, fun j G3 hj c3 pk3 => ?_⟩
        obtain ⟨vc, hvc⟩ : ∃ v, [V.ref B1, .ref T6, .non][j]? = some v := ⟨_, List.getElem?_eq_getElem hj⟩
        refine ⟨L6, _, _, vc, rfl, rfl, SqL.of (c3 _ _ nLp eL), atI_nat hvc, ?_⟩
        have od3 := (od.same y).B pk2 c3
        refine ⟨x, ⟨z, b, n, TT⟩, vo, vc, rfl, (bg20.same y).keepL (pk2.keepL c3), n600, Tok, .inl ⟨od3.noF OG, fun T9 G4 s4 e4 => hQ _ _ ⟨T9, rfl, e4, od3.same s4, ((SameB.of y).trans c3).trans (SameB.of s4)⟩⟩⟩
      rintro _ H21 ⟨T9, rfl, e9, od9, b21⟩
      refine gname_go ?_
      try dsimp only
      have fin := q H21 (bb20.trans b21)
      refine ret_go ?_
      refine ⟨_, rfl, T9, _, _, .str (Str.ofString "formula"), rfl, rfl, SqT.of e9, atI_nat (j := 0) rfl, rfl, ?_⟩
      refine ⟨_, rfl, iteT2 (decide_eq_true rfl) ?_⟩
      refine ⟨_, rfl, T9, _, _, vo, rfl, rfl, SqT.of e9, atI_nat (j := 1) rfl, _, rfl, od9.eq ⟨_, rfl, iteT ?_⟩⟩
      exact ⟨_, rfl, T9, _, _, .bl true, rfl, rfl, SqT.of e9, atI_nat (j := 2) rfl, true, rfl, by rw [decide_eq_true rfl]; exact fin⟩
end
end L2.K15
set_option Elab.async false
set_option linter.all false
set_option maxRecDepth 100000
set_option maxHeartbeats 8000000
namespace L2.K15
open PySem PySem.Spec PyProof.Rows L2.Tb
open SX (S)
abbrev s_law : Stmt := top 77
abbrev N_law : List Str := ["_law_script", "_law_spot"]
theorem sc_law : FnScope N_law ["_law_script"] (defScope s_law) := ⟨rfl, rfl, rfl, by decide +kernel, rfl, by decide +kernel, by decide +kernel⟩
def spLaw (K : PySem.W.Frag) : Sp := fun vs H Q _ => ∃ (a : Addr) (ns : List Int), vs = [.ref a] ∧ SqL K H a (ns.map V.int) ∧ (∀ z ∈ ns, iBits z ≤ 1048576) ∧ ns.length ≤ 63 ∧ ∀ H' : Hp, Q (.bl true) H'
section
variable {P : Program} {w : World} {K : PySem.W.Frag} {mg : Str → Option Value} {base : Heap} {f : Addr} {fd : FuncData} {A : Around}
theorem r_law (T : Bt mg) (F : FnP K "law" s_law f fd) (hroom : Room 22 A) (hg : A.guards = some []) (k_purse : Cal P w K mg base 1 "_law_purse" (spPurse K)) (g_right : CalG P w K mg base 20 "_law_right" spRight) : RunsAt P w K mg base f fd ["_law_script"] (spLaw K) A := by
  have hnd := sc_law.nd
  refine runs_body F sc_law hroom fun cdv outer s H vs Q E hr h => ?_
  have free : (A.deeper (envOfC "law" (defScope s_law) s.heap.objs.size f cdv)).guards = some [] := hg
  obtain ⟨a, ns, rfl, hs, hb, hl, q⟩ := h
  refine ⟨_, PSs.nox (pss_one (ps_ret (pe_callB (cr_all (by rfl)) (by rfl) T.m_all (by decide +kernel) (pa_cons (pe_lc (own := [("_law_spot", 1)]) (tt := tYes) (by rfl) hnd (pi_range1 (by rfl) T.m_range (pa_cons (pe_callB (call_max2 (by rfl)) (by rfl) T.m_max (by decide +kernel) (pa_cons pe_int (pa_cons (pe_callB (call_min2 (by rfl)) (by rfl) T.m_min (by decide +kernel) (pa_cons (pe_callB call_len_seq (by rfl) T.m_len (by decide +kernel) (pa_cons (pv 0) pa_nil)) (pa_cons pe_int pa_nil))) pa_nil))) pa_nil)) (blkOk_by (own := [("_law_spot", 1)]) (N := N_law) (sc := defScope s_law) (by decide +kernel)) (fun _ _ _ _ _ => (pg_name (i := 1) hnd rfl (by first | exact Or.inl rfl | exact Or.inr rfl))) (fun _ _ _ _ _ => pts_nil) (fun _ _ _ _ _ => (pe_calG g_right hr (by omega) free (by rfl) (pa_cons (pe_cal k_purse hr (by omega) (by rfl) (pa_cons (pv 0) (pa_cons (pv 1) pa_nil))) pa_nil)))) pa_nil)))), ?_⟩
  refine ret_go (cb_one ?_)
  refine ⟨_, rfl, a, _, rfl, .inl hs, _, _, rfl, _, _, rfl, _, rfl, ?_⟩
  have hb0 : ∀ z : Int, 0 ≤ (if (if 5 < z then 5 else z) > 2 then if 5 < z then 5 else z else 2) ∧ (if (if 5 < z then 5 else z) > 2 then if 5 < z then 5 else z else 2) ≤ 5 := fun z => by
    by_cases h1 : 5 < z
    · rw [if_pos h1, if_pos (by decide)]
      decide
    · rw [if_neg h1]
      by_cases h2 : z > 2
      · rw [if_pos h2]
        omega
      · rw [if_neg h2]
        decide
  have hm := hb0 ((ns.map V.int).length : Nat)
  generalize (if (if 5 < (((ns.map V.int).length : Nat) : Int) then 5 else (((ns.map V.int).length : Nat) : Int)) > 2 then if 5 < (((ns.map V.int).length : Nat) : Int) then 5 else (((ns.map V.int).length : Nat) : Int) else 2) = m at hm ⊢
  refine ⟨by omega, by omega, fun D nD => ?_⟩
  refine lc_range (n := m.toNat) (fun n H' => Same H H' ∧ H' D = some (.lst (List.replicate n (.bl true)))) ⟨same_new nD, upd_same⟩ ?_ ?_
  · rintro j G1 hj ⟨x1, e1⟩
    refine gname_go ⟨rfl, ?_⟩
    unfold tYes
    dsimp only
    rw [if_pos rfl]
    rw [Int.zero_add]
    refine ⟨_, rfl, _, rfl, a, ns, j, rfl, SqX.same (b := false) hs x1, by omega, by omega, fun p G2 s2 np pk => ?_⟩
    refine ⟨p, rfl, pk, fun G3 s3 => ?_⟩
    have s13 : Same G1 G3 := fun b o e => s3 _ _ (fun z => by rw [z, np] at e; cases e) (s2 _ _ e)
    refine ⟨_, s13 _ _ e1, by rw [List.length_replicate, sizeLine_eq]; omega, same_put nD (x1.trans s13), ?_⟩
    rw [upd_same, show List.replicate j (V.bl true) ++ [.bl true] = List.replicate (j + 1) (V.bl true) from (List.replicate_succ').symm]
  · rintro G1 ⟨x1, e1⟩
    refine ⟨D, List.replicate m.toNat true, rfl, SqL.of (by rw [e1, List.map_replicate]), ?_⟩
    rw [show (List.replicate m.toNat true).all id = true from List.all_eq_true.mpr fun b hb => by rw [List.eq_of_mem_replicate hb]; rfl]
    exact q G1
end
end L2.K15
set_option Elab.async false
set_option linter.all false
set_option maxRecDepth 100000
set_option maxHeartbeats 0
namespace L2.K15
open PySem PySem.Spec PyProof.Rows L2.Tb
open SX (S)
section
variable {P : Program} {w : World} {K : PySem.W.Frag} {mg : Str → Option Value} {h : Heap}
theorem ends {f : Addr} (G : h.Ns mainGlobals mg) (hfa : mg ("law" : Str) = some (.ref f)) (c : SaysH factB fnA tabL cdL w h K) :
    ∃ (fd : FuncData), (∀ (s : Shared) (v : Value), BindsTo s fd ⟨[v], []⟩ [("_law_script", v)]) ∧ 
      ∀ base : Heap, K.In base → base.Ns mainGlobals mg → RunsAt P w K mg base f fd ["_law_script"] (spLaw K) callerA := by
  have X := c.kin
  obtain ⟨f1, z⟩ := He.ba (show factB K = true from c.fb)
  obtain ⟨f2, z⟩ := He.ba z
  obtain ⟨fErr, z⟩ := He.ba z
  obtain ⟨fCalm, z⟩ := He.ba z
  obtain ⟨fKind, z⟩ := He.ba z
  obtain ⟨fLots, z⟩ := He.ba z
  obtain ⟨fOth, z⟩ := He.ba z
  obtain ⟨fMo, z⟩ := He.ba z
  obtain ⟨fIx0, z⟩ := He.ba z
  obtain ⟨fIx1, z⟩ := He.ba z
  obtain ⟨fIx2, z⟩ := He.ba z
  obtain ⟨fMany, z⟩ := He.ba z
  obtain ⟨b_cls, z⟩ := He.ba z
  obtain ⟨b_noK, z⟩ := He.ba z
  obtain ⟨b_noS, z⟩ := He.ba z
  obtain ⟨b_noT, z⟩ := He.ba z
  obtain ⟨b_mkr, z⟩ := He.ba z
  obtain ⟨b_ins, z⟩ := He.ba z
  obtain ⟨b_self, z⟩ := He.ba z
  obtain ⟨b_e0, z⟩ := He.ba z
  obtain ⟨b_m_value, z⟩ := He.ba z
  obtain ⟨fOdd, z⟩ := He.ba z
  obtain ⟨xIc, z⟩ := He.ba z
  obtain ⟨ecf, z⟩ := He.ba z
  obtain ⟨ecc, z⟩ := He.ba z
  obtain ⟨kfw, z⟩ := He.ba z
  obtain ⟨kcw, z⟩ := He.ba z
  obtain ⟨fL, z⟩ := He.ba z
  obtain ⟨fD, z⟩ := He.ba z
  obtain ⟨fM, z⟩ := He.ba z
  obtain ⟨fMo8, z⟩ := He.ba z
  obtain ⟨c_cls, z⟩ := He.ba z
  obtain ⟨c_n1, z⟩ := He.ba z
  obtain ⟨c_n2, z⟩ := He.ba z
  obtain ⟨c_n3, z⟩ := He.ba z
  obtain ⟨c_n4, z⟩ := He.ba z
  obtain ⟨c_n5, z⟩ := He.ba z
  obtain ⟨c_n6, z⟩ := He.ba z
  obtain ⟨c_n7, z⟩ := He.ba z
  obtain ⟨c_mkr, z⟩ := He.ba z
  obtain ⟨c_ins, z⟩ := He.ba z
  obtain ⟨c_self, z⟩ := He.ba z
  obtain ⟨c_fmt, z⟩ := He.ba z
  obtain ⟨c_ne, z⟩ := He.ba z
  obtain ⟨c_m___mul__, z⟩ := He.ba z
  obtain ⟨c_m___floordiv__, z⟩ := He.ba z
  obtain ⟨c_m___rshift__, z⟩ := He.ba z
  obtain ⟨c_m___contains__, z⟩ := He.ba z
  obtain ⟨c_m___len__, z⟩ := He.ba z
  obtain ⟨c_m___eq__, z⟩ := He.ba z
  obtain ⟨c_m___str__, z⟩ := He.ba z
  obtain ⟨c_p_sign, z⟩ := He.ba z
  obtain ⟨c_p_name, z⟩ := He.ba z
  obtain ⟨c_p_left, z⟩ := He.ba z
  obtain ⟨c_p_right, z⟩ := He.ba z
  obtain ⟨c_p_parts, z⟩ := He.ba z
  obtain ⟨c_sf, z⟩ := He.ba z
  obtain ⟨c_r_Mult, z⟩ := He.ba z
  obtain ⟨c_r_FloorDiv, z⟩ := He.ba z
  have c_r_RShift := z
  have T : Bt mg := ⟨He.free_ok X G (all_get f2 0), He.free_ok X G (all_get f2 1), He.free_ok X G (all_get f2 2), He.free_ok X G (all_get f2 3), He.free_ok X G (all_get f2 4), He.free_ok X G (all_get f2 5), He.free_ok X G (all_get f2 6), He.free_ok X G (all_get f2 7), He.free_ok X G (all_get f2 8), He.free_ok X G (all_get f2 9), He.free_ok X G (all_get f2 10), He.free_ok X G (all_get f2 11), He.free_ok X G (all_get f2 12), He.free_ok X G (all_get f2 13), He.free_ok X G (all_get f2 14), He.free_ok X G (all_get f2 15), He.free_ok X G (all_get f2 16), He.free_ok X G (all_get f2 17), He.free_ok X G (all_get f2 18)⟩
  have mstr : mg "str" = none := He.free_ok X G (all_get f2 19)
  obtain ⟨fd_is_integer, F_is_integer⟩ := c.nth (d := dTop "is_integer" 21) 0
  have g_is_integer := He.glo_ok X G (all_get f1 16)
  obtain ⟨fd_is_triple, F_is_triple⟩ := c.nth (d := dTop "is_triple" 22) 1
  have g_is_triple := He.glo_ok X G (all_get f1 17)
  obtain ⟨fd_is_name, F_is_name⟩ := c.nth (d := dTop "is_name" 23) 2
  have g_is_name := He.glo_ok X G (all_get f1 18)
  obtain ⟨fd_letter, F_letter⟩ := c.nth (d := dTop "letter" 28) 3
  have g_letter := He.glo_ok X G (all_get f1 19)
  obtain ⟨fd_signed_triple, F_signed_triple⟩ := c.nth (d := dTop "signed_triple" 30) 4
  have g_signed_triple := He.glo_ok X G (all_get f1 20)
  obtain ⟨fd_check_formula, F_check_formula⟩ := c.nth (d := dTop "check_formula" 31) 5
  have g_check_formula := He.glo_ok X G (all_get f1 21)
  obtain ⟨fd__signed, F__signed⟩ := c.nth (d := dTop "_signed" 32) 6
  have g__signed := He.glo_ok X G (all_get f1 22)
  obtain ⟨fd__in_order, F__in_order⟩ := c.nth (d := dTop "_in_order" 33) 7
  have g__in_order := He.glo_ok X G (all_get f1 23)
  obtain ⟨fd_check_kind, F_check_kind⟩ := c.nth (d := dTop "check_kind" 41) 8
  have g_check_kind := He.glo_ok X G (all_get f1 24)
  obtain ⟨fd_is_thing, F_is_thing⟩ := c.nth (d := dTop "is_thing" 46) 9
  have g_is_thing := He.glo_ok X G (all_get f1 25)
  obtain ⟨fd__check_triples, F__check_triples⟩ := c.nth (d := dTop "_check_triples" 49) 10
  have g__check_triples := He.glo_ok X G (all_get f1 26)
  obtain ⟨fd__check_contents, F__check_contents⟩ := c.nth (d := dTop "_check_contents" 51) 11
  have g__check_contents := He.glo_ok X G (all_get f1 27)
  obtain ⟨fd__is_content, F__is_content⟩ := c.nth (d := dTop "_is_content" 52) 12
  have g__is_content := He.glo_ok X G (all_get f1 28)
  obtain ⟨fd__key, F__key⟩ := c.nth (d := dTop "_key" 53) 13
  have g__key := He.glo_ok X G (all_get f1 29)
  obtain ⟨fd__completed, F__completed⟩ := c.nth (d := dTop "_completed" 54) 14
  have g__completed := He.glo_ok X G (all_get f1 30)
  obtain ⟨fd__value, F__value⟩ := c.nth (d := dTop "_value" 55) 15
  have g__value := He.glo_ok X G (all_get f1 31)
  obtain ⟨fd__with_triples, F__with_triples⟩ := c.nth (d := dTop "_with_triples" 56) 16
  have g__with_triples := He.glo_ok X G (all_get f1 32)
  obtain ⟨fd_purse, F_purse⟩ := c.nth (d := dTop "_law_purse" 59) 17
  have g_purse := He.glo_ok X G (all_get f1 33)
  obtain ⟨fd_pick, F_pick⟩ := c.nth (d := dTop "_law_pick" 60) 18
  have g_pick := He.glo_ok X G (all_get f1 34)
  obtain ⟨fd_kind, F_kind⟩ := c.nth (d := dTop "_law_kind" 61) 19
  have g_kind := He.glo_ok X G (all_get f1 35)
  obtain ⟨fd_turns, F_turns⟩ := c.nth (d := dTop "_law_turns" 62) 20
  have g_turns := He.glo_ok X G (all_get f1 36)
  obtain ⟨fd_images, F_images⟩ := c.nth (d := dTop "_law_images" 63) 21
  have g_images := He.glo_ok X G (all_get f1 37)
  obtain ⟨fd_clash, F_clash⟩ := c.nth (d := dTop "_law_clash" 64) 22
  have g_clash := He.glo_ok X G (all_get f1 38)
  obtain ⟨fd_names, F_names⟩ := c.nth (d := dTop "_law_names" 65) 23
  have g_names := He.glo_ok X G (all_get f1 39)
  obtain ⟨fd_form, F_form⟩ := c.nth (d := dTop "_law_form" 66) 24
  have g_form := He.glo_ok X G (all_get f1 40)
  obtain ⟨fd_text, F_text⟩ := c.nth (d := dTop "_law_text" 67) 25
  have g_text := He.glo_ok X G (all_get f1 41)
  obtain ⟨fd_made, F_made⟩ := c.nth (d := dTop "_law_made" 68) 26
  have g_made := He.glo_ok X G (all_get f1 42)
  obtain ⟨fd_rules, F_rules⟩ := c.nth (d := dTop "_law_rules" 69) 27
  have g_rules := He.glo_ok X G (all_get f1 43)
  obtain ⟨fd_mixed, F_mixed⟩ := c.nth (d := dTop "_law_mixed" 70) 28
  have g_mixed := He.glo_ok X G (all_get f1 44)
  obtain ⟨fd_square, F_square⟩ := c.nth (d := dTop "_law_square" 71) 29
  have g_square := He.glo_ok X G (all_get f1 45)
  obtain ⟨fd_fits, F_fits⟩ := c.nth (d := dTop "_law_fits" 72) 30
  have g_fits := He.glo_ok X G (all_get f1 46)
  obtain ⟨fd_begun, F_begun⟩ := c.nth (d := dTop "_law_begun" 73) 31
  have g_begun := He.glo_ok X G (all_get f1 47)
  obtain ⟨fd_told, F_told⟩ := c.nth (d := dTop "_law_told" 74) 32
  have g_told := He.glo_ok X G (all_get f1 48)
  obtain ⟨fd_bent, F_bent⟩ := c.nth (d := dTop "_law_bent" 75) 33
  have g_bent := He.glo_ok X G (all_get f1 49)
  obtain ⟨fd_right, F_right⟩ := c.nth (d := dTop "_law_right" 76) 34
  have g_right := He.glo_ok X G (all_get f1 50)
  obtain ⟨fd_law, F_law⟩ := c.nth (d := dTop "law" 77) 35
  have g_law := He.glo_ok X G (all_get f1 51)
  have e := hfa.symm.trans g_law
  cases e
  obtain ⟨er1, er2⟩ := errsB_ok fErr
  obtain ⟨k1, fKind⟩ := He.ba fKind
  obtain ⟨k2, fKind⟩ := He.ba fKind
  obtain ⟨k3, fKind⟩ := He.ba fKind
  obtain ⟨k4, fKind⟩ := He.ba fKind
  obtain ⟨k5, fKind⟩ := He.ba fKind
  obtain ⟨k6, fKind⟩ := He.ba fKind
  obtain ⟨k7, fKind⟩ := He.ba fKind
  have k8 := fKind
  obtain ⟨es, n, D⟩ := c.tb (fun K => He.ga K "LOTS", wordsD) List.mem_cons_self
  obtain ⟨inL, lots⟩ := lotsB_ok fLots D
  refine ⟨_, fun s v => FunD.bindsA (ps := ["_law_script"]) F_law (fun _ _ _ _ _ _ us hl => match us, hl with | [_], _ => rfl) s [v] rfl, fun base _ _ => ?_⟩
  have e_InvalidTurns : ErC P w K mg base "InvalidTurns" "given" bVE (He.ga K "InvalidTurns") := erc_of (st := inClass (top 7) 0) X G (er1 "InvalidTurns" (by decide)).1 bVE_ok (c.nth (d := dIn (fun K => He.ma K (He.ga K "InvalidTurns") "__init__") "__init__" "InvalidTurns.__init__" (inClass (top 7) 0) []) 36) rfl ⟨rfl, rfl, rfl, by decide +kernel, rfl, by decide +kernel, by decide +kernel⟩ rfl rfl (by decide) (by decide) (fun _ _ _ _ _ _ us hl => match us, hl with | [_, _], _ => rfl) (fun _ _ _ _ _ _ _ _ => rfl)
  have e_InvalidFlag : ErC P w K mg base "InvalidFlag" "given" bVE (He.ga K "InvalidFlag") := erc_of (st := inClass (top 5) 0) X G (er1 "InvalidFlag" (by decide)).1 bVE_ok (c.nth (d := dIn (fun K => He.ma K (He.ga K "InvalidFlag") "__init__") "__init__" "InvalidFlag.__init__" (inClass (top 5) 0) []) 37) rfl ⟨rfl, rfl, rfl, by decide +kernel, rfl, by decide +kernel, by decide +kernel⟩ rfl rfl (by decide) (by decide) (fun _ _ _ _ _ _ us hl => match us, hl with | [_, _], _ => rfl) (fun _ _ _ _ _ _ _ _ => rfl)
  have e_NotAKind : ErC P w K mg base "NotAKind" "given" bVE (He.ga K "NotAKind") := erc_of (st := inClass (top 8) 0) X G (er1 "NotAKind" (by decide)).1 bVE_ok (c.nth (d := dIn (fun K => He.ma K (He.ga K "NotAKind") "__init__") "__init__" "NotAKind.__init__" (inClass (top 8) 0) []) 38) rfl ⟨rfl, rfl, rfl, by decide +kernel, rfl, by decide +kernel, by decide +kernel⟩ rfl rfl (by decide) (by decide) (fun _ _ _ _ _ _ us hl => match us, hl with | [_, _], _ => rfl) (fun _ _ _ _ _ _ _ _ => rfl)
  have e_InvalidNumber : ErC P w K mg base "InvalidNumber" "given" bVE (He.ga K "InvalidNumber") := erc_of (st := inClass (top 6) 0) X G (er1 "InvalidNumber" (by decide)).1 bVE_ok (c.nth (d := dIn (fun K => He.ma K (He.ga K "InvalidNumber") "__init__") "__init__" "InvalidNumber.__init__" (inClass (top 6) 0) []) 39) rfl ⟨rfl, rfl, rfl, by decide +kernel, rfl, by decide +kernel, by decide +kernel⟩ rfl rfl (by decide) (by decide) (fun _ _ _ _ _ _ us hl => match us, hl with | [_, _], _ => rfl) (fun _ _ _ _ _ _ _ _ => rfl)
  have e_InvalidName : ErC P w K mg base "InvalidName" "given" bVE (He.ga K "InvalidName") := erc_of (st := inClass (top 3) 0) X G (er1 "InvalidName" (by decide)).1 bVE_ok (c.nth (d := dIn (fun K => He.ma K (He.ga K "InvalidName") "__init__") "__init__" "InvalidName.__init__" (inClass (top 3) 0) []) 40) rfl ⟨rfl, rfl, rfl, by decide +kernel, rfl, by decide +kernel, by decide +kernel⟩ rfl rfl (by decide) (by decide) (fun _ _ _ _ _ _ us hl => match us, hl with | [_, _], _ => rfl) (fun _ _ _ _ _ _ _ _ => rfl)
  have e_NotAFormula : ErC P w K mg base "NotAFormula" "given" bVE (He.ga K "NotAFormula") := erc_of (st := inClass (top 9) 0) X G (er1 "NotAFormula" (by decide)).1 bVE_ok (c.nth (d := dIn (fun K => He.ma K (He.ga K "NotAFormula") "__init__") "__init__" "NotAFormula.__init__" (inClass (top 9) 0) []) 41) rfl ⟨rfl, rfl, rfl, by decide +kernel, rfl, by decide +kernel, by decide +kernel⟩ rfl rfl (by decide) (by decide) (fun _ _ _ _ _ _ us hl => match us, hl with | [_, _], _ => rfl) (fun _ _ _ _ _ _ _ _ => rfl)
  have e_InvalidTriples : ErC P w K mg base "InvalidTriples" "index" bVE (He.ga K "InvalidTriples") := erc_of (st := inClass (top 12) 0) X G (He.ba fIx0).1 bVE_ok (c.nth (d := dIn (fun K => He.ma K (He.ga K "InvalidTriples") "__init__") "__init__" "InvalidTriples.__init__" (inClass (top 12) 0) []) 42) rfl ⟨rfl, rfl, rfl, by decide +kernel, rfl, by decide +kernel, by decide +kernel⟩ rfl rfl (by decide) (by decide) (fun _ _ _ _ _ _ us hl => match us, hl with | [_, _], _ => rfl) (fun _ _ _ _ _ _ _ _ => rfl)
  have t_InvalidTriples := of_decide_eq_true (He.ba fIx0).2
  have e_Clash : ErC P w K mg base "Clash" "index" bVE (He.ga K "Clash") := erc_of (st := inClass (top 14) 0) X G (He.ba fIx1).1 bVE_ok (c.nth (d := dIn (fun K => He.ma K (He.ga K "Clash") "__init__") "__init__" "Clash.__init__" (inClass (top 14) 0) []) 43) rfl ⟨rfl, rfl, rfl, by decide +kernel, rfl, by decide +kernel, by decide +kernel⟩ rfl rfl (by decide) (by decide) (fun _ _ _ _ _ _ us hl => match us, hl with | [_, _], _ => rfl) (fun _ _ _ _ _ _ _ _ => rfl)
  have t_Clash := of_decide_eq_true (He.ba fIx1).2
  have e_InvalidContents : ErC P w K mg base "InvalidContents" "index" bVE (He.ga K "InvalidContents") := erc_of (st := inClass (top 13) 0) X G (He.ba fIx2).1 bVE_ok (c.nth (d := dIn (fun K => He.ma K (He.ga K "InvalidContents") "__init__") "__init__" "InvalidContents.__init__" (inClass (top 13) 0) []) 44) rfl ⟨rfl, rfl, rfl, by decide +kernel, rfl, by decide +kernel, by decide +kernel⟩ rfl rfl (by decide) (by decide) (fun _ _ _ _ _ _ us hl => match us, hl with | [_, _], _ => rfl) (fun _ _ _ _ _ _ _ _ => rfl)
  have t_InvalidContents := of_decide_eq_true (He.ba fIx2).2
  have eM : ErC P w K mg base "TooMany" "limit" bAE (He.ga K "TooMany") := erc_of (st := inClass (top 16) 0) X G (He.ba fMany).1 bAE_ok (c.nth (d := dIn (fun K => He.ma K (He.ga K "TooMany") "__init__") "__init__" "TooMany.__init__" (inClass (top 16) 0) []) 45) rfl ⟨rfl, rfl, rfl, by decide +kernel, rfl, by decide +kernel, by decide +kernel⟩ rfl rfl (by decide) (by decide) (fun _ _ _ _ _ _ us hl => match us, hl with | [_, _], _ => rfl) (fun _ _ _ _ _ _ _ _ => rfl)
  have KF : KiF P w K mg base (He.ga K "Kind") (He.ga K "LOTS") (He.ga K "InvalidTurns") (He.ga K "InvalidFlag") es n := ⟨He.glo_ok X G (all_get f1 10), He.cls_ok k1, He.noat_ok k2, He.noat_ok k3, He.glo_ok X G (all_get f1 11), D, inL, e_InvalidTurns, e_InvalidFlag, (er1 "InvalidTurns" (by decide)).2.1, (er1 "InvalidFlag" (by decide)).2.1⟩
  have KG : KiG K w mg (He.ga K "Kind") (He.ga K "LOTS") := ⟨He.str_ok X G fCalm, lots, insB_ok k5, of_decide_eq_true k8⟩
  have KM := He.mkr_ok k4
  obtain ⟨fdKi, Ki⟩ := c.nth (d := dIn (fun K => He.ma K (He.ga K "Kind") "__init__") "__init__" "Kind.__init__" (inClass (top 40) 0) [("calm", .bl false)]) 46
  obtain ⟨fdKc, Kc⟩ := c.nth (d := dIn (fun K => pAd K (He.ga K "Kind") "calm") "calm" "Kind.calm" (inClass (top 40) 3) []) 47
  obtain ⟨fdKl, Kl⟩ := c.nth (d := dIn (fun K => pAd K (He.ga K "Kind") "lot") "lot" "Kind.lot" (inClass (top 40) 4) []) 48
  obtain ⟨fdBi, Bi⟩ := c.nth (d := (⟨fun K => He.ma K (He.ga K "Beginning") "__init__", "__init__", "Beginning.__init__", defArgs (inClass (top 45) 0), defBody (inClass (top 45) 0), defScope (inClass (top 45) 0), [He.Dv.adr e0A], []⟩ : He5.DefA)) 49
  obtain ⟨fdB_value, B_value⟩ := c.nth (d := dIn (fun K => He.ma K (He.ga K "Beginning") "value") "value" "Beginning.value" (inClass (top 45) 9) []) 50
  have mdict : mg "dict" = none := He.free_ok X G (all_get f2 20)
  have c_i := c_kinit T mstr KF Ki
  obtain ⟨B1k, _⟩ := kinit_binds Ki
  have PC := propB_ok k6
  have FC := c_kcalm KF Kc
  have BCk : Binds K fdKc ["self"] [] := Kc.bindsN (fun _ _ _ _ _ _ us hl => match us, hl with | [_], _ => rfl)
  have PL := propB_ok k7
  have FL := c_klot KF KG Kl
  have BLk : Binds K fdKl ["self"] [] := Kl.bindsN (fun _ _ _ _ _ _ us hl => match us, hl with | [_], _ => rfl)
  obtain ⟨o0, o1, o2, oA, oB, oC, oD⟩ := othB_ok fOth
  have BGc : BgC K mg := ⟨He.int_ok X G fMo, ⟨_, o0, o1, o2, He.glo_ok X G (all_get f1 12), oA, oB, oC, oD⟩⟩
  have BF : BgF K mg (He.ga K "Beginning") := ⟨He.glo_ok X G (all_get f1 13), He.cls_ok b_cls, He.noat_ok b_noK, He.noat_ok b_noS, He.noat_ok b_noT, insB_ok b_ins, of_decide_eq_true b_self⟩
  have BM := He.mkr_ok b_mkr
  have k_is_integer := c_is_integer (P := P) (w := w) (base := base) T F_is_integer g_is_integer
  have k_is_thing := c_is_thing k_is_integer F_is_thing g_is_thing
  have k_key := c_key (P := P) (w := w) (base := base) BGc F__key g__key
  have x_with := c_with_triples T mdict KF PL FL BLk k_key e_Clash t_Clash F__with_triples g__with_triples
  have k_is_triple := c_is_triple T k_is_integer F_is_triple g_is_triple
  have x_trs := c_check_triples T k_is_triple e_InvalidTriples t_InvalidTriples F__check_triples g__check_triples
  have x_ck := calX_of (st := s_check_kind) F_check_kind g_check_kind (fun _ _ _ _ _ _ us hl => match us, hl with | [_], _ => rfl) (c_check T KF KG e_NotAKind (er1 "NotAKind" (by decide)).2.1 F_check_kind)
  have c_bi := c_binit T BF BGc KF PC FC BCk x_ck k_is_integer e_InvalidNumber (er1 "InvalidNumber" (by decide)).2.1 x_trs x_with Bi
  have Bi3 : ∃ ds, Vals ([] : List V) ds ∧ Binds K fdBi ["self", "kind", "size", "triples"] ds := FunD.binds1 (ps := ["self", "kind", "size", "triples"]) Bi 4 1 (by intro z; cases z) rfl fun T9 kV doc pm an cdv ct us its l1 l2 => match us, its, l1, l2 with
    | [_, _, _, _], [_], _, _ => ⟨_, rfl, rfl⟩
  have Bi2 : ∃ ds, Vals [V.ref (e0A K)] ds ∧ Binds K fdBi ["self", "kind", "size", "triples"] ds := FunD.binds1 (ps := ["self", "kind", "size", "triples"]) Bi 3 0 (by intro z; cases z) rfl fun T9 kV doc pm an cdv ct us its l1 l2 => match us, its, l1, l2 with
    | [_, _, _], [_], _, _ => ⟨_, rfl, rfl⟩
  obtain ⟨ds3, r3, Bi3⟩ := Bi3
  cases r3
  obtain ⟨ds2, r2, Bi2⟩ := Bi2
  have hE : ∀ H, SqT K H (e0A K) [] := tupB_ok b_e0
  have k_purse := c_purse (P := P) (w := w) (base := base) T F_purse g_purse
  have k_pick := c_pick (P := P) (w := w) (base := base) T F_pick g_pick
  have k_lkind := c_lkind T k_pick F_kind g_kind
  have k_lturns := c_lturns (P := P) (w := w) (base := base) F_turns g_turns
  have k_limages := c_limages T k_lturns F_images g_images
  have k_clash := c_clash (P := P) (w := w) (base := base) T F_clash g_clash
  have k_rules := c_rules (P := P) (w := w) (base := base) F_rules g_rules
  have k_mixed := c_mixed (P := P) (w := w) (base := base) T F_mixed g_mixed
  have k_square := c_square T k_mixed F_square g_square
  have k_fits := c_fits T (He.free_ok X G (all_get f2 21)) k_clash F_fits g_fits
  have k_begun := c_begun T k_pick k_rules k_square k_limages k_fits F_begun g_begun
  obtain ⟨fdFi, Fi⟩ := c.nth (d := dIn (fun K => He.ma K (He.ga K "Formula") "__init__") "__init__" "Formula.__init__" (inClass (top 29) 0) []) 51
  obtain ⟨fdF_mul_, F_mul_⟩ := c.nth (d := dIn (fun K => He.ma K (He.ga K "Formula") "__mul__") "__mul__" "Formula.__mul__" (inClass (top 29) 9) []) 52
  obtain ⟨fdF_floordiv_, F_floordiv_⟩ := c.nth (d := dIn (fun K => He.ma K (He.ga K "Formula") "__floordiv__") "__floordiv__" "Formula.__floordiv__" (inClass (top 29) 10) []) 53
  obtain ⟨fdF_rshift_, F_rshift_⟩ := c.nth (d := dIn (fun K => He.ma K (He.ga K "Formula") "__rshift__") "__rshift__" "Formula.__rshift__" (inClass (top 29) 11) []) 54
  obtain ⟨fdF_contains_, F_contains_⟩ := c.nth (d := dIn (fun K => He.ma K (He.ga K "Formula") "__contains__") "__contains__" "Formula.__contains__" (inClass (top 29) 12) []) 55
  obtain ⟨fdF_len_, F_len_⟩ := c.nth (d := dIn (fun K => He.ma K (He.ga K "Formula") "__len__") "__len__" "Formula.__len__" (inClass (top 29) 13) []) 56
  obtain ⟨fdF_eq_, F_eq_⟩ := c.nth (d := dIn (fun K => He.ma K (He.ga K "Formula") "__eq__") "__eq__" "Formula.__eq__" (inClass (top 29) 15) []) 57
  obtain ⟨fdF_str_, F_str_⟩ := c.nth (d := dIn (fun K => He.ma K (He.ga K "Formula") "__str__") "__str__" "Formula.__str__" (inClass (top 29) 16) []) 58
  obtain ⟨fdP_sign_, P_sign_⟩ := c.nth (d := dIn (fun K => pAd K (He.ga K "Formula") "sign") "sign" "Formula.sign" (inClass (top 29) 2) []) 59
  obtain ⟨fdP_name_, P_name_⟩ := c.nth (d := dIn (fun K => pAd K (He.ga K "Formula") "name") "name" "Formula.name" (inClass (top 29) 3) []) 60
  obtain ⟨fdP_left_, P_left_⟩ := c.nth (d := dIn (fun K => pAd K (He.ga K "Formula") "left") "left" "Formula.left" (inClass (top 29) 4) []) 61
  obtain ⟨fdP_right_, P_right_⟩ := c.nth (d := dIn (fun K => pAd K (He.ga K "Formula") "right") "right" "Formula.right" (inClass (top 29) 5) []) 62
  obtain ⟨fdP_parts_, P_parts_⟩ := c.nth (d := dIn (fun K => pAd K (He.ga K "Formula") "parts") "parts" "Formula.parts" (inClass (top 29) 7) []) 63
  have CF : ChF mg := ⟨He.str_ok X G fL, He.str_ok X G fD, He.int_ok X G fM⟩
  have FF : FoF K mg (He.ga K "Formula") := ⟨He.glo_ok X G (all_get f1 15), He.cls_ok c_cls, He.noat_ok c_n1, He.noat_ok c_n2, He.noat_ok c_n3, He.noat_ok c_n4, He.noat_ok c_n5, He.noat_ok c_n6, He.noat_ok c_n7, insB_ok c_ins, of_decide_eq_true c_self⟩
  have FM := He.mkr_ok c_mkr
  have Q_sign : PrpM P w K mg base (He.ga K "Formula") "sign" 1 (spFsign (He.ga K "Formula")) := ⟨_, _, fdP_sign_, propB_ok c_p_sign, c_fsign FF P_sign_, P_sign_.bindsN (fun _ _ _ _ _ _ us hl => match us, hl with | [_], _ => rfl)⟩
  have Q_name : PrpM P w K mg base (He.ga K "Formula") "name" 1 (spFname (He.ga K "Formula")) := ⟨_, _, fdP_name_, propB_ok c_p_name, c_fname FF P_name_, P_name_.bindsN (fun _ _ _ _ _ _ us hl => match us, hl with | [_], _ => rfl)⟩
  have Q_left : PrpM P w K mg base (He.ga K "Formula") "left" 1 (spFleft (He.ga K "Formula")) := ⟨_, _, fdP_left_, propB_ok c_p_left, c_fleft FF P_left_, P_left_.bindsN (fun _ _ _ _ _ _ us hl => match us, hl with | [_], _ => rfl)⟩
  have Q_right : PrpM P w K mg base (He.ga K "Formula") "right" 1 (spFright (He.ga K "Formula")) := ⟨_, _, fdP_right_, propB_ok c_p_right, c_fright FF P_right_, P_right_.bindsN (fun _ _ _ _ _ _ us hl => match us, hl with | [_], _ => rfl)⟩
  have Q_parts : PrpM P w K mg base (He.ga K "Formula") "parts" 1 (spFparts (He.ga K "Formula")) := ⟨_, _, fdP_parts_, propB_ok c_p_parts, c_fparts FF P_parts_, P_parts_.bindsN (fun _ _ _ _ _ _ us hl => match us, hl with | [_], _ => rfl)⟩
  have S_str : SpcM P w K mg base L2.CX0 (He.ga K "Formula") "__str__" ["self"] 1 (spFstr (He.ga K "Formula")) := ⟨_, fdF_str_, (He.meth_ok c_m___str__).at_, (He.meth_ok c_m___str__).fn, c_fstr mstr FF F_str_, F_str_.bindsN (fun _ _ _ _ _ _ us hl => match us, hl with | [_], _ => rfl)⟩
  have S_len : SpcM P w K mg base L2.CX0 (He.ga K "Formula") "__len__" ["self"] 1 (spFlen (He.ga K "Formula")) := ⟨_, fdF_len_, (He.meth_ok c_m___len__).at_, (He.meth_ok c_m___len__).fn, c_flen T FF F_len_, F_len_.bindsN (fun _ _ _ _ _ _ us hl => match us, hl with | [_], _ => rfl)⟩
  have S_eq : SpcM P w K mg base L2.CX0 (He.ga K "Formula") "__eq__" ["self", "other"] 1 (spFeq K (He.ga K "Formula")) := ⟨_, fdF_eq_, (He.meth_ok c_m___eq__).at_, (He.meth_ok c_m___eq__).fn, c_feq T FF F_eq_, F_eq_.bindsN (fun _ _ _ _ _ _ us hl => match us, hl with | [_, _], _ => rfl)⟩
  have S_contains : SpcM P w K mg base L2.CX0 (He.ga K "Formula") "__contains__" ["self", "value"] 4 (spFcont K (He.ga K "Formula")) := ⟨_, fdF_contains_, (He.meth_ok c_m___contains__).at_, (He.meth_ok c_m___contains__).fn, c_fcont T FF Q_parts S_eq F_contains_, F_contains_.bindsN (fun _ _ _ _ _ _ us hl => match us, hl with | [_, _], _ => rfl)⟩
  have k_is_name := c_is_name (P := P) (w := w) (base := base) T mstr CF F_is_name g_is_name
  have k_in_order := c_in_order T mstr FF S_str S_len F__in_order g__in_order
  have c_fi := c_finit T FF (He.eqO_ok c_fmt) S_str Q_parts k_in_order Fi
  have BiF : Binds K fdFi ["self", "sign", "name", "left", "right"] [] := Fi.bindsN (fun _ _ _ _ _ _ us hl => match us, hl with | [_, _, _, _, _], _ => rfl)
  have x_letter := c_letter T FF k_is_name FM c_fi BiF e_InvalidName (er1 "InvalidName" (by decide)).2.1 F_letter g_letter
  have x_cf := c_check_formula T FF e_NotAFormula (er1 "NotAFormula" (by decide)).2.1 F_check_formula g_check_formula
  have x_signed := c_signed T FF (He.int_ok X G fMo8) S_len FM c_fi BiF x_cf eM (of_decide_eq_true (He.ba fMany).2) F__signed g__signed
  have B_fmul : BinM P w K mg base (He.ga K "Formula") (He.ga K "NotAFormula") (He.ga K "TooMany") .Mult 0 := ⟨_, fdF_mul_, (He.meth_ok c_m___mul__).at_, (He.meth_ok c_m___mul__).fn, He.eqO_ok c_r_Mult, c_fmul x_signed F_mul_, F_mul_.bindsN (fun _ _ _ _ _ _ us hl => match us, hl with | [_, _], _ => rfl)⟩
  have B_ffdiv : BinM P w K mg base (He.ga K "Formula") (He.ga K "NotAFormula") (He.ga K "TooMany") .FloorDiv 1 := ⟨_, fdF_floordiv_, (He.meth_ok c_m___floordiv__).at_, (He.meth_ok c_m___floordiv__).fn, He.eqO_ok c_r_FloorDiv, c_ffdiv x_signed F_floordiv_, F_floordiv_.bindsN (fun _ _ _ _ _ _ us hl => match us, hl with | [_, _], _ => rfl)⟩
  have B_frsh : BinM P w K mg base (He.ga K "Formula") (He.ga K "NotAFormula") (He.ga K "TooMany") .RShift 2 := ⟨_, fdF_rshift_, (He.meth_ok c_m___rshift__).at_, (He.meth_ok c_m___rshift__).fn, He.eqO_ok c_r_RShift, c_frsh x_signed F_rshift_, F_rshift_.bindsN (fun _ _ _ _ _ _ us hl => match us, hl with | [_, _], _ => rfl)⟩
  have k_completed := c_completed T BGc k_key F__completed g__completed
  have k_striple := c_striple (P := P) (w := w) (base := base) F_signed_triple g_signed_triple
  have k_value := c_value FF Q_name Q_sign Q_left Q_right k_completed k_striple F__value g__value 8
  have k_is_content := c_is_content T k_is_name k_is_thing F__is_content g__is_content
  have x_cc := c_check_contents T k_is_content e_InvalidContents t_InvalidContents F__check_contents g__check_contents
  have c_bv := c_bvalue (C := He.ga K "Kind") T BF x_cf x_cc k_value B_value
  have BMm : BgV P w K mg base (He.ga K "Kind") (He.ga K "Beginning") (He.ga K "NotAKind") (He.ga K "InvalidNumber") (He.ga K "InvalidTriples") (He.ga K "Clash") (He.ga K "Formula") (He.ga K "NotAFormula") (He.ga K "InvalidContents") :=
    ⟨BF, ⟨_, fdBi, BM, c_bi, Bi3⟩, ⟨_, fdB_value, He.meth_ok b_m_value, c_bv, B_value.bindsN (fun _ _ _ _ _ _ us hl => match us, hl with | [_, _, _], _ => rfl)⟩⟩
  have OG : ∀ T ∈ (["NoneType", "bool", "int", "str", "list", "tuple", "dict"] : List String), PySem.W.kitOne K (.type T) (.ref (He.ga K "Formula")) = some false := fun T hT => of_decide_eq_true (List.all_eq_true.mp fOdd T (show T ∈ oddT0 from hT))
  have TG : ToldG K mg (He.ga K "NotAFormula") (He.ga K "InvalidContents") (He.ga K "WrongValue") := ⟨He.glo_ok X G (all_get f1 5), He.glo_ok X G (all_get f1 8), He.glo_ok X G (all_get f1 14), (er1 "NotAFormula" (by decide)).2.2.1, xfB_ok xIc, e_NotAFormula.no, e_InvalidContents.no, e_NotAFormula.ec.ex, e_InvalidContents.ec.ex, er2 "NotAFormula" (by decide) "NotAFormula" (by decide), of_decide_eq_true ecf, of_decide_eq_true ecc, of_decide_eq_true kfw, of_decide_eq_true kcw⟩
  have room : Room 22 callerA := ⟨rfl, by decide, by decide⟩
  have k_lnames := c_lnames T mstr k_pick F_names g_names
  have k_lform := c_lform T k_pick F_form g_form 8
  have k_lmade := c_lmade T FF c_sf B_fmul B_ffdiv B_frsh x_letter F_made g_made 8
  have k_ltext := c_ltext (P := P) (w := w) (base := base) T F_text g_text 8
  have k_lbent := c_lbent T k_pick F_bent g_bent
  have k_ltold := c_ltold T BMm TG F_told g_told
  have k_right := c_right T KF FF ⟨_, fdKi, KM, c_i, B1k⟩ BMm OG k_pick k_lkind k_begun k_lnames k_lform k_lmade k_ltext k_lbent k_ltold F_right g_right
  exact r_law T F_law room rfl k_purse k_right
end
end L2.K15
open PySem PySem.W PySem.Calls PyProof.Rows
theorem PySem.Challenge.cw_thirdback_k15_contents_refused_holds : PySem.Challenge.rw_thirdback_k15_contents_refused.Holds := by
  w_on; o_law
  refine HandSHeadRun.head_any (r := OpenLaw.row PySem.Challenge.rw_thirdback_k15_contents_refused) (q := view (OpenLaw.row PySem.Challenge.rw_thirdback_k15_contents_refused).prog [77]) (H := L2.K15.hookX) (ob := L2.K15.ob) (M := 20000) (loose := L2.K15.looseN) (d := HandSHeadRun.topDef (OpenLaw.row PySem.Challenge.rw_thirdback_k15_contents_refused).prog 77) (kwd := []) L2.K15.ob_eq
    (by kernel_rfl) (fun s => by kernel_rfl) L2.K15.run (by kernel_rfl) (by kernel_rfl) (by kernel_rfl) (by rfl) (by first | assumption | decide +kernel) (by decide +kernel) ⟨rfl, rfl, rfl, rfl, rfl, by decide +kernel⟩ ?hw ?hc
  case hw => w_witness2
  case hc =>
    refine L2.Tb.walk_at (l := PySem.Challenge.rw_thirdback_k15_contents_refused) (n := 63) (x := "_law_script") rfl (by decide) (by kernel_rfl) ?F
    intro w mg fa h Y G hmg0
    obtain ⟨K, c⟩ := Y
    have hmg : mg ("law" : PySem.Str) = some (.ref fa) := by
      have e : (HandSHeadRun.topDef (OpenLaw.row PySem.Challenge.rw_thirdback_k15_contents_refused).prog 77).name = ("law" : PySem.Str) := by kernel_rfl
      rw [← e]
      exact hmg0
    obtain ⟨fd, hb, hF⟩ := L2.K15.ends (P := (PySem.Challenge.rw_thirdback_k15_contents_refused).prog) (w := w) G hmg c
    exact ⟨K, fd, L2.K15.spLaw K, c.kin, hb, fun H a ns hl hbits hS => ⟨a, ns, rfl, hS, hbits, hl, fun _ => rfl⟩, hF⟩
