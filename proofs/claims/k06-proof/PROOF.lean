import PyProof.Rows.All
import Wide.All
import OpenK.AllK
import Wide.FinOn
import KE.KExcInit
import KE.KExcMake
import KE.KIsAll
import HandS.ForMost
import HandS.Exc
import HandS.ExcOwn
import HandS.ExcInit
import HandS.ExcIs
import HandS.ExcField
import HandS.IsInst
import HandS.Defaults
import KE.KExcIs
import HandS.Walk
import HandS.Zip
import HandS.Wide
import HandS.WideBits
import HandS.DeepEq
import HandS.EndBits
import PyProof.ReprRoads
import HandS.Head2
import HandS.HeadHook2
import KE.KCallOwn
import HandS.MakeKwOnly
import HandS.Codes
import HandS.TryMany
import HandS.ClsMeth
import HandS.More
import PyProof.InstEq
import HandS.EndTab
import HandS.HeadHook4
import HandS.Property
import HandS.HeadNt
import HandS.HeadHook3
import HandS.TupSets
import HandS.Keys
import HandS.SetBool
import HandS.Deep
import HandS.Iter
import OpenK.KMeth
import KE.KOpsOwn
import OpenK.KOps
import PyProof.Conv_bool
import PyProof.StrOps2
import HandS.Text
import HandS.Small
import HandS.Conv
import HandS.StrMore
import HandS.GenList
import HandS.GenYield
import HandS.GenCall
import HandS.Gcd
import KE.KMathGC
import KE.GoesEnum
import KE.GoesMore
import PyProof.Draws
import HandS.DictSub
import KE.SortData
import HandS.OwnEq
import HandS.FStr
import KE.KFmtOwn
import HandS.TupAny
import HandS.RaiseMore
import HandS.Lambda
import HandS.DictComp
import HandS.SortInts
import HandS.ReplaceDef
import HandS.ReplaceLit
import HandS.List
import HandS.TryOnly
import PySem.Challenge.RW_thirdback_k06_whole_texts_of_formulas
set_option Elab.async false
set_option linter.all false
set_option maxRecDepth 100000
set_option maxHeartbeats 4000000
/-! an own error class over ValueError, LookupError, ArithmeticError alike: it is called (by place or by name), its object gets its first attribute -/
namespace L2.Tb
open PySem PySem.W PySem.Calls PyProof.Rows PySem.HandSPX
/-- a built-in base: its name, its makers, its mro -/
structure Bs where
  B : String
  newId : String
  initId : String
  bm : List Value
structure Bs.Ok (b : Bs) : Prop where
  F : ExcBaseFacts b.B b.newId b.initId b.bm
  S : StoreFacts b.B b.bm "object.__setattr__" "object"
section
variable {prog : Program} {w : World} {A : Around} {R : Result → Shared → Prop} {h : Heap} {g : Array GenState} {dr : Drawn} {tk : Nat} {os : OsState} {b : Bs} {C fI : Addr} {us : List Value} {kw : List (Str × Value)}
/-- C's class object is that of an own class over b -/
def OwnC (h : Heap) (b : Bs) (C : Addr) (bm : List Value) : Prop := ∃ nm q N bs hdct sn sub ab col dd k0 k1 k2 k3 k5, h.get? C = some (excClassObj nm q C N bs bm hdct sn sub ab col dd k0 k1 k2 k3 k5 b.newId)
/-- what the two makers leave behind: the args, the object -/
abbrev laidH (h : Heap) (C : Addr) (us : List Value) : Heap := (h.push (kdv_tup us)).push (excO C h.objs.size)
theorem own_new {bm : List Value} (o : OwnC h b C bm) (F : ExcBaseFacts b.B b.newId b.initId b.bm) (is : ∀ T : String, (Value.ref C :: bm).contains (.type T) = b.bm.contains (.type T)) (hz : us.length ≤ sizeLine) :
    (∀ {M : Model} {A' : Around} {E : Value → Shared → Prop} {Q : Unit → Shared → Prop}, Q () ⟨h, g, dr, tk, os⟩ → wpAny M A' (checkBuiltinCall b.newId ⟨.ref C :: us, kw⟩) Q E ⟨h, g, dr, tk, os⟩) ∧
    ∀ {R' : Result → Shared → Prop}, R' (.ok (.ret (.ref (h.objs.size + 1)))) ⟨laidH h C us, g, dr, tk, os⟩ → codeAny (model prog w) A (.builtin b.newId ⟨.ref C :: us, kw⟩) R' ⟨h, g, dr, tk, os⟩ := by
  obtain ⟨nm, q, N, bs, hdct, sn, sub, ab, col, dd, k0, k1, k2, k3, k5, hC⟩ := o
  have yes := (is b.B).trans F.hasB
  have no1 := (is "AttributeError").trans F.noAttr
  have no2 := (is "NameError").trans F.noName
  constructor
  · intro M A' E Q hq
    have star := F.noStar
    simp only [checkBuiltinCall, F.newKind, F.newSplit, F.newRow]
    repeat (first | (refine wpAny_isSubtype_exc hC ?_; rw [yes]) | refine wpAny_staticBase_exc hC ?_ | refine wpAny_madeBy_exc hC ?_ | refine wpAny_loadPart_at hC ?_ | simp only [bne_self_eq_false, Bool.false_eq_true, if_false] | wp_step)
    exact hq
  · intro R' hq
    have ends := F.ends
    refine codeAny_builtinAt F.entry ?_
    unfold Builtin.«BaseException.__new__»
    refine PySem.wpAt_bind ?_
    show PySem.wpAt _ _ _ (stack >>= _) _ _ _
    refine PySem.wpAt_bind (PySem.wpAt_stack fun _ _ => PySem.wpAt_of_wpAny ?_)
    wp_walk
    refine PySem.wpAt_of_wpAny ?_
    rw [F.owner]
    repeat (first | with_reducible refine wpAny_madeHere_exc F.canon hC ?_ | (with_reducible refine wpAny_isSubtype_exc hC ?_; first | rw [no1] | rw [no2] | rw [yes]) | with_reducible refine wpAny_loadPart_at hC ?_ | wp_step)
    show R' _ _
    rw [Heap.size_push]
    exact hq
/-- C(us, kw), C's own __init__ at fI -/
theorem own_call {bm : List Value} (o : OwnC h b C bm) (ok : b.Ok) (hT : ∀ T : String, bm.contains (.type T) = b.bm.contains (.type T)) (hi : Looks (model prog w) h (typeLookup (.ref C) "__init__") (some (.ref fI)))
    (hb : ∀ self, Looks (model prog w) h (bindSpecial (.ref fI) self) (.ref fI, [self])) (hz : us.length ≤ sizeLine)
    (hq : codeAny (model prog w) (A.under (.builtin "type.__call__" ⟨.ref C :: us, kw⟩)) (.call (.ref fI) ⟨.ref (h.objs.size + 1) :: us, kw⟩) (InitBack (h.objs.size + 1) R) ⟨laidH h C us, g, dr, tk, os⟩) :
    codeAny (model prog w) A (.call (.ref C) ⟨us, kw⟩) R ⟨h, g, dr, tk, os⟩ := by
  have keep : ∀ a x, h.get? a = some x → (laidH h C us).get? a = some x := fun a x e => Heap.get?_push_of_some _ (Heap.get?_push_of_some _ e)
  have there : (laidH h C us).get? (h.objs.size + 1) = some (excO C h.objs.size) := by heap_get
  have self : (Value.ref C :: bm).contains (.ref C) = true := by simp
  have new := @own_new prog w ((A.under (.builtin "type.__call__" ⟨.ref C :: us, kw⟩))) h g dr tk os b C us kw bm o ok.F (fun T => by rw [List.contains_cons, hT]; rfl) hz
  obtain ⟨nm, q, N, bs, hdct, sn, sub, ab, col, dd, k0, k1, k2, k3, k5, hC⟩ := o
  have hC2 := keep _ _ hC
  have ty : (⟨h, g, dr, tk, os⟩ : Shared).TypeIs (.ref C) "type" := ⟨_, hC, rfl⟩
  have l1 := tc_lookup
  have l2 := tc_bind (.ref C)
  have l3 := tc_sub
  refine codeAny_of_tree ?_
  show wpAny _ _ (callAny (.ref C) _) _ _ _
  repeat (any_goals (first | assumption | with_reducible refine wpAny_loadPart_at hC ?_ | wp_step))
  refine ⟨rfl, codeAny_call_builtin_at (Code.quiet_builtin _ (by decide +kernel)) entry_typeCall ?_⟩
  simp only [checkBuiltinCall, tc_kind, tc_split]
  repeat (any_goals (first | assumption | with_reducible refine wpAny_loadPart_at hC ?_ | with_reducible refine wpAny_onRaise ?_ | with_reducible refine wpAny_map ?_ | wp_step))
  repeat (first | with_reducible refine wpAny_madeBy_exc hC ?_ | with_reducible refine wpAny_loadPart_at hC ?_ | wp_step)
  refine codeAny_call_builtin_code (Code.quiet_builtin _ ok.F.quiet) (new.1 (new.2 ?_))
  show wpAny _ _ _ _ _ _
  unfold isInstance
  repeat (first | with_reducible refine wpAny_loadPart_at there ?_ | (with_reducible refine wpAny_isSubtype_exc hC2 ?_; rw [self]) | wp_step)
  show wpAny _ _ (typeLookup (.ref C) _) _ _ _
  refine (hi.keeps keep).at (wpAny_holding (wpAny_bind (((hb _).keeps keep).at (wpAny_bind (wpAny_call (codeAny_mono hq fun r s' z => ?_))))))
  match r, z with
  | .error e, z => exact z
  | .ok (.ret v), ⟨e, z⟩ =>
    subst e
    first
      | exact wpAny_pure (wpAny_pure z)
      | (wp_walk; exact z)
end
/-! ### self.name = v on an own error that has no dict yet -/
section
variable {prog : Program} {w : World} {A : Around} {R : Result → Shared → Prop} {hp : Heap} {g : Array GenState} {dr : Drawn} {tk : Nat} {os : OsState}
theorem own_store {K : Frag} {name : Str} {t1 : Tok} {v : Value} {x C t0 : Addr} {b : Bs} (ok : b.Ok) (X : K.In hp) (hx : hp.get? x = some (excObj C t0 none .none)) (ov : excOver K C b.bm = true) (hd : hasDictIn K C = true) (no : findIn K (.ref C) name = some none)
    (hq : ∀ h' tk' dx, (∀ b o, b ≠ x → hp.get? b = some o → h'.get? b = some o) → hp.objs.size ≤ dx → dx ≠ x → h'.get? x = some (excObj C t0 (some dx) .none) → h'.Ns1 dx (fun y => if y = name then some v else none) → R (.ok (.ret .none)) ⟨h', g, dr, tk', os⟩) :
    codeAny (model prog w) A (.call (.builtin "object.__setattr__") ⟨[.ref x, .str name t1, v], []⟩) R ⟨hp, g, dr, tk, os⟩ := by
  have far : x ≠ hp.objs.size := Nat.ne_of_lt (Heap.lt_size hx)
  obtain ⟨cd, hc, hd'⟩ := any_some hd
  refine osa_openX (s := ⟨hp, g, dr, tk, os⟩) (od := none) (r := none) ok.S X ⟨hx, rfl, rfl, trivial⟩ ov (by unfold takerIn; rw [no]; rfl) fun bb => ?_
  refine wpAny_bind (wpAny_pure (wpAny_bind (instanceDict_exc (s := ⟨hp, g, dr, tk, os⟩) hx (looks_clsIn X hc) hd' ?_)))
  have hx1 := (hp.get?_push_of_some (dictOf [] 0) hx)
  refine store_in_new ⟨_, #[], _, (Heap.get?_update_ne _ _ _ _ far.symm).trans (Heap.get?_push_at rfl rfl), rfl, fun e he => absurd he (by simp), fun _ => rfl⟩ fun h' tk' hn hs => ?_
  refine hq h' tk' hp.objs.size (fun a o ne ho => (hs.2 a (Nat.ne_of_lt (Heap.lt_size ho))).trans ((Heap.get?_update_ne _ _ _ _ ne).trans (Heap.get?_push_of_some _ ho))) (Nat.le_refl _) far.symm ?_ hn
  exact (hs.2 x far).trans (Heap.get?_update_self _ hx1 rfl)
end
end L2.Tb
set_option Elab.async false
set_option linter.all false
set_option maxRecDepth 100000
set_option maxHeartbeats 4000000
namespace L2.Tb
open PySem PySem.Spec PyProof.Rows L2
def bVE : Bs := ⟨"ValueError", "ValueError.__new__", "ValueError.__init__", [.type "ValueError", .type "Exception", .type "BaseException", .type "object"]⟩
def bLE : Bs := ⟨"LookupError", "LookupError.__new__", "LookupError.__init__", [.type "LookupError", .type "Exception", .type "BaseException", .type "object"]⟩
def bAE : Bs := ⟨"ArithmeticError", "ArithmeticError.__new__", "ArithmeticError.__init__", [.type "ArithmeticError", .type "Exception", .type "BaseException", .type "object"]⟩
theorem bVE_ok : bVE.Ok := ⟨PySem.F.excBase_ValueError, PySem.F.store_ValueError⟩
theorem bLE_ok : bLE.Ok := ⟨PySem.F.excBase_LookupError, PySem.F.store_LookupError⟩
theorem bAE_ok : bAE.Ok := ⟨PySem.F.excBase_ArithmeticError, PySem.F.store_ArithmeticError⟩
/-- an own exception class over the base b -/
structure EC (K : PySem.W.Frag) (b : Bs) (C : Addr) : Prop where
  ok : b.Ok
  own : PySem.W.excInitIn K C b.bm b.newId = true
  sa : PySem.W.findIn K (.ref C) "__setattr__" = some (some (.builtin "object.__setattr__"))
  kC : PySem.W.keepIn K (.ref C) = true
  ex : ExcC K C
  ov : PySem.W.excOver K C b.bm = true
def ecB (K : PySem.W.Frag) (b : Bs) (C : Addr) : Bool := PySem.W.excOver K C b.bm && (
  PySem.W.excInitIn K C b.bm b.newId && (decide (PySem.W.findIn K (.ref C) "__setattr__" = some (some (.builtin "object.__setattr__"))) && (PySem.W.keepIn K (.ref C) &&
  (decide (PySem.W.findIn K (.ref C) "__getattribute__" = some (some (.builtin "BaseException.__getattribute__"))) && (decide (PySem.W.findIn K (.ref C) "__getattr__" = some none) &&
  (decide (PySem.W.subIn K (.ref C) (.type "BaseException") = some true) && (PySem.W.hasDictIn K C && (decide (PySem.W.findIn K (.ref C) "__class__" = some (some (.builtin "object.__class__"))) &&
  (decide (PySem.W.specialIn K (.builtin "object.__class__") "__get__" = some (some (.builtin "getset_descriptor.__get__"))) && (decide (PySem.W.takesIn K (.builtin "object.__class__") = some true) &&
  decide (PySem.W.mroIn K C (.type "object") = some true)))))))))))
theorem ecB_ok {K : PySem.W.Frag} {b : Bs} {C : Addr} (ok : b.Ok) (h : ecB K b C = true) : EC K b C := by
  unfold ecB at h
  simp only [Bool.and_eq_true, decide_eq_true_eq] at h
  obtain ⟨h0, h1, h2, h3, h4, h5, h6, h7, h8, h9, h10, h11⟩ := h
  exact ⟨ok, h1, h2, h3, ⟨h4, h5, h6, h7, h8, h9, h10, h11⟩, h0⟩
section
variable {K : PySem.W.Frag} {b : Bs} {C : Addr}
theorem EC.cd (T : EC K b C) : ∃ cd, PySem.W.clsIn K C = some cd ∧ PySem.W.excTail b.bm cd.mro = true ∧ cd.mro.isEmpty = false ∧ cd.hasDict = true := by
  have q := T.own
  unfold PySem.W.excInitIn at q
  obtain ⟨cd2, hc2, hd2⟩ := PySem.W.any_some (show (PySem.W.clsIn K C).any (·.hasDict) = true from T.ex.hd)
  split at q
  · rename_i dd cd sl ho
    split at q
    · rename_i C' bm k0 k1 k2 k3 n k5 hm hs
      simp only [Bool.and_eq_true, beq_iff_eq, Bool.not_eq_true'] at q
      obtain ⟨⟨⟨rfl, rfl⟩, hdel⟩, ht⟩ := q
      have e : PySem.W.clsIn K C' = some cd := by unfold PySem.W.clsIn; rw [ho] <;> rfl
      have e3 := Option.some.inj (e.symm.trans hc2)
      subst e3
      refine ⟨_, e, ?_, ?_, hd2⟩
      · rw [hm]
        exact ht
      · rw [hm]
        rfl
    · cases q
  · cases q
end
section
variable {X : Cx} {pins : List (Addr × Obj)} {σ : St} {H : Hp} {s : Shared} {b : Bs} {a C dx : Addr} {f : Str} {y : V} {u : Value} {Q : Unit → Shared → Prop} {E : Value → Shared → Prop} {A : Around}
/-- self.f = y, the first one -/
theorem osv_new (T : EC X.K b C) (I : Inv X pins σ H s) (e : H a = some (exo a C none)) (hno : PySem.W.findIn X.K (.ref C) f = some none) (ry : RelV y u)
    (h : ∀ dx s', H dx = none → dx ≠ a → Inv X pins σ (upd (upd H dx (exd dx [(f, y)])) a (exo a C (some dx))) s' → Q () s') : wpAny (model X.prog X.w) A (setAttr (.ref a) f u) Q E s := by
  obtain ⟨t1, ho⟩ := exo_at I.hok e
  refine PySem.W.set_plain I.kIn (od := none) ⟨ho, rfl, rfl, trivial⟩ T.sa (own_store T.ok I.kIn ho T.ov T.ex.hd hno fun h' tk' dx k dn dne hx hn => ?_)
  have fresh : H dx = none := I.hok.fresh dn
  -- the heap behind the store, seen from what was there
  have other : ∀ {c : Addr} {o : HO}, H c = some o → c ≠ a → upd (upd H dx (exd dx [(f, y)])) a (exo a C (some dx)) c = some o := fun q n => by rw [upd_ne n, upd_ne (ne_of_none q fresh)]; exact q
  have ne : ∀ {c : Addr}, H c = none → c ≠ a := fun n z => by rw [z, e] at n; cases n
  have lt : ∀ {c : Addr} {o : Obj}, s.heap.get? c = some o → c ≠ dx := fun q => Nat.ne_of_lt (Nat.lt_of_lt_of_le (Heap.lt_size q) dn)
  refine h dx _ fresh dne (I.un (t' := tk') { keep := fun c o q n _ _ => k c o (ne n) q, slot := fun c o q n _ _ => ⟨o.slots, k c o (ne n) q⟩, free := fun c o q n _ => ?_, there := fun c o q _ => ?_, tups := fun c xs q => other q (at_ne e q exo_tup), frzs := fun c o v q => other q (at_ne e q exo_frz), tbls := fun c ps q => ⟨#[], ?_⟩ } fun c o q => ?_)
  · rw [upd_ne (ne n), upd_ne (lt q)]
    exact n
  · by_cases z : c = a
    · exact ⟨_, by rw [z]; exact hx⟩
    · exact ⟨o, k c o z q⟩
  · rw [other q (at_ne e q exo_tbl)]
    simp
  · by_cases z : c = a
    · subst z
      rw [upd_same] at q
      cases q
      exact exo_ok hx
    · rw [upd_ne z] at q
      by_cases z2 : c = dx
      · subst z2
        rw [upd_same] at q
        cases q
        exact exd_ok hn (relO_put (fs := []) ry fun _ => True.intro)
      · rw [upd_ne z2] at q
        refine (I.hok c o q).stay (fun d v hc z' => k d v ?_ z') (fun d hc => other hc (at_ne e hc exo_own)) fun d xs hc => other hc (at_ne e hc exo_tup)
        rcases hc with rfl | hc
        · exact z
        · exact at_ne e hc exo_own
end
/-- self.f = e -/
def tOsv (K : PySem.W.Frag) (f : Str) (to te : TE) : TS := fun D σ H => te σ H fun y H1 => to σ H1 fun x H2 => ∃ (a C : Addr) (b : Bs), x = .ref a ∧ EC K b C ∧ PySem.W.findIn K (.ref C) f = some none ∧
  H2 a = some (exo a C none) ∧ ∀ dx, H2 dx = none → dx ≠ a → D.nx σ (upd (upd H2 dx (exd dx [(f, y)])) a (exo a C (some dx)))
/-- C(e, ..), C's own __init__ keeping sp: the exception as a value -/
def tMkV (C : Addr) (sp : Sp) (ta : TA) : TE := fun σ H Q => ta σ H fun vs H1 => vs.length ≤ 1000 ∧ ∀ a, H1 a = none → sp (.ref a :: vs) (upd H1 a (exo a C none)) (fun v H2 => v = .non ∧ Q (.ref a) H2) E0
/-- e.f of an exception -/
def tXv (K : PySem.W.Frag) (f : Str) (te : TE) : TE := fun σ H Q => te σ H fun x H1 => ∃ (a C dx : Addr) (b : Bs) (fs : List (Str × V)) (v : V), x = .ref a ∧ EC K b C ∧ PySem.W.findIn K (.ref C) f = some none ∧
  H1 a = some (exo a C (some dx)) ∧ H1 dx = some (exd dx fs) ∧ fs.lookup f = some v ∧ Q v H1
/-- isinstance(e, c) -/
def rIsX (K : PySem.W.Frag) : List V → Hp → VK → Prop := fun xs H Q => ∃ (a C : Addr) (od : Option Addr) (c : V) (u : Value) (b : Bs) (r : Bool), xs = [.ref a, c] ∧ ClsV c u ∧ H a = some (exo a C od) ∧ (∀ d, od = some d → ∃ fs, H d = some (exd d fs)) ∧ EC K b C ∧
  PySem.W.kitOne K (.ref C) u = some r ∧ Q (.bl r) H
section
variable {X : Cx} {o e : Expr} {es : List Expr} {to te : TE} {ta : TA} {f : Str} {p p' p1 p2 pos : Pos}
theorem ps_osv (ho : PE X o to) (he : PE X e te) (hs : swapsWith e (some (.Attribute o f p')) pos.line X.env = pure false := by rfl) : PS X (.Assign [.Attribute o f p'] e pos) (tOsv X.K f to te) := by
  refine ⟨fun pins s σ H D I h => ?_⟩
  refine plainObj_wpAny_Assign_Attribute (thn (he.run pins s σ H _ I h) fun v s1 ⟨y, H1, I1, r1, q1⟩ => thn (ho.run pins s1 σ H1 _ I1 q1) fun u s2 ⟨x, H2, I2, r2, a, C, b, ex, T, hno, ea, q⟩ => ?_) hs
  subst ex
  obtain rfl : u = Value.ref a := r2
  exact osv_new T I2 ea hno r1 fun dx s' n ne J => ⟨σ, _, J, q dx n ne⟩
/-- the exception that is made: its object lies, not yet its dict -/
theorem made_inv {pins : List (Addr × Obj)} {σ : St} {H1 : Hp} {hp : Heap} {g : Array GenState} {dr : Drawn} {tk : Nat} {os : OsState} {C : Addr} (us : List Value) (I1 : Inv X pins σ H1 ⟨hp, g, dr, tk, os⟩) :
    Inv X pins σ (upd H1 (hp.objs.size + 1) (exo (hp.objs.size + 1) C none)) ⟨(hp.push (PySem.W.kdv_tup us)).push (PySem.HandSPX.excO C hp.objs.size), g, dr, tk, os⟩ := by
  have kk : ∀ b o, hp.get? b = some o → ((hp.push (PySem.W.kdv_tup us)).push (PySem.HandSPX.excO C hp.objs.size)).get? b = some o := fun b o e => Heap.get?_push_of_some _ (Heap.get?_push_of_some _ e)
  have hget : ((hp.push (PySem.W.kdv_tup us)).push (PySem.HandSPX.excO C hp.objs.size)).get? (hp.objs.size + 1) = some (PySem.HandSPX.excO C hp.objs.size) := by heap_get
  exact I1.laid (t' := tk) (a := hp.objs.size + 1) (o := exo (hp.objs.size + 1) C none) (h' := (hp.push (PySem.W.kdv_tup us)).push (PySem.HandSPX.excO C hp.objs.size)) kk (Nat.le_succ _) (exo_ok hget)
theorem run_mkV {CX : CXT} {C fI : Addr} {b : Bs} {k : Nat} {fd : FuncData} {ps : List Str} {sp : Sp} {pins : List (Addr × Obj)} {σ : St} {H1 : Hp} {s1 : Shared} {Q : VK} {us zs : List Value} {ws : List V} {kw : List (Str × Value)} (T : EC X.K b C)
    (iC : PySem.W.findIn X.K (.ref C) "__init__" = some (some (.ref fI))) (tI : PySem.W.typeIn X.K (.ref fI) = some (.type "function"))
    (F1 : FnOk X.prog X.w X.K X.mg X.base CX k fI fd ps sp) (hr : Room (k + 1) X.A) (hx : Passes CX X E0) (I1 : Inv X pins σ H1 s1) (hus : us.length ≤ sizeLine)
    (hz : ∀ (sh : Shared) (a : Addr), X.K.In sh.heap → BindsTo sh fd ⟨Value.ref a :: us, kw⟩ (ps.zip (Value.ref a :: zs))) (r2 : Vals ws zs)
    (h : ∀ a, H1 a = none → sp (.ref a :: ws) (upd H1 a (exo a C none)) (fun v H2 => v = .non ∧ Q (.ref a) H2) E0) :
    wpAny (model X.prog X.w) X.A (call (.ref C) us kw) (EP X pins σ Q) X.xe s1 := by
  obtain ⟨nm, N, qn, bs, bm, hdct, sn, sub, ab, col, dd, k0, k1, k2, k3, k5, hC, hT⟩ := PySem.W.excInit_of I1.kIn T.own
  obtain ⟨hp, g, dr, tk, os⟩ := s1
  have hn : H1 (hp.objs.size + 1) = none := I1.hok.fresh (Nat.le_succ _)
  have hq := h (hp.objs.size + 1) hn
  have I2 := made_inv (C := C) us I1
  have r3 : Vals (V.ref (hp.objs.size + 1) :: ws) (Value.ref (hp.objs.size + 1) :: zs) := .cons rfl r2
  refine wpAny_call (own_call ⟨nm, qn, N, bs, hdct, sn, sub, ab, col, dd, k0, k1, k2, k3, k5, hC⟩ T.ok hT (PySem.W.looks_findIn I1.kIn iC) (fun self => PySem.W.bind_fn I1.kIn self tI) hus
    (codeAny_mono (F1.run _ X.stack _ _ ⟨Value.ref (hp.objs.size + 1) :: us, kw⟩ (Value.ref (hp.objs.size + 1) :: zs) _ _ E0 (hr.make C us kw) (I2.env0.make C us kw) (hz _ _ I2.kIn) r3 hq) fun r s' hq' => ?_))
  cases r with
  | error er => exact hx pins σ _ _ er s' I2 hq'
  | ok fl =>
    cases fl with
    | ret u =>
      obtain ⟨v, H', I3, rv, ev, q3⟩ := I2.after hq'
      subst ev
      exact ⟨rv, ⟨V.ref (hp.objs.size + 1), H', I3, rfl, q3⟩⟩
    | next => exact False.elim hq'
    | brk => exact False.elim hq'
    | cont => exact False.elim hq'
/-- C(e, ..) -/
theorem pe_mkV {CX : CXT} {x : Str} {C fI : Addr} {b : Bs} {k : Nat} {fd : FuncData} {ps : List Str} {sp : Sp} (T : EC X.K b C) (iC : PySem.W.findIn X.K (.ref C) "__init__" = some (some (.ref fI))) (tI : PySem.W.typeIn X.K (.ref fI) = some (.type "function"))
    (F1 : FnOk X.prog X.w X.K X.mg X.base CX k fI fd ps sp) (hr : Room (k + 1) X.A) (hb : Binds X.K fd ps []) (hx : Passes CX X E0) (hg : Gl X x) (hm : X.mg x = some (.ref C)) (ha : PA X (e :: es) ta)
    (hdb : (x == ("__debug__" : Str)) = false := by decide) (he : starEach (e :: es) X.env = (false, eval e X.env) :: starEach es X.env := by rfl) (hpl : (backTo pos (starEach es X.env)).any (·.1) = false := by rfl) :
    PE X (.Call (.Name x p) (e :: es) [] pos) (tMkV C sp ta) := by
  refine ⟨fun pins s σ H Q I h => ?_⟩
  refine wpAny_Call_Name_kw (ld_glob I hg hm ?_ hdb)
  refine PySem.W.callWith_K (h₀ := X.base) I.ok.mod.kin T.kC (thn (ha.run pos pins s σ H _ I h) fun us s1 ⟨vs, H1, I1, r1, hz, q1⟩ => ⟨I1.kIn, ?_⟩) he hpl
  have hus : us.length ≤ sizeLine := by
    rw [← Paired.length r1, sizeLine_eq]
    omega
  have hl : (Value.ref 0 :: us).length = ps.length := by
    have z := F1.len _ _ _ _ (q1 s1.heap.objs.size (I1.hok.fresh (Nat.le_refl _)))
    rw [← z, List.length_cons, List.length_cons, Paired.length r1]
  refine run_mkV (us := us) (kw := []) (zs := us) T iC tI F1 hr hx I1 hus (fun sh a X' => ?_) r1 q1
  have z := hb sh (Value.ref a :: us) X' (by rw [List.append_nil]; exact hl)
  rw [List.append_nil] at z
  exact z
/-- C(f = e) -/
theorem pe_mkVK {CX : CXT} {x : Str} {C fI : Addr} {b : Bs} {k : Nat} {fd : FuncData} {ps ks : List Str} {sp : Sp} {kws : List Keyword} {tk : TA} (T : EC X.K b C) (iC : PySem.W.findIn X.K (.ref C) "__init__" = some (some (.ref fI))) (tI : PySem.W.typeIn X.K (.ref fI) = some (.type "function"))
    (F1 : FnOk X.prog X.w X.K X.mg X.base CX k fI fd ps sp) (hr : Room (k + 1) X.A) (hb : ∀ (sh : Shared) (a : Addr) (zs : List Value), zs.length = ks.length → BindsTo sh fd ⟨[Value.ref a], ks.zip zs⟩ (ps.zip (Value.ref a :: zs))) (hx : Passes CX X E0) (hg : Gl X x) (hm : X.mg x = some (.ref C)) (hkw : PK X kws tk)
    (hps : ps.length = ks.length + 1) (hall : (backToKw pos (keywordEach kws X.env)).all (·.1.isSome) = true := by rfl) (hks : (backToKw pos (keywordEach kws X.env)).filterMap (·.1) = ks := by rfl) (hdb : (x == ("__debug__" : Str)) = false := by decide)
    (hpl : ((backTo pos (starEach [] X.env)).any (·.1) || (backToKw pos (keywordEach kws X.env)).any (·.1.isNone)) = false := by rfl) :
    PE X (.Call (.Name x p) [] kws pos) (tMkV C sp tk) := by
  refine ⟨fun pins s σ H Q I h => ?_⟩
  refine wpAny_Call_Name_kw (ld_glob I hg hm ?_ hdb)
  refine PySem.W.callWith_KW0 (h₀ := X.base) I.ok.mod.kin T.kC hall ?_ hpl
  refine thn (hkw.run pos pins s σ H _ I h) fun ws s2 ⟨zs, H2, I2, rz, hz, q2⟩ => ⟨I2.kIn, ?_⟩
  rw [hks]
  have hl : ws.length = ks.length := by
    have z := F1.len _ _ _ _ (q2 s2.heap.objs.size (I2.hok.fresh (Nat.le_refl _)))
    rw [List.length_cons, hps] at z
    rw [← Paired.length rz]
    omega
  exact run_mkV (us := []) (kw := ks.zip ws) (zs := ws) T iC tI F1 hr hx I2 (Nat.zero_le _) (fun sh a _ => hb sh a ws hl) rz q2
/-- C(), no __init__ of its own -/
theorem pe_mkV0 {x : Str} {C : Addr} {b : Bs} (T : EC X.K b C) (iC : PySem.W.findIn X.K (.ref C) "__init__" = some (some (.builtin b.initId))) (hg : Gl X x) (hm : X.mg x = some (.ref C))
    (hdb : (x == ("__debug__" : Str)) = false := by decide) :
    PE X (.Call (.Name x p) [] [] pos) (fun _ H Q => ∀ a, H a = none → Q (.ref a) (upd H a (exo a C none))) := by
  refine ⟨fun pins s σ H Q I h => ?_⟩
  refine wpAny_Call_Name_kw (ld_glob I hg hm ?_ hdb)
  refine PySem.W.callWith_K0 I.kIn T.kC ?_
  show wpAny _ _ (call (.ref C) []) _ _ _
  obtain ⟨nm, N, qn, bs, bm, hdct, sn, sub, ab, col, dd, k0, k1, k2, k3, k5, hC, hT⟩ := PySem.W.excInit_of I.kIn T.own
  obtain ⟨hp, g, dr, tk, os⟩ := s
  refine PySem.W.call_B T.ok.F hT hC (PySem.W.looks_findIn I.kIn iC) (Nat.zero_le _) fun h' k e1 e2 => ?_
  have hn : H (hp.objs.size + 1) = none := I.hok.fresh (Nat.le_succ _)
  exact ⟨.ref (hp.objs.size + 1), _, I.laid (t' := tk) (a := hp.objs.size + 1) k (Nat.le_succ _) (exo_ok e1), rfl, h _ hn⟩
theorem pe_xv {n : Str} (he : PE X e te) (hb : attributeBase e n X.env (eval e X.env) = eval e X.env := by rfl) : PE X (.Attribute e n pos) (tXv X.K n te) := by
  refine ⟨fun pins s σ H Q I h => ?_⟩
  refine attr_of hb (thn (he.run pins s σ H _ I h) fun u s1 hh => ?_)
  obtain ⟨x, H1, I1, rx, a, C, dx, b, fs, v, ex, T, hno, ea, ed, l, q⟩ := hh
  subst ex
  obtain rfl : u = Value.ref a := rx
  obtain ⟨t1, ho⟩ := exo_at I1.hok ea
  obtain ⟨mA, hns, hr⟩ := exd_at I1.hok ed
  obtain ⟨od, hod, hl⟩ := lookIn_ns hns
  obtain ⟨u, hu, ru⟩ := RelO.some_of (v := v) (o := mA n) (by rw [← l]; exact hr n)
  have J : PySem.W.InstAt s1.heap a { cls := .ref C, dict := some dx, data := .fields #[.ref t1, .none, .none, .none, .bool false, .none] } C (some od) := ⟨ho, rfl, rfl, hod⟩
  exact HandSPX.exc_get I1.kIn J T.ex.hg T.ex.hk T.ex.hs (PySem.W.findObj_own T.ex.hd hno rfl (by rw [hl, hu])) (handed_of ru) ⟨v, H1, I1.tok _, ru, q⟩
theorem call_isX : CallR X (.builtin "isinstance") (rIsX X.K) := by
  intro pins s σ H xs us Q I r h
  obtain ⟨a, C, od, c, u, b, rr, rfl, k, ea, hd, T, e, q⟩ := h
  obtain ⟨u1, u2, rfl, r1, r2⟩ := vals2 r
  have e2 := k.eq r2
  subst e2
  obtain rfl : u1 = Value.ref a := r1
  obtain ⟨t1, ho⟩ := exo_at I.hok ea
  have hcl : (PySem.W.clsIn X.K C).isSome = true := by
    obtain ⟨cd, hc, _⟩ := T.cd
    rw [hc]
    rfl
  have fin : ∀ tk, EP X pins σ Q (.bool rr) { s with toks := tk } := fun tk => ⟨.bl rr, H, I.tok tk, rfl, q⟩
  cases od with
  | none =>
    have J : PySem.W.InstAt s.heap a { cls := .ref C, dict := none, data := .fields #[.ref t1, .none, .none, .none, .bool false, .none] } C none := ⟨ho, rfl, rfl, trivial⟩
    exact PySem.W.kia_one (PySem.W.kitx_exc hcl T.ex.hg T.ex.hk T.ex.hs T.ex.ha T.ex.hn T.ex.ht T.ex.hm) I.kIn J e (fun z => nomatch z) fin
  | some dd =>
    obtain ⟨fs, ed⟩ := hd dd rfl
    obtain ⟨mA, hns, hr⟩ := exd_at I.hok ed
    obtain ⟨od, es, ep, hod, _⟩ := hns
    have J : PySem.W.InstAt s.heap a { cls := .ref C, dict := some dd, data := .fields #[.ref t1, .none, .none, .none, .bool false, .none] } C (some od) := ⟨ho, rfl, rfl, hod⟩
    exact PySem.W.kia_one (PySem.W.kitx_exc hcl T.ex.hg T.ex.hk T.ex.hs T.ex.ha T.ex.hn T.ex.ht T.ex.hm) I.kIn J e (fun z => nomatch z) fin
end
end L2.Tb
set_option Elab.async false
set_option linter.all false
set_option maxRecDepth 100000
set_option maxHeartbeats 4000000
namespace L2.Tb
open PySem PySem.Spec PyProof.Rows
/-! ### a def of the module that is called by its name -/
structure Cal (P : Program) (w : World) (K : PySem.W.Frag) (mg : Str → Option Value) (base : Heap) (k : Nat) (x : Str) (sp : Sp) : Prop where
  ex : ∃ (f : Addr) (fd : FuncData) (ps : List Str), FnOk P w K mg base L2.CX0 k f fd ps sp ∧ mg x = some (.ref f) ∧ PySem.W.keepIn K (.ref f) = true ∧ Binds K fd ps []
abbrev FnP (K : PySem.W.Frag) (x : Str) (st : Stmt) (f : Addr) (fd : FuncData) : Prop := FunD K x x (defArgs st) (defBody st) (defScope st) [] [] f fd
section
variable {P : Program} {w : World} {K : PySem.W.Frag} {mg : Str → Option Value} {base : Heap} {x : Str} {st : Stmt} {f : Addr} {fd : FuncData} {N ps : List Str} {k : Nat} {sp : Sp}
theorem cal_mk (F : FnP K x st f fd) (hm : mg x = some (.ref f)) (S : FnScope N ps (defScope st))
    (hb : ∀ (kV doc pm : Value) (an : Option Addr) (cdv ct : Value) (us : List Value), us.length = ps.length → bindArgs (PySem.W.fnOf x x (defArgs st) (defBody st) (defScope st) .none kV doc pm an cdv ct) ⟨us, []⟩ = pure (ps.zip us))
    (len : ∀ vs H Q E, sp vs H Q E → vs.length = ps.length)
    (hbody : ∀ (cdv : Value) (A : Around) (outer : List Env) (s : Shared) (H : Hp) (vs : List V) (Q : VK) (E : XK), Room k (A.deeper (envOfC x (defScope st) s.heap.objs.size f cdv)) → sp vs H Q E →
      ∃ t, PSs (cxOf L2.CX0 P w K mg base N x (defScope st) f cdv A outer s H E).nox (defBody st) t ∧ t { nx := fun _ H' => Q .non H', rt := Q } (start N vs) H) : Cal P w K mg base (k + 1) x sp :=
  ⟨f, fd, ps, F.ok S len fun cdv A outer s H vs Q E hr h => let ⟨t, a, b⟩ := hbody cdv A outer s H vs Q E hr h; ⟨t, a.nox, b⟩, hm, F.kp, F.bindsN hb⟩
theorem Cal.imp {sp' : Sp} (c : Cal P w K mg base k x sp) (h : ∀ vs H Q E, sp' vs H Q E → sp vs H Q E) : Cal P w K mg base k x sp' := by
  obtain ⟨f, fd, ps, F, a, b, d⟩ := c.ex
  exact ⟨f, fd, ps, F.imp h, a, b, d⟩
end
section
variable {X : Cx} {k j : Nat} {x : Str} {sp : Sp} {p pos : Pos} {e : Expr} {es : List Expr} {t : TA}
theorem pe_cal (c : Cal X.prog X.w X.K X.mg X.base k x sp) (hr : Room j X.A) (hk : k ≤ j) (hg : Gl X x) (ha : PA X (e :: es) t)
    (hdb : (x == ("__debug__" : Str)) = false := by decide) (he : starEach (e :: es) X.env = (false, eval e X.env) :: starEach es X.env := by rfl) (hpl : (backTo pos (starEach es X.env)).any (·.1) = false := by rfl) :
    PE X (.Call (.Name x p) (e :: es) [] pos) (tCall sp [] E0 t) := by
  obtain ⟨f, fd, ps, F, hm, kp, b⟩ := c.ex
  exact pe_call F (hr.mono hk) hg hm kp b .nil pass0 ha hdb he hpl
theorem pe_cal0 (c : Cal X.prog X.w X.K X.mg X.base k x sp) (hr : Room j X.A) (hk : k ≤ j) (hg : Gl X x)
    (hdb : (x == ("__debug__" : Str)) = false := by decide) : PE X (.Call (.Name x p) [] [] pos) (tCall sp [] E0 tNil) := by
  obtain ⟨f, fd, ps, F, hm, kp, b⟩ := c.ex
  exact pe_call0 F (hr.mono hk) hg hm kp b .nil pass0 hdb
end
/-! ### heaps: all but p stands -/
def SameB (p : Addr) (H H' : Hp) : Prop := ∀ b o, b ≠ p → H b = some o → H' b = some o
theorem SameB.refl (p : Addr) (H : Hp) : SameB p H H := fun _ _ _ h => h
theorem SameB.trans {p : Addr} {H H1 H2 : Hp} (a : SameB p H H1) (b : SameB p H1 H2) : SameB p H H2 := fun c o n h => b c o n (a c o n h)
theorem SameB.of {p : Addr} {H H' : Hp} (a : Same H H') : SameB p H H' := fun c o _ h => a c o h
theorem SameB.set {p : Addr} {H : Hp} {o : HO} : SameB p H (upd H p o) := fun c u n h => by rw [upd_ne n]; exact h
theorem same_new {H : Hp} {p : Addr} {o : HO} (h : H p = none) : Same H (upd H p o) := fun b u e => by rw [upd_ne (ne_of_none e h)]; exact e
theorem SameB.put {p : Addr} {H H' : Hp} {o : HO} (a : SameB p H H') : SameB p H (upd H' p o) := fun c u n h => by rw [upd_ne n]; exact a c u n h
/-! ### the purse -/
structure Purse (H : Hp) (p : Addr) : Prop where
  ex : ∃ st dg c : Int, H p = some (.lst [.int st, .int dg, .int c]) ∧ 0 ≤ st ∧ st < 2147483563 ∧ 0 ≤ dg
theorem Purse.same {H H' : Hp} {p : Addr} (h : Purse H p) (s : Same H H') : Purse H' p := by
  obtain ⟨st, dg, c, e, r⟩ := h.ex
  exact ⟨st, dg, c, s _ _ e, r⟩
theorem Purse.sameB {H H' : Hp} {p q : Addr} (h : Purse H p) (n : p ≠ q) (s : SameB q H H') : Purse H' p := by
  obtain ⟨st, dg, c, e, r⟩ := h.ex
  exact ⟨st, dg, c, s _ _ n e, r⟩
theorem divp_small {i j : Int} (h0 : 0 < j) (h1 : j < 2 ^ 200) : CDivP i j := by
  refine ⟨h0, ?_⟩
  unfold Builtin.divisionGoesByPylong
  have hb : j.natAbs.log2 < 200 := PySem.Flt.log2_lt_of (by decide) (by omega)
  have hj : ¬ (j == 0) = true := by simpa using (show j ≠ 0 by omega)
  show (decide ((if j == 0 then 0 else j.natAbs.log2 / 30 + 1) > 300) && _) = false
  rw [if_neg hj, decide_eq_false (by omega), Bool.false_and]
/-! ### odd values, alike values -/
def flatS : V → Bool
  | .non => true | .bl _ => true | .int _ => true | .str _ => true
  | _ => false
theorem flatS_B {x : V} (h : flatS x = true) : flatB x = true := by
  cases x <;> first | rfl | cases h
def Al (H : Hp) : Nat → V → V → Prop
  | 0, x, y => x = y ∧ flatS x = true
  | n + 1, x, y => (x = y ∧ flatS x = true) ∨
    (∃ a b xs ys, x = .ref a ∧ y = .ref b ∧ H a = some (.lst xs) ∧ H b = some (.lst ys) ∧ xs.length ≤ 1000 ∧ Paired (Al H n) xs ys) ∨
    (∃ a b xs ys, x = .ref a ∧ y = .ref b ∧ H a = some (.tup xs) ∧ H b = some (.tup ys) ∧ xs.length ≤ 1000 ∧ Paired (Al H n) xs ys) ∨
    (∃ (a : Addr) (kvs : List (Key × V)), x = .ref a ∧ y = .ref a ∧ H a = some (.dK kvs) ∧ ∀ kv ∈ kvs, valV kvs kv.1 = some kv.2 ∧ (flatS kv.2 = true ∨ ∃ b, kv.2 = .ref b))
theorem Al.mono {H H' : Hp} : ∀ {n : Nat} {x y : V}, (∀ b o, H b = some o → (∀ l, o = .lst l → l.length ≠ 3) → H' b = some o) → (∀ b l, H b = some (.lst l) → l.length = 3 → ∃ l', H' b = some (.lst l')) → Same H H' → Al H n x y → Al H' n x y
  | 0, _, _, _, _, _, h => h
  | n + 1, x, y, k1, k2, s, h => by
    have ih : ∀ {xs ys : List V}, Paired (Al H n) xs ys → Paired (Al H' n) xs ys := fun p => Paired.mapP p fun a b q => Al.mono k1 k2 s q
    rcases h with h | ⟨a, b, xs, ys, h1, h2, h3, h4, h5, h6⟩ | ⟨a, b, xs, ys, h1, h2, h3, h4, h5, h6⟩ | ⟨a, kvs, h1, h2, h3, h4⟩
    · exact .inl h
    · exact .inr (.inl ⟨a, b, xs, ys, h1, h2, s _ _ h3, s _ _ h4, h5, ih h6⟩)
    · exact .inr (.inr (.inl ⟨a, b, xs, ys, h1, h2, s _ _ h3, s _ _ h4, h5, ih h6⟩))
    · exact .inr (.inr (.inr ⟨a, kvs, h1, h2, s _ _ h3, h4⟩))
theorem Al.same {H H' : Hp} {n : Nat} {x y : V} (h : Al H n x y) (s : Same H H') : Al H' n x y := Al.mono (fun b o e _ => s b o e) (fun b l e _ => ⟨l, s _ _ e⟩) s h
def Od (H : Hp) : Nat → V → Prop
  | 0, v => flatS v = true
  | n + 1, v => flatS v = true ∨ (∃ a xs, v = .ref a ∧ H a = some (.lst xs) ∧ xs.length ≤ 1 ∧ ∀ x ∈ xs, Od H n x) ∨ (∃ a xs, v = .ref a ∧ H a = some (.tup xs) ∧ xs.length ≤ 3 ∧ ∀ x ∈ xs, Od H n x) ∨
    (∃ (a : Addr) (kvs : List (Key × V)), v = .ref a ∧ H a = some (.dK kvs) ∧ kvs.length ≤ 1 ∧ ∀ kv ∈ kvs, flatS kv.2 = true ∨ ∃ b, kv.2 = .ref b)
theorem Od.keep {H H' : Hp} {p : Addr} {st dg c : V} (hp : H p = some (.lst [st, dg, c])) (s : SameB p H H') : ∀ {n : Nat} {v : V}, Od H n v → Od H' n v
  | 0, _, h => h
  | n + 1, v, h => by
    rcases h with h | ⟨a, xs, h1, h2, h3, h4⟩ | ⟨a, xs, h1, h2, h3, h4⟩ | ⟨a, kvs, h1, h2, h3, h4⟩
    · exact .inl h
    · refine .inr (.inl ⟨a, xs, h1, s _ _ (fun e => ?_) h2, h3, fun x hx => (h4 x hx).keep hp s⟩)
      rw [e, hp] at h2
      cases h2
      simp at h3
    · refine .inr (.inr (.inl ⟨a, xs, h1, s _ _ (fun e => ?_) h2, h3, fun x hx => (h4 x hx).keep hp s⟩))
      rw [e, hp] at h2
      cases h2
    · refine .inr (.inr (.inr ⟨a, kvs, h1, s _ _ (fun e => ?_) h2, h3, h4⟩))
      rw [e, hp] at h2
      cases h2
theorem Od.same {H H' : Hp} (s : Same H H') : ∀ {n : Nat} {v : V}, Od H n v → Od H' n v
  | 0, _, h => h
  | n + 1, v, h => by
    rcases h with h | ⟨a, xs, h1, h2, h3, h4⟩ | ⟨a, xs, h1, h2, h3, h4⟩ | ⟨a, kvs, h1, h2, h3, h4⟩
    · exact .inl h
    · exact .inr (.inl ⟨a, xs, h1, s _ _ h2, h3, fun x hx => (h4 x hx).same s⟩)
    · exact .inr (.inr (.inl ⟨a, xs, h1, s _ _ h2, h3, fun x hx => (h4 x hx).same s⟩))
    · exact .inr (.inr (.inr ⟨a, kvs, h1, s _ _ h2, h3, h4⟩))
theorem paired_self {α : Type} {R : α → α → Prop} : ∀ {xs : List α}, (∀ x ∈ xs, R x x) → Paired R xs xs
  | [], _ => .nil
  | x :: xs, h => .cons (h x (List.mem_cons_self ..)) (paired_self fun y hy => h y (List.mem_cons_of_mem _ hy))
theorem Od.al {H : Hp} : ∀ {n : Nat} {v : V}, Od H n v → Al H n v v
  | 0, _, h => ⟨rfl, h⟩
  | n + 1, v, h => by
    rcases h with h | ⟨a, xs, h1, h2, h3, h4⟩ | ⟨a, xs, h1, h2, h3, h4⟩ | ⟨a, kvs, h1, h2, h3, h4⟩
    · exact .inl ⟨rfl, h⟩
    · exact .inr (.inl ⟨a, a, xs, xs, h1, h1, h2, h2, by omega, paired_self fun x hx => (h4 x hx).al⟩)
    · exact .inr (.inr (.inl ⟨a, a, xs, xs, h1, h1, h2, h2, by omega, paired_self fun x hx => (h4 x hx).al⟩))
    · refine .inr (.inr (.inr ⟨a, kvs, h1, h1, h2, fun kv hk => ⟨?_, h4 kv hk⟩⟩))
      match kvs, h3, hk with
      | [q], _, hk =>
        obtain rfl : kv = q := by simpa using hk
        simp [valV]
/-- x == y where both are one scalar or one dict -/
def rSelf : R2 := fun x y H Q => x = y ∧ (flatS x = true ∨ ∃ (a : Addr) (kvs : List (Key × V)), x = .ref a ∧ H a = some (.dK kvs) ∧ ∀ kv ∈ kvs, valV kvs kv.1 = some kv.2 ∧ (flatS kv.2 = true ∨ ∃ b, kv.2 = .ref b)) ∧ Q (.bl true) H
theorem op_self {X : Cx} (hu : X.A.units + 64 < cLine) : OpR X (compareOp .Eq) rSelf := by
  intro pins s σ H x y v u Q I rx ry h
  obtain ⟨rfl, h, q⟩ := h
  rcases h with h | ⟨a, kvs, rfl, ha, hk⟩
  · refine op_eq pins s σ H x x v u Q I rx ry ⟨?_, by rw [decide_eq_true rfl]; exact q⟩
    cases x <;> first | rfl | cases h
  · refine op_eqV hu pins s σ H _ _ v u Q I rx ry ⟨1, by decide, .inr ⟨a, a, kvs, kvs, rfl, rfl, ha, ha, rfl, fun p hp => ⟨p.2, (hk p hp).1, ?_⟩⟩, q⟩
    rcases (hk p hp).2 with z | ⟨b, z⟩
    · exact .inl ⟨rfl, flatS_B z⟩
    · exact .inr (.inl ⟨b, z, z⟩)
end L2.Tb
set_option Elab.async false
set_option linter.all false
set_option maxRecDepth 100000
set_option maxHeartbeats 4000000
namespace L2.Tb
open PySem PySem.Spec PyProof.Rows
/-! ### a def's promise at one place of the stack (for what hangs on the stack: repr) -/
section
variable {P : Program} {w : World} {K : PySem.W.Frag} {mg : Str → Option Value} {base : Heap} {f : Addr} {fd : FuncData} {ps : List Str} {sp : Sp} {A : Around}
def RunsAt (P : Program) (w : World) (K : PySem.W.Frag) (mg : Str → Option Value) (base : Heap) (f : Addr) (fd : FuncData) (ps : List Str) (sp : Sp) (A : Around) : Prop :=
  ∀ (outer : List Env) (s : Shared) (H : Hp) (args : Args) (us : List Value) (vs : List V) (Q : VK) (E : XK), Env0 P w K mg base A outer s H → BindsTo s fd args (ps.zip us) → Vals vs us → vs.length = ps.length → sp vs H Q E →
    codeAny (model P w) A (.call (.ref f) args) (CR L2.CX0 outer P w H s Q E) s
/-- how a body's end becomes the call's end -/
theorem end_call {s s' : Shared} {H : Hp} {Q : VK} {E : XK} {fl : Flow} {N : List Str} {x : Str} {sc : Scope} {cdv : Value} {outer : List Env}
    (h : SP (cxOf L2.CX0 P w K mg base N x sc f cdv A outer s H E) [] { nx := fun _ H' => Q .non H', rt := Q } fl s') : CR L2.CX0 outer P w H s Q E (.ok (.ret (match (generalizing := false) fl with | .ret v => v | _ => .none))) s' := by
  match fl, h with
  | .ret u, ⟨v, σ', H', J, rv, q⟩ => exact ⟨v, H', J.os, J.bare, J.base, J.hok, rv, q⟩
  | .next, ⟨σ', H', J, q⟩ => exact ⟨.non, H', J.os, J.bare, J.base, J.hok, rfl, q⟩
  | .brk, ⟨_, _, _, q⟩ => exact q.elim
  | .cont, ⟨_, _, _, q⟩ => exact q.elim
theorem runs_body {x : Str} {st : Stmt} {N : List Str} {k : Nat} (F : FnP K x st f fd) (S : FnScope N ps (defScope st)) (hr : Room (k + 1) A)
    (hbody : ∀ (cdv : Value) (outer : List Env) (s : Shared) (H : Hp) (vs : List V) (Q : VK) (E : XK), Room k (A.deeper (envOfC x (defScope st) s.heap.objs.size f cdv)) → sp vs H Q E →
      ∃ t, PSs (cxOf L2.CX0 P w K mg base N x (defScope st) f cdv A outer s H E) (defBody st) t ∧ t { nx := fun _ H' => Q .non H', rt := Q } (start N vs) H) : RunsAt P w K mg base f fd ps sp A := by
  obtain ⟨oc, od, dV, kV, doc, pm, an, cdv, ct, osl, rfl, lk, hcd, _, _⟩ := F.ex
  intro outer s H args us vs Q E e0 hb r hl hsp
  have here : ∀ {b o}, base.get? b = some o → s.heap.get? b = some o := fun e => (e0.bs _ _ e).1
  have KX : K.In s.heap := e0.mod.kin.keeps fun _ _ e => here e
  obtain ⟨t, ht, hq⟩ := hbody cdv outer s H vs Q E (hr.deeper _) hsp
  refine codeAny_call_function hr.depth (KX _ _ lk) rfl S.co S.gen rfl (PySem.W.codeRec_of KX hcd) (hb _ _ _ _ (wpAny_newFunctionEnv_cells S.kind (fun y hy => ?_) fun env he s1 i => ?_))
  · exact (S.par y.1 (List.of_mem_zip hy).1).imp_right fun q => ⟨q, PySem.W.cellsFrom_some _ _ _ (.inl q)⟩
  · rw [he]
    rw [he] at i
    exact ⟨(e0.mod.nolimit.keeps fun _ _ e => here e).keeps i.toInCall.keep, codeAny_func (wpAny_mono (ht.run [] s1 _ H _ (inv_start S hr.hd e0 hl r i) hq) (fun fl s' h => end_call h) fun _ _ h => h)⟩
end
section
variable {X : Cx} {f : Addr} {fd : FuncData} {ps : List Str} {sp : Sp} {x : Str} {p pos : Pos}
/-- x(), x a def without parameters that runs here -/
theorem pe_at0 (R : RunsAt X.prog X.w X.K X.mg X.base f fd [] sp X.A) (hg : Gl X x) (hm : X.mg x = some (.ref f)) (hk : PySem.W.keepIn X.K (.ref f) = true) (hb : ∀ s : Shared, X.K.In s.heap → BindsTo s fd ⟨[], []⟩ []) (hdb : (x == ("__debug__" : Str)) = false := by decide) :
    PE X (.Call (.Name x p) [] [] pos) (fun _ H Q => sp [] H Q E0) := by
  refine ⟨fun pins s σ H Q I h => wpAny_Call_Name_kw (ld_glob I hg hm (PySem.W.callWith_K0 I.kIn hk (wpAny_call (codeAny_mono (R X.stack s H ⟨[], []⟩ [] [] Q E0 I.env0 (hb s I.kIn) .nil rfl h) fun r s' hq => ?_))) hdb)⟩
  match r, hq with
  | .error e, hq => exact pass0 pins σ H s e s' I hq
  | .ok (.ret u), hq => exact I.after hq
end
section
variable {X : Cx}
def rReprD (K : PySem.W.Frag) : List V → Hp → VK → Prop := fun vs H Q => ∃ (a : Addr) (d : PyData), vs = [.ref a] ∧ Dp K H (.ref a) d ∧ d.showable = true ∧ d.hasDict = false ∧ d.depth ≤ 60 ∧ d.shown.length ≤ sizeLine ∧ Q (.str d.shown) H
theorem call_reprD (hg : X.A.guards = some []) (hu : X.A.units + 64 < cLine) : CallR X (.builtin "repr") (rReprD X.K) := by
  intro pins s σ H vs us Q I r h
  obtain ⟨a, d, rfl, hd, h1, h2, h3, h4, q⟩ := h
  rw [Vals.ref1 r]
  obtain ⟨as, rr⟩ := Dp.reads I d (.ref a) (.ref a) hd rfl
  exact repr_of_reads' rr h1 (fun z => by rw [h2] at z; cases z) hg (by omega) (fun _ _ e => e) (fun h' u tk hk => ⟨.str d.shown, H, I.kept hk, ⟨u, rfl⟩, q⟩) h4
end
/-! ### the end, at the place of the law's call -/
theorem law_at {P : Program} {w : World} {K : PySem.W.Frag} {mg mb : Str → Option Value} {fa a : Addr} {fd : FuncData} {x : Str} {sp : Sp} {s1 : Shared} {vs : List Value} {ns : List Int} (KX : K.In s1.heap) (hns : s1.heap.Ns mainGlobals mg) (hb : s1.heap.Ns builtinsNs mb)
    (hbb : ∀ x : Str, x ≠ "__name__" → mb x = bootBuiltins x) (hlim : s1.heap.NoLimit) (hg : s1.gens = #[]) (ha : s1.heap.get? a = some { cls := .type "list", data := .seq vs.toArray }) (hi : IntsAre vs ns) (hl : ns.length ≤ sizeLine)
    (R : ∀ base : Heap, K.In base → base.Ns mainGlobals mg → RunsAt P w K mg base fa fd [x] sp callerA) (hbind : ∀ (s : Shared) (u : Value), BindsTo s fd ⟨[u], []⟩ [(x, u)])
    (hsp : ∀ H : Hp, SqL K H a (ns.map V.int) → (∀ b o, H b = some o → ∃ u xs, o = .frz u (.lst xs)) → sp [.ref a] H (fun v _ => v = .bl true) fun _ _ _ => False) :
    codeAny (model P w) callerA (.call (.ref fa) ⟨[.ref a], []⟩) (fun r s' => r = .ok (.ret (.bool true)) ∧ OldK s1.heap s'.heap ∧ s'.os = s1.os ∧ AllBare s'.gens) s1 := by
  let ob : Obj := { cls := .type "list", data := .seq vs.toArray }
  let H : Hp := fun b => if b = a ∧ K.lookup a = none then some (.frz ob (.lst (ns.map V.int))) else none
  have hH : ∀ b o, H b = some o → b = a ∧ K.lookup a = none ∧ o = .frz ob (.lst (ns.map V.int)) := fun b o e => by
    by_cases c : b = a ∧ K.lookup a = none
    · have e' := (if_pos c).symm.trans e
      cases e'
      exact ⟨c.1, c.2, rfl⟩
    · have e' := (if_neg c).symm.trans e
      cases e'
  have free : ∀ b o, s1.heap.get? b = some o → (b = a → (K.lookup a).isSome = true ∨ ∃ es ep, o.data = .dict es ep) → H b = none := fun b o e c => by
    cases q : H b with
    | none => rfl
    | some u =>
      obtain ⟨rfl, hk, _⟩ := hH b u q
      rcases c rfl with z | ⟨es, ep, z⟩
      · rw [hk] at z
        cases z
      · rw [ha] at e
        cases e
        cases z
  have ns1 : ∀ {b : Addr} {m : Str → Option Value}, s1.heap.Ns b m → (hidT s1.heap H).Ns b m := fun {b m} ⟨o, es, ep, e, d, r⟩ => ⟨o, es, ep, hidT_get e (free b o e fun _ => .inr ⟨es, ep, d⟩), d, r⟩
  have kin : K.In (hidT s1.heap H) := fun b o e => hidT_get (KX b o e) (free b o (KX b o e) fun z => .inl (by rw [← z, e]; rfl))
  have rv := vals_ints hi
  have sq : SqL K H a (ns.map V.int) := by
    cases hk : K.lookup a with
    | none => exact .inl (.inr ⟨ob, if_pos ⟨rfl, hk⟩⟩)
    | some o =>
      have e := KX a o hk
      rw [ha] at e
      cases e
      exact .inr ⟨_, vs.toArray, _, hk, rfl, rfl, rfl, by rw [List.size_toArray, hi.length]; exact hl, by simpa using rv⟩
  have hok : HOk P w H s1.heap := fun b u z => by
    obtain ⟨rfl, _, rfl⟩ := hH b u z
    exact ⟨ha, by rw [List.length_map]; exact hl, vs, _, rv, ha⟩
  obtain ⟨mc, l1, l2⟩ := hlim
  have e0 : Env0 P w K mg (hidT s1.heap H) callerA [] s1 H := ⟨rfl, ⟨kin, ns1 hns, ⟨mb, ns1 hb, hbb⟩, ⟨mc, ns1 l1, l2⟩⟩, fun _ _ e => of_hidT e, Nat.le_of_eq (hidT_size _ _), trivial, fun b hb => (nomatch hb), hok, .of_eq hg⟩
  refine codeAny_mono (R _ kin (ns1 hns) [] s1 H _ [.ref a] [.ref a] (fun v _ => v = .bl true) (fun _ _ _ => False) e0 (hbind s1 (.ref a)) (.cons rfl .nil) rfl (hsp H sq fun b o e => ⟨_, _, (hH b o e).2.2⟩)) fun r s' h => ?_
  match r, h with
  | .error e, h => exact h.elim
  | .ok (.ret u), ⟨v, H', os, bare, un, hok', r', q⟩ =>
    subst q
    obtain rfl : u = Value.bool true := r'
    refine ⟨rfl, OldK.of_keep fun b o e => ?_, os, bare⟩
    cases z : H b with
    | none => exact un.keep b o e z (fun z => nomatch z) (fun z => nomatch z)
    | some o2 =>
      obtain ⟨rfl, _, rfl⟩ := hH b o2 z
      rw [ha] at e
      cases e
      exact (hok' b _ (un.frzs b ob _ z)).1
theorem walk_at {l : PySem.W.OpenLaw} {n : Nat} {q : Program} {loose : List Str} {XP : (Str → Option Value) → Heap → Prop} {YP : World → Heap → Prop} {d : DefRec} {x : Str} (hn : l.most = some n) (hn2 : n ≤ sizeLine) (hdf : d.params.defaults = [])
    (F : ∀ (w : World) (mg : Str → Option Value) (fa : Addr) (h : Heap), YP w h → h.Ns mainGlobals mg → mg d.name = some (.ref fa) → ∃ (K : PySem.W.Frag) (fd : FuncData) (sp : Sp), K.In h ∧ (∀ (s : Shared) (u : Value), BindsTo s fd ⟨[u], []⟩ [(x, u)]) ∧
      (∀ (H : Hp) (a : Addr) (ns : List Int), ns.length ≤ n → (∀ z ∈ ns, Builtin.Int.intBits z ≤ 1048576) → SqL K H a (ns.map V.int) → sp [.ref a] H (fun v _ => v = .bl true) fun _ _ _ => False) ∧
      ∀ base : Heap, K.In base → base.Ns mainGlobals mg → RunsAt l.prog w K mg base fa fd [x] sp callerA) :
    PySem.W.WalkO q loose XP YP l.row.toRowW d [] (fun f vs => PySem.call f vs) := by
  refine Att.attach_callB hn hdf fun w s0 s1 mg mb fa o pm cd doc a vs ns G Y ho hd hcd hmg hobj hints hlen hbits hg => ?_
  obtain ⟨K, fd, sp, KX, hb, hsp, R⟩ := F w mg fa _ Y G.T.g hmg
  exact law_at KX G.T.g G.T.b G.T.builtins G.T.nolimit hg hobj hints (Nat.le_trans hlen hn2) R hb fun H sq _ => hsp H a ns hlen hbits sq
end L2.Tb
set_option Elab.async false
set_option linter.all false
set_option maxRecDepth 100000
set_option maxHeartbeats 4000000
namespace L2.Tb
open PySem PySem.Spec PyProof.Rows
/-! ### an error class with one attribute, as the law meets it -/
def spInit (K : PySem.W.Frag) (f : Str) : Sp := fun vs H Q _ => ∃ (a C : Addr) (b : Bs) (v : V), vs = [.ref a, v] ∧ EC K b C ∧ PySem.W.findIn K (.ref C) f = some none ∧ H a = some (exo a C none) ∧
  ∀ dx, H dx = none → dx ≠ a → Q .non (upd (upd H dx (exd dx [(f, v)])) a (exo a C (some dx)))
/-- at a: an error of the class at C whose attribute f is v -/
def ErAt (H : Hp) (a C : Addr) (f : Str) (v : V) : Prop := ∃ dx, H a = some (exo a C (some dx)) ∧ H dx = some (exd dx [(f, v)])
theorem ErAt.same {H H' : Hp} {a C : Addr} {f : Str} {v : V} (h : ErAt H a C f v) (s : Same H H') : ErAt H' a C f v := by
  obtain ⟨dx, h1, h2⟩ := h
  exact ⟨dx, s _ _ h1, s _ _ h2⟩
structure ErC (P : Program) (w : World) (K : PySem.W.Frag) (mg : Str → Option Value) (base : Heap) (x f : Str) (b : Bs) (C : Addr) : Prop where
  mgC : mg x = some (.ref C)
  ec : EC K b C
  no : PySem.W.findIn K (.ref C) f = some none
  init : ∃ (fI : Addr) (fd : FuncData), PySem.W.findIn K (.ref C) "__init__" = some (some (.ref fI)) ∧ PySem.W.typeIn K (.ref fI) = some (.type "function") ∧ FnOk P w K mg base L2.CX0 1 fI fd ["self", f] (spInit K f) ∧ Binds K fd ["self", f] [] ∧
    ∀ (sh : Shared) (a : Addr) (zs : List Value), zs.length = [f].length → BindsTo sh fd ⟨[Value.ref a], [f].zip zs⟩ (("self" :: [f] : List Str).zip (Value.ref a :: zs))
section
variable {P : Program} {w : World} {K : PySem.W.Frag} {mg : Str → Option Value} {base : Heap} {f : Str} {fI : Addr} {fd : FuncData} {qual : Str} {params : Arguments} {scope : Scope} {p1 p2 p3 p4 : Pos}
theorem init_ok (F : FunD K "__init__" qual params [.Assign [.Attribute (.Name "self" p1) f p2] (.Name f p3) p4] scope [] [] fI fd) (S : FnScope ["self", f] ["self", f] scope)
    (h0 : scope.names.lookup ("self" : Str) = some .local) (h1 : scope.names.lookup f = some .local) (hd : (f == ("__debug__" : Str)) = false) (hcd : (f == ("__classdict__" : Str)) = false) : FnOk P w K mg base L2.CX0 1 fI fd ["self", f] (spInit K f) := by
  refine F.ok S (fun vs H Q E h => ?_) (fun cdv A outer s H vs Q E hr h => ?_)
  · obtain ⟨a, C, b, v, rfl, _⟩ := h
    rfl
  · obtain ⟨a, C, b, v, rfl, T, hno, ha, k⟩ := h
    refine ⟨_, pss_one (ps_osv (pe_var (i := 0) rfl (.inl h0)) (pe_var (i := 1) rfl (.inl h1) hd hcd)), ?_⟩
    exact ⟨_, rfl, _, rfl, a, C, b, rfl, T, hno, ha, fun dx n ne => k dx n ne⟩
end
/-- a reading, weakened behind -/
def tUp (te : TE) : TE := fun σ H Q => ∃ Q' : VK, te σ H Q' ∧ ∀ v H1, Q' v H1 → Q v H1
theorem pe_up {X : Cx} {e : Expr} {te : TE} (he : PE X e te) : PE X e (tUp te) :=
  ⟨fun pins s σ H Q I h => let ⟨Q', h1, h2⟩ := h; thn (he.run pins s σ H Q' I h1) fun u s1 ⟨v, H1, I1, r, q⟩ => ⟨v, H1, I1, r, h2 v H1 q⟩⟩
/-- the reading of an error made by place or by name -/
def tEr (C : Addr) (f : Str) (te : TE) : TE := fun σ H Q => te σ H fun v H1 => ∀ a H2, Same H1 H2 → H1 a = none → ErAt H2 a C f v → Q (.ref a) H2
section
variable {X : Cx} {x f : Str} {b : Bs} {C : Addr} {p pos : Pos} {e : Expr} {te : TE}
theorem er_run {v : V} {H1 : Hp} {Q : VK} (T : EC X.K b C) (hno : PySem.W.findIn X.K (.ref C) f = some none) (q : ∀ a H2, Same H1 H2 → H1 a = none → ErAt H2 a C f v → Q (.ref a) H2) (a : Addr) (n : H1 a = none) :
    spInit X.K f [.ref a, v] (upd H1 a (exo a C none)) (fun u H2 => u = .non ∧ Q (.ref a) H2) E0 := by
  refine ⟨a, C, b, v, rfl, T, hno, upd_same, fun dx nd ne => ⟨rfl, q a _ (fun c o h => ?_) n ⟨dx, upd_same, by rw [upd_ne ne, upd_same]⟩⟩⟩
  have hca : c ≠ a := ne_of_none h n
  have hcd : c ≠ dx := fun z => by
    rw [z] at h
    rw [upd_ne ne] at nd
    rw [nd] at h
    cases h
  rw [upd_ne hca, upd_ne hcd, upd_ne hca]
  exact h
theorem pe_er (E : ErC X.prog X.w X.K X.mg X.base x f b C) {j : Nat} (hr : Room j X.A) (hj : 2 ≤ j) (hg : Gl X x) (he : PE X e te) (hdb : (x == ("__debug__" : Str)) = false := by decide) (hs : starEach [e] X.env = (false, eval e X.env) :: starEach [] X.env := by rfl) :
    PE X (.Call (.Name x p) [e] [] pos) (tEr C f te) := by
  obtain ⟨fI, fd, h1, h2, h3, h4, _⟩ := E.init
  exact ⟨fun pins s σ H Q I h => (pe_mkV E.ec h1 h2 h3 (hr.mono hj) h4 pass0 hg E.mgC (pa_cons (pe_up he) pa_nil hs) hdb hs (by rfl)).run pins s σ H Q I ⟨_, h, fun v H1 q => ⟨Nat.le_of_ble_eq_true rfl, fun a n => er_run E.ec E.no q a n⟩⟩⟩
theorem pe_erK (E : ErC X.prog X.w X.K X.mg X.base x f b C) {j : Nat} {kpos : Pos} (hr : Room j X.A) (hj : 2 ≤ j) (hg : Gl X x) (he : PE X e te) (hdb : (x == ("__debug__" : Str)) = false := by decide)
    (hall : (backToKw pos (keywordEach [⟨some f, e, kpos⟩] X.env)).all (·.1.isSome) = true := by rfl) (hks : (backToKw pos (keywordEach [⟨some f, e, kpos⟩] X.env)).filterMap (·.1) = [f] := by rfl)
    (hpl : ((backTo pos (starEach [] X.env)).any (·.1) || (backToKw pos (keywordEach [⟨some f, e, kpos⟩] X.env)).any (·.1.isNone)) = false := by rfl) :
    PE X (.Call (.Name x p) [] [⟨some f, e, kpos⟩] pos) (tEr C f te) := by
  obtain ⟨fI, fd, h1, h2, h3, h4, h5⟩ := E.init
  exact ⟨fun pins s σ H Q I h => (pe_mkVK (ks := [f]) E.ec h1 h2 h3 (hr.mono hj) h5 pass0 hg E.mgC (pk_cons (pe_up he) pk_nil) rfl hall hks hdb hpl).run pins s σ H Q I ⟨_, h, fun v H1 q => ⟨Nat.le_of_ble_eq_true rfl, fun a n => er_run E.ec E.no q a n⟩⟩⟩
end
end L2.Tb
set_option Elab.async false
set_option linter.all false
set_option maxRecDepth 100000
set_option maxHeartbeats 4000000
namespace L2.Tb
open PySem PySem.Spec PyProof.Rows
section
variable {X : Cx} {x f : Str} {b : Bs} {C : Addr} {p pos : Pos} {e : Expr} {te : TE}
/-- the reading of an error that is made to be raised -/
def tErR (C : Addr) (f : Str) (te : TE) : St → Hp → XK → Prop := fun σ H Q => te σ H fun v H1 => ∀ d H', Same H1 H' → H1 d = none → H' d = some (.xd [(f, v)]) → Q (.ref C) (some d) H'
theorem pmk_er (E : ErC X.prog X.w X.K X.mg X.base x f b C) (ty : PySem.W.typeIn X.K (.ref C) = some (.type "type")) {j : Nat} (hr : Room j X.A) (hj : 2 ≤ j) (hg : Gl X x) (he : PE X e te) (hdb : (x == ("__debug__" : Str)) = false := by decide)
    (hs : starEach [e] X.env = (false, eval e X.env) :: starEach [] X.env := by rfl) (hpl : (backTo pos (starEach [] X.env)).any (·.1) = false := by rfl) : PMk X (.Call (.Name x p) [e] [] pos) (tErR C f te) := by
  intro pins s σ H Q I h
  obtain ⟨fI, fd, h1, h2, F1, hb, _⟩ := E.init
  have ha : PA X [e] (tCons (tUp te) tNil) := pa_cons (pe_up he) pa_nil hs
  refine wpAny_Call_Name_kw (ld_glob I hg E.mgC ?_ hdb)
  refine PySem.W.callWith_K (h₀ := X.base) I.ok.mod.kin E.ec.kC (thn (ha.run pos pins s σ H (fun vs H1 => ∃ v, vs = [v] ∧ ∀ d H', Same H1 H' → H1 d = none → H' d = some (.xd [(f, v)]) → Q (.ref C) (some d) H') I ⟨_, h, fun v H1 q => ⟨v, rfl, q⟩⟩) fun us s1 hh => ?_) hs hpl
  obtain ⟨vs, H1, I1, r1, v, rfl, q1⟩ := hh
  refine ⟨I1.kIn, ?_⟩
  show wpAny _ _ (call (.ref C) us) _ _ _
  obtain ⟨nm, N, qn, bs, bm, hdct, sn, sub, ab, col, dd, k0, k1, k2, k3, k5, hC, hT⟩ := PySem.W.excInit_of I1.kIn E.ec.own
  obtain ⟨hp, g, dr, tk, os⟩ := s1
  have hn : H1 (hp.objs.size + 1) = none := I1.hok.fresh (Nat.le_succ _)
  have keep : ∀ c o, hp.get? c = some o → (laidH hp C us).get? c = some o := fun c o q => Heap.get?_push_of_some _ (Heap.get?_push_of_some _ q)
  have hus : us.length ≤ sizeLine := by
    rw [← Paired.length r1]
    exact Nat.le_of_ble_eq_true rfl
  have hl : (Value.ref (hp.objs.size + 1) :: us).length = (["self", f] : List Str).length := by
    rw [List.length_cons, ← Paired.length r1]
    rfl
  have I2 := made_inv (C := C) us I1
  have bind : BindsTo ⟨(hp.push (PySem.W.kdv_tup us)).push (PySem.HandSPX.excO C hp.objs.size), g, dr, tk, os⟩ fd ⟨Value.ref (hp.objs.size + 1) :: us, []⟩ ((["self", f] : List Str).zip (Value.ref (hp.objs.size + 1) :: us)) := by
    have z := hb _ (Value.ref (hp.objs.size + 1) :: us) I2.kIn (by rw [List.append_nil]; exact hl)
    rw [List.append_nil] at z
    exact z
  refine wpAny_call (own_call ⟨nm, qn, N, bs, hdct, sn, sub, ab, col, dd, k0, k1, k2, k3, k5, hC⟩ E.ec.ok hT (PySem.W.looks_findIn I1.kIn h1) (fun self => PySem.W.bind_fn I1.kIn self h2) hus
    (codeAny_mono (F1.run _ X.stack _ _ ⟨Value.ref (hp.objs.size + 1) :: us, []⟩ (Value.ref (hp.objs.size + 1) :: us) [V.ref (hp.objs.size + 1), v]
      (fun u H2 => u = .non ∧ ∃ d, H2 (hp.objs.size + 1) = some (exo (hp.objs.size + 1) C (some d)) ∧ H2 d = some (exd d [(f, v)]) ∧ H1 d = none ∧ Q (.ref C) (some d) (upd (del H2 (hp.objs.size + 1)) d (.xd [(f, v)]))) E0 ((hr.mono hj).make C us []) (I2.env0.make C us []) bind (.cons rfl r1) ?_) fun r s' hq => ?_))
  · refine ⟨_, C, b, v, rfl, E.ec, E.no, upd_same, fun dx nd ne => ⟨rfl, dx, upd_same, by rw [upd_ne ne, upd_same], ?_, q1 dx _ (fun c o q => ?_) ?_ upd_same⟩⟩
    · rw [upd_ne ne] at nd
      exact nd
    · have hca : c ≠ hp.objs.size + 1 := ne_of_none q hn
      have hcd : c ≠ dx := fun z => by
        rw [z] at q
        rw [upd_ne ne] at nd
        rw [nd] at q
        cases q
      rw [upd_ne hcd, del_ne hca, upd_ne hca, upd_ne hcd, upd_ne hca]
      exact q
    · rw [upd_ne ne] at nd
      exact nd
  · match r, hq with
    | .error er, hq => exact hq.elim
    | .ok (.ret u), ⟨w, H2, os2, bare2, un2, hok2, rv, ev, d, ea, ed, hd1, q2⟩ =>
      subst ev
      obtain ⟨h2, g2, d2, t2, os'⟩ := s'
      exact ⟨rv, mk_end (raises_own E.ec.ex.hs ty) I1 (Nat.le_succ _) keep un2 hok2 os2 bare2 ea ed hd1 q2⟩
end
end L2.Tb
set_option Elab.async false
set_option linter.all false
set_option maxRecDepth 100000
set_option maxHeartbeats 4000000
/-! an object of an own class: str(x) by its __str__, x == y by its __eq__ (any outcome) -/
namespace L2.Tb
open PySem PySem.Spec PyProof.Rows
section
variable {X : Cx} {C f : Addr} {fd : FuncData} {ps : List Str} {sp : Sp} {k : Nat}
theorem relV_str {z : Str} {u : Value} (r : RelV (.str z) u) : ∃ t, u = .str z t := r
def rStrOwn (C : Addr) (sp : Sp) : List V → Hp → VK → Prop := fun xs H Q => ∃ (a dx : Addr) (fs : List (Str × V)), xs = [.ref a] ∧ H a = some (.ins C dx fs) ∧ sp [.ref a] H (fun v H' => ∃ z, v = .str z ∧ Q (.str z) H') E0
theorem call_strOwn (F : FnOk X.prog X.w X.K X.mg X.base L2.CX0 k f fd ps sp) (hr : Room (k + 2) X.A) (hs : PySem.W.findIn X.K (.ref C) "__str__" = some (some (.ref f))) (hf : PySem.W.isFn X.K (.ref f) = true) (hb : Binds X.K fd ps []) : CallR X (.type "str") (rStrOwn C sp) := by
  intro pins s σ H xs us Q I r h
  obtain ⟨a, dx, fs, rfl, ea, h⟩ := h
  rw [Vals.ref1 r]
  obtain ⟨mA, O, _⟩ := ins_get I.hok ea
  obtain ⟨od, J, _⟩ := O.look
  have r2 : Room k X.A.in1.in1 := hr.in1.in1
  have hl := F.len _ _ _ _ h
  refine PySem.W.kso_call (hr.in1.in1.units0) I.kIn J hs hf (wpAny_call (codeAny_mono (F.run X.A.in1.in1 X.stack s H ⟨[.ref a], []⟩ [.ref a] [.ref a] _ E0 r2 I.env0.in1.in1 (by
    have z := hb s [.ref a] I.kIn (by simpa using hl)
    simpa using z) (.cons rfl .nil) h) fun r s' hq => ?_))
  match r, hq with
  | .error e, hq => exact hq.elim
  | .ok (.ret u), hq =>
    obtain ⟨v, H', I', rv, z, ev, q⟩ := I.after hq
    rw [ev] at rv
    obtain ⟨t, rfl⟩ := relV_str rv
    exact ⟨.str z, H', I', ⟨t, rfl⟩, q⟩
def rOwnEq (K : PySem.W.Frag) (C : Addr) (sp : Sp) : R2 := fun x y H Q => ∃ (a dx : Addr) (fs : List (Str × V)) (t : Value), x = .ref a ∧ H a = some (.ins C dx fs) ∧ TyX K H y t ∧ PySem.W.notFirst K C t = true ∧ sp [.ref a, y] H Q E0
theorem cmp_back {Q : Value → Shared → Prop} {u : Value} {s' : Shared} {v : V} (r : RelV v u) (q : Q u s') : PySem.W.CmpBack Q u s' := by
  cases u <;> first | exact q | (cases v <;> first | (obtain ⟨t, e⟩ := r; cases e; done) | (cases r; done))
theorem op_ownEq (F : FnOk X.prog X.w X.K X.mg X.base L2.CX0 k f fd ps sp) (hr : Room k X.A) (hs : PySem.W.findIn X.K (.ref C) "__eq__" = some (some (.ref f))) (hf : PySem.W.isFn X.K (.ref f) = true) (hb : Binds X.K fd ps []) : OpR X (compareOp .Eq) (rOwnEq X.K C sp) := by
  intro pins s σ H x y v u Q I rx ry h
  obtain ⟨a, dx, fs, t, rfl, ea, ty, nf, h⟩ := h
  obtain rfl : v = Value.ref a := rx
  obtain ⟨mA, O, _⟩ := ins_get I.hok ea
  obtain ⟨od, J, _⟩ := O.look
  obtain ⟨m, hF⟩ := I.fr
  obtain ⟨Pt, kt, pt, _⟩ := kit_of I ry ty
  have hl := F.len _ _ _ _ h
  refine PySem.W.cmp_K (op := .Eq) (tb := t) hr.units0 hF I.ok.mod.kin J (kt.ty _ _ I.kIn pt) nf hs hf (wpAny_call (codeAny_mono (F.run X.A X.stack s H ⟨[.ref a, u], []⟩ [.ref a, u] [.ref a, y] _ E0 hr I.env0 (by
    have z := hb s [.ref a, u] I.kIn (by simpa using hl)
    simpa using z) (.cons rfl (.cons ry .nil)) h) fun r s' hq => ?_))
  match r, hq with
  | .error e, hq => exact hq.elim
  | .ok (.ret u2), hq =>
    obtain ⟨v2, H', I', rv, q⟩ := I.after hq
    exact cmp_back rv ⟨v2, H', I', rv, q⟩
end
end L2.Tb
set_option Elab.async false
set_option linter.all false
set_option maxRecDepth 100000
set_option maxHeartbeats 4000000
/-! C(e, .., k = v) where C stands in a local variable -/
namespace L2.Tb
open PySem PySem.Spec PyProof.Rows
theorem pass_none {X : Cx} : Passes (L2.CX X.prog X.w) X (fun _ _ _ => False) := fun _ _ _ _ _ _ _ h => by
  obtain ⟨_, _, _, _, _, _, _, _, _, _, _, _, z⟩ := h
  exact z.elim
section
variable {X : Cx} {CX : CXT} {k n i : Nat} {f C : Addr} {fd : FuncData} {ps ks : List Str} {sp : Sp} {E : XK} {x : Str} {p pos : Pos} {e : Expr} {es : List Expr} {kws : List Keyword} {t tk : TA} {g : List Value → List Value → List Value} {gV : List V → List V → List V}
def tMakeVK (i : Nat) (C : Addr) (n m : Nat) (sp : Sp) (gV : List V → List V → List V) (E : XK) (t tk : TA) : TE := fun σ H Q => σ[i]? = some (some (.ref C)) ∧ tMakeK C n m sp gV E t tk σ H Q
theorem pe_makeVK (M : Mk X.K C f) (F : FnOk X.prog X.w X.K X.mg X.base CX k f fd ps sp) {j : Nat} (hr : Room j X.A) (hj : k + 1 ≤ j) (hN : X.N[i]? = some x) (hv : Vis X.env.scope x) (hb : KBn X.K fd ps (n + 1) ks g gV) (hx : Passes CX X E) (ha : PA X (e :: es) t) (hkw : PK X kws tk)
    (hall : (backToKw pos (keywordEach kws X.env)).all (·.1.isSome) = true := by rfl) (hks : (backToKw pos (keywordEach kws X.env)).filterMap (·.1) = ks := by rfl) (hd : (x == ("__debug__" : Str)) = false := by decide) (hcd : (x == ("__classdict__" : Str)) = false := by decide)
    (he : starEach (e :: es) X.env = (false, eval e X.env) :: starEach es X.env := by rfl) (hpl : ((backTo pos (starEach (e :: es) X.env)).any (·.1) || (backToKw pos (keywordEach kws X.env)).any (·.1.isNone)) = false := by rfl) :
    PE X (.Call (.Name x p) (e :: es) kws pos) (tMakeVK i C n ks.length sp gV E t tk) := by
  refine ⟨fun pins s σ H Q I ⟨hs, h⟩ => wpAny_Call_Name_kw (thn ((pe_var (pos := p) (i := i) hN hv hd hcd).run pins s σ H (fun v H1 => v = .ref C ∧ H1 = H) I ⟨.ref C, hs, rfl, rfl⟩) fun u s1 hh => ?_)⟩
  obtain ⟨v, H1, I1, r1, ev, eH⟩ := hh
  subst ev eH
  cases r1
  refine PySem.W.callWith_KW (h₀ := X.base) I1.ok.mod.kin M.kp hall (thn (ha.run pos pins s1 σ H1 _ I1 h) fun us s2 ⟨vs, H2, I2, r, q⟩ => thn (hkw.run pos pins s2 σ H2 _ I2 q) fun ws s3 ⟨zs, H3, I3, rz, l1, l2, q2⟩ => ⟨I3.kIn, ?_⟩) hpl he
  rw [hks]
  exact run_makeK M F (hr.mono hj) hb hx I3 r rz l1 l2 q2
end
end L2.Tb
set_option Elab.async false
set_option linter.all false
set_option maxRecDepth 100000
set_option maxHeartbeats 4000000
/-! try: .. / except X as e: .. / except Y as e: .. / whatever clause behind, which is never reached -/
namespace L2.Tb
open PySem PySem.Spec PyProof.Rows
abbrev Suite : Type := Addr → Value → Option Addr → TS
/-- the ends of a suite whose name stands in slot i: the name goes -/
def offName (i : Nat) (D : Ends) : Ends := { nx := fun σ H => D.nx (σ.set i none) H, rt := D.rt, bk := fun σ H => D.bk (σ.set i none) H, ct := fun σ H => D.ct (σ.set i none) H }
def wAsMany (K : PySem.W.Frag) (D : Ends) : List (Value × Nat × Suite) → WX
  | [] => fun _ _ _ _ => False
  | (c, i, ts) :: r => fun cls d σ H => ∃ b, PySem.W.exmOne K cls c = some b ∧ (b = true → ∀ a, H a = none → ts a cls d (offName i D) (σ.set i (some (.ref a))) H) ∧ (b = false → wAsMany K D r cls d σ H)
/-- only for slots of the right number -/
def wLen (N : List Str) (W : WX) : WX := fun cls d σ H => σ.length = N.length → W cls d σ H
inductive HdsAs (X : Cx) : List ExceptHandler → List (Value × Nat × Suite) → Prop
  | stop (rest : List ExceptHandler) : HdsAs X rest []
  | cons {x n : Str} {c : Value} {i : Nat} {ts : Suite} {b0 : Stmt} {suite : List Stmt} {np p : Pos} {hds : List ExceptHandler} {l : List (Value × Nat × Suite)} (hi : X.N[i]? = some n) (hln : X.env.kindOf n = some .local) (hc : Names X x c)
      (hsu : ∀ (a : Addr) (oe : Obj) (cls : Value) (d : Option Addr) (pn : List (Addr × Obj)), Zc cls d oe → (∃ vs, oe.data = .fields vs) → PSs (X.suite a ((a, oe) :: pn)) (b0 :: suite) (ts a cls d)) (r : HdsAs X hds l) :
      HdsAs X (.ExceptHandler (some (.Name x np)) (some n) (b0 :: suite) p :: hds) ((c, i, ts) :: l)
section
variable {X : Cx} {body : List Stmt} {h0 : ExceptHandler} {hds : List ExceptHandler} {l : List (Value × Nat × Suite)} {pos : Pos} {tb : WX → TS}
theorem ps_try_asMany (hs : X.stack = X.env :: X.outer) (hf : X.env.frame = some X.env.locals) (hN : X.N.Nodup)
    (hb : ∀ (W : WX) (pn : List (Addr × Obj)) (xe : Value → Shared → Prop), Takes (X.tr pn xe) W → PassesOwn (model X.prog X.w) X.A X.env xe → PSs (X.tr pn xe) body (tb W)) (hh : HdsAs X (h0 :: hds) l) :
    PS X (.Try body (h0 :: hds) [] [] pos) (fun D σ H => tb (wLen X.N (wAsMany X.K D l)) D σ H) := by
  refine ⟨fun pins s σ H D I h => ?_⟩
  have ok := I.ok
  refine wpAny_Try_except (wpAny_mono ((hb (wLen X.N (wAsMany X.K D l)) (X.pn ++ pins) (fun e s1 => wpAny (model X.prog X.w) X.A (noteFrame e X.env) (fun _ s2 => wpAny (model X.prog X.w) X.A (setFlight e none) (fun _ s3 =>
    wpAny (model X.prog X.w) X.A (handleBy e X.env (h0 :: hds)) (SP X pins D) X.xe s3) X.xe s2) X.xe s1) (fun u s' caught => ?_) PassesOwn.looking).run [] s σ H D (I.toTry _) h) (fun f s1 hsp => ?_) fun _ _ he => he)
  · obtain ⟨a, B, sI, pins', σ', H', cls, d, rfl, J', nb, up, sky, na, os, ag, w⟩ := caught
    have J : Inv X pins σ' H' sI := J'.ofTry ok
    replace w := w J.len
    rw [hs] at sky
    show wpAny (model X.prog X.w) X.A (noteFrame (.ref a) X.env) _ _ _
    refine Sky.land Zc.steady (by rw [ok.frames, hs]) hf sky fun h3 fl3 up3 => ?_
    have J3 : Inv X pins σ' H' { s' with heap := h3 } := J.landed nb fl3.1 (up.trans up3) os ag
    obtain ⟨oe3, vs3, he3, hz3, hd3⟩ := fl3.there
    have nfr : a ∉ frs (X.env :: X.outer) := fun hm => by
      obtain ⟨_, o', e', no⟩ := fl3.2.2.1.mem hm
      rw [he3] at e'
      cases e'
      exact no _ hd3
    have nL : a ≠ X.env.locals := fun z => nfr (List.mem_filterMap.mpr ⟨X.env, List.mem_cons_self, by rw [hf, z]⟩)
    have nF : a ∉ X.fs := fun hm => let ⟨e, he, q⟩ := List.mem_filterMap.mp hm; nfr (List.mem_filterMap.mpr ⟨e, List.mem_cons_of_mem _ he, q⟩)
    have S3 := J3.suite he3 hd3 na nL nF
    clear hb h
    generalize h0 :: hds = all at hh ⊢
    induction hh with
    | stop rest => exact w.elim
    | @cons x n c i ts b0 suite np p hds2 l2 hi hln hc hsu r ih =>
      obtain ⟨b, hb1, hyes, hno⟩ := w
      have LT : PySem.W.Looks (model X.prog X.w) h3 (typeOf (.ref a)) cls := fun A Q E s k q => wpAny_typeOf_ref (k _ _ he3) (by rw [hz3.1]; exact q)
      have LM := PySem.W.exm_one (M := model X.prog X.w) J3.kIn LT hb1
      have test : ∀ {Q : Value → Shared → Prop} {E : Value → Shared → Prop}, Q c { s' with heap := h3 } → wpAny (model X.prog X.w) (X.A.mark (some (.ref a))) (eval (.Name x np) X.env) Q E { s' with heap := h3 } := fun q => by
        rcases hc with ⟨hg, hdbg, hm | ⟨hm, hv, hnn⟩⟩
        · exact ld_glob (X := X.suite a ((a, oe3) :: (X.pn ++ pins))) S3 hg hm q hdbg
        · exact ld_blt (X := X.suite a ((a, oe3) :: (X.pn ++ pins))) S3 hg hm hv q hnn hdbg
      refine wpAny_handleBy_cons (codeAny_handlers_test (test (LM.here ?_))) (by intro q; cases q)
      cases b with
      | false => exact ih (hno rfl)
      | true =>
        refine codeAny_handlers_suite_as (HandSPX.lands_againZ fl3 fun h4 fl4 up4 => ?_)
        have J4 : Inv X pins σ' H' { s' with heap := h4 } := J.landed nb fl4.1 ((up.trans up3).trans up4) os ag
        obtain ⟨oe4, vs4, he4, hz4, hd4⟩ := fl4.there
        refine store_ok (X := X.suite a ((a, oe4) :: (X.pn ++ pins))) (v := .ref a) (J4.suite he4 hd4 na nL nF) hN hi (.inl hln) rfl (fun s5 S5 => ?_) (.inr hln)
        refine wpAny_mono ((hsu a oe4 cls d (X.pn ++ pins) hz4 ⟨_, hd4⟩).run [] s5 _ H' _ S5 (hyes rfl a na)) (fun f s6 hsp => ?_) fun _ _ z => z.elim
        have gone : ∀ {σ6 : St} {H6 : Hp} {Q : Shared → Prop}, Inv (X.suite a ((a, oe4) :: (X.pn ++ pins))) [] σ6 H6 s6 → (∀ s7, Inv X pins (σ6.set i none) H6 s7 → Q s7) → wpAny (model X.prog X.w) X.A (do bindName X.env n .none; unbindBehindTheSuite X.env n p) (fun _ s7 => Q s7) X.xe s6 :=
          fun S6 hq => gone_ok (S6.unsuite ok) hN hi hln hq
        match f, hsp with
        | .next, ⟨σ6, H6, S6, q6⟩ => exact gone S6 fun s7 J7 => ⟨_, _, J7, q6⟩
        | .brk, ⟨σ6, H6, S6, q6⟩ => exact gone S6 fun s7 J7 => ⟨_, _, J7, q6⟩
        | .cont, ⟨σ6, H6, S6, q6⟩ => exact gone S6 fun s7 J7 => ⟨_, _, J7, q6⟩
        | .ret u, ⟨v6, σ6, H6, S6, r6, q6⟩ => exact gone S6 fun s7 J7 => ⟨_, _, _, J7, r6, q6⟩
  · match f, hsp with
    | .next, ⟨σ1, H1, J1, q⟩ => exact wpAny_execs_nil ⟨σ1, H1, J1.ofTry ok, q⟩
    | .brk, ⟨σ1, H1, J1, q⟩ => exact ⟨σ1, H1, J1.ofTry ok, q⟩
    | .cont, ⟨σ1, H1, J1, q⟩ => exact ⟨σ1, H1, J1.ofTry ok, q⟩
    | .ret u, ⟨v, σ1, H1, J1, r, q⟩ => exact ⟨v, σ1, H1, J1.ofTry ok, r, q⟩
end
end L2.Tb
set_option Elab.async false
set_option linter.all false
set_option maxRecDepth 100000
set_option maxHeartbeats 4000000
/-! p, q = e1, e2 where the stores stand from the left (one of the targets is no plain local name): the pair made between is not tracked -/
namespace L2.Tb
open PySem PySem.Spec PyProof.Rows
def tPairL (ta : TA) (g : TGs) : TS := fun D σ H => ta σ H fun vs H1 => vs.length = 2 ∧ g vs σ H1 D.nx
variable {X : Cx} {es vs : List Expr} {ta : TA} {g : TGs} {kt k2 : Nat} {pt pt2 pos : Pos}
theorem ps_pairL (calm : X.calm = true) (right : PA X vs ta) (left : PGs X es g)
    (star : (assignEach es X.env).findIdx? (·.1) = none) (even : (assignEach es X.env).length = 2)
    (plain : swappedStores [.Tuple es kt pt] (.Tuple vs k2 pt2) X.env = pure none)
    (noswap : swapsWithSole [.Tuple es kt pt] (.Tuple vs k2 pt2) pos.line X.env = pure false := by rfl)
    (once : (assignEach [.Tuple es kt pt] X.env).map (·.2) = [assign (.Tuple es kt pt) X.env] := by rfl) :
    PS X (.Assign [.Tuple es kt pt] (.Tuple vs k2 pt2) pos) (tPairL ta g) := by
  refine ⟨fun pins s σ H D I h => ?_⟩
  refine wpAny_Assign_stores (Tuple_ (thn (right.run _ pins s σ H _ I h) fun us s1 ⟨ws, H1, I1, r1, q1⟩ => ?_)) noswap plain
  obtain ⟨e2, q1⟩ := q1
  have hlen : us.length = 2 := by rw [← e2]; exact (Vals.length r1).symm
  refine wpAny_newObj_type ?_ (by show us.length ≤ sizeLine; rw [hlen]; decide)
  have I2 : Inv X pins σ H1 { s1 with heap := s1.heap.push { cls := .type "tuple", data := .seq us.toArray } } := I1.kept (t' := s1.toks) fun b o e => Heap.get?_push_of_some _ e
  rw [once]
  show wpAny (model X.prog X.w) X.A (assign (.Tuple es kt pt) X.env (.ref s1.heap.objs.size)) _ _ _
  refine assign_Tuple_tuple (items := us.toArray) (I.ok.hd calm) (IsTup.new s1.heap _) (by simp [even, hlen]) star fun h' hx => ?_
  have I3 := I2.kept (h' := h') (t' := s1.toks) fun b o e => hx b o (Nat.ne_of_lt (Heap.lt_size e)) e
  refine thn (left.run pins _ σ H1 ws _ D.nx I3 (by simpa using r1) q1) fun _ s2 q => ?_
  exact q
end L2.Tb
set_option Elab.async false
set_option linter.all false
set_option maxRecDepth 100000
set_option maxHeartbeats 4000000
/-! C.m(k = v), m a classmethod; repr of a bool -/
namespace L2.Tb
open PySem PySem.Spec PyProof.Rows
theorem call_repr_bl {X : Cx} : CallR X (.builtin "repr") (fun xs H Q => ∃ b, xs = [.bl b] ∧ Q (.str (if b then "True" else "False")) H) := by
  intro pins s σ H xs us Q I r h
  obtain ⟨b, rfl, q⟩ := h
  obtain ⟨u, rfl, e⟩ := vals1 r
  obtain rfl : u = Value.bool b := e
  exact PySem.P.repr_of_bool ⟨.str _, H, I.tok _, ⟨_, rfl⟩, q⟩
section
variable {X : Cx} {CX : CXT} {k : Nat} {C p g : Addr} {mc : Value} {sp : Sp} {E : XK} {o : Expr} {kws : List Keyword} {m : Str} {pos apos : Pos} {ta : TE} {tk : TA} {pl : Sem Bool} {fd : FuncData} {ps ks : List Str}
theorem pe_cmethK (he : PE X o ta) (r : ClX.CRead X.K C mc) (c : ClX.CMet X.K C mc m p g) (F : FnOk X.prog X.w X.K X.mg X.base CX k g fd ps sp) (hr : Room k X.A) (hx : Passes CX X E) (hkw : PK X kws tk) (hl : ps.length = ks.length + 1)
    (hb : ∀ (sh : Shared) (zs : List Value), zs.length = ks.length → BindsTo sh fd ⟨[.ref C], ks.zip zs⟩ (ps.zip (Value.ref C :: zs)))
    (hall : (backToKw pos (keywordEach kws X.env)).all (·.1.isSome) = true := by rfl) (hks : (backToKw pos (keywordEach kws X.env)).filterMap (·.1) = ks := by rfl)
    (hpl : ((backTo pos (starEach [] X.env)).any (·.1) || (backToKw pos (keywordEach kws X.env)).any (·.1.isNone)) = false := by rfl)
    (ht : eval (.Call (.Attribute o m apos) [] kws pos) X.env = (do
      let ov ← eval o X.env
      standAt apos.atName
      let (f, first) ← holding [ov] (getMethod ov m pl)
      callWith pos f first (backTo pos (starEach [] X.env)) (backToKw pos (keywordEach kws X.env))) := by rfl) :
    PE X (.Call (.Attribute o m apos) [] kws pos) (fun σ H Q => ta σ H fun x H1 => x = .ref C ∧ tk σ H1 fun zs H2 => sp (.ref C :: zs) H2 Q E) := by
  refine ⟨fun pins s σ H Q I h => ?_⟩
  refine PySem.W.methodCall_KW (pl := pl) (thn (he.run pins s σ H _ I h) fun u s1 hh => ?_) ht
  obtain ⟨x, H1, I1, rx, ex, q⟩ := hh
  subst ex
  obtain rfl : u = Value.ref C := rx
  refine ClX.getmethcm_ok I1 r c fun s2 I2 => ?_
  refine PySem.W.callWith_of (P := PySem.W.MethP X.K s1.heap.objs.size g (.ref C)) hpl (PySem.W.keeps_M c.fi) (evalArgs_kw2_nil hall ?_)
  refine thn (hkw.run pos _ s2 σ H1 _ I2 q) fun ws s3 hh => ?_
  obtain ⟨zs, H2, I3, rz, q2⟩ := hh
  refine ⟨⟨ClX.pin_at I3, I3.kIn⟩, ?_⟩
  rw [hks]
  have hw : ws.length = ks.length := by
    have z := F.len _ _ _ _ q2
    rw [List.length_cons, hl] at z
    rw [← rz.length]
    omega
  have run : wpAny (model X.prog X.w) X.A (call (.ref s1.heap.objs.size) [] (ks.zip ws)) (EP X ((s1.heap.objs.size, PySem.W.methodObj (.ref g) (.ref C)) :: pins) σ Q) X.xe s3 := by
    refine wpAny_call (PySem.W.method_call (ClX.pin_at I3) (codeAny_mono (F.run X.A X.stack s3 H2 ⟨[.ref C], ks.zip ws⟩ (.ref C :: ws) (.ref C :: zs) Q E hr I3.env0 (hb s3 ws hw) (.cons rfl rz) q2) fun r s' hq => ?_))
    match r, hq with
    | .error e, hq => exact hx _ σ H2 s3 e s' I3 hq
    | .ok (.ret u2), hq => exact I3.after hq
  exact thn run fun _ _ y => ClX.unpinE y
end
end L2.Tb
set_option Elab.async false
set_option linter.all false
set_option maxRecDepth 100000
set_option maxHeartbeats 4000000
/-! x != y where x's class has an __eq__ of its own and no __ne__ -/
namespace L2.Tb
open PySem PySem.Spec PyProof.Rows
section
variable {prog : Program} {w : World} {A : Around} {E : Value → Shared → Prop} {s : Shared} {K : PySem.W.Frag} {x C f : Addr} {ox : Obj} {od : Option Obj} {b : Value}
theorem ne_body {Q : Fin → Shared → Prop} (hu : A.units < cLine) (X : K.In s.heap) (I : PySem.W.InstAt s.heap x ox C od) (he : PySem.W.findIn K (.ref C) "__eq__" = some (some (.ref f))) (hf : PySem.W.isFn K (.ref f) = true)
    (h : wpAny (model prog w) A (call (.ref f) [.ref x, b]) (fun v s' => ∃ c, v = .bool c ∧ Q (.done (.ret (.bool (!c)))) s') E s) : wpAny (model prog w) A (Builtin.«object.__ne__» ⟨[.ref x, b], []⟩) Q E s := by
  unfold Builtin.«object.__ne__»
  refine wpAny_bind (wpAny_of_eq (show _ = (pure (Value.ref x, [b]) : Sem (Value × List Value)) from rfl) ?_)
  refine wpAny_bind (wpAny_cRoomFor hu (wpAny_bind (PySem.W.ifBound_K X I he hf (wpAny_mono h (fun v s' hv => ?_) fun _ _ e => e))))
  obtain ⟨c, rfl, q⟩ := hv
  exact wpAny_bind (wpAny_truthy_bool (wpAny_pure q))
theorem ne_call {Q : Value → Shared → Prop} (hu : A.in1.units < cLine) (X : K.In s.heap) (I : PySem.W.InstAt s.heap x ox C od) (hm : PySem.W.mroIn K C (.type "object") = some true) (he : PySem.W.findIn K (.ref C) "__eq__" = some (some (.ref f))) (hf : PySem.W.isFn K (.ref f) = true)
    (h : wpAny (model prog w) A.in1 (call (.ref f) [.ref x, b]) (fun v s' => ∃ c, v = .bool c ∧ Q (.bool (!c)) s') E s) : wpAny (model prog w) A (call (.builtin "object.__ne__") [.ref x, b]) Q E s :=
  wpAny_call (codeAny_call_builtin F.cmp_object.ne.plain F.cmpEntry_ne (PySem.W.check_slot F.cmpKind_ne F.cmpSplit_ne (I.type.andThen (PySem.W.looks_mroIn X hm)) (F.cmpArgs_ne _ _) (ne_body hu X I he hf h)))
theorem bound_ne {args : List Value} {Q : Option Value → Shared → Prop} (X : K.In s.heap) (I : PySem.W.InstAt s.heap x ox C od) (hs : PySem.W.findIn K (.ref C) "__ne__" = some (some (.builtin "object.__ne__")))
    (h : wpAny (model prog w) A (call (.builtin "object.__ne__") (.ref x :: args)) (fun v => Q (some v)) E s) : wpAny (model prog w) A (callSpecialIfBound? (.ref x) "__ne__" args) Q E s := by
  have run : wpAny (model prog w) A (call (.builtin "object.__ne__") ([.ref x] ++ args) >>= fun v => pure (some v)) Q E s := wpAny_bind (wpAny_mono h (fun _ _ q => wpAny_pure q) fun _ _ q => q)
  simp only [callSpecialIfBound?, bindSpecialIfBound?]
  refine wpAny_holding (wpAny_bind (wpAny_bind (wpAny_bind (I.type.here ((PySem.W.looks_findIn X hs).here (wpAny_bind (wpAny_askSetting (wpAny_ite ?_))))))))
  split
  · exact wpAny_bind (wpAny_of_eq (F.cmp_object.ne.bind _) (wpAny_pure (by exact run)))
  · exact wpAny_tryCatch (wpAny_bind (wpAny_of_eq (F.cmp_object.ne.bind _) (wpAny_pure (by exact run))))
theorem rc_ne {Q : Value → Shared → Prop} {tb : Value} (hu : A.units + 2 < cLine) (X : K.In s.heap) (I : PySem.W.InstAt s.heap x ox C od) (hb : PySem.W.Looks (model prog w) s.heap (typeOf b) tb) (hn : PySem.W.notFirst K C tb = true) (hm : PySem.W.mroIn K C (.type "object") = some true)
    (hs : PySem.W.findIn K (.ref C) "__ne__" = some (some (.builtin "object.__ne__"))) (he : PySem.W.findIn K (.ref C) "__eq__" = some (some (.ref f))) (hf : PySem.W.isFn K (.ref f) = true)
    (h : wpAny (model prog w) A.in1 (call (.ref f) [.ref x, b]) (fun v s' => ∃ c, v = .bool c ∧ Q (.bool (!c)) s') E s) : wpAny (model prog w) A (richCompare .NotEq (.ref x) b) Q E s := by
  have one : wpAny (model prog w) A (tryCompare (.ref x) (cmpInfo .NotEq).2.1 b) (fun r s' => ∃ c, r = some (.bool (!c)) ∧ Q (.bool (!c)) s') E s := by
    unfold tryCompare
    refine wpAny_bind (bound_ne X I hs (ne_call (show A.units + 1 < cLine by omega) X I hm he hf (wpAny_mono h (fun v s' hv => ?_) fun _ _ e => e)))
    obtain ⟨c, e, q⟩ := hv
    exact ⟨c, e, wpAny_pure ⟨c, rfl, q⟩⟩
  unfold richCompare
  simp only [oneThing_ref]
  refine wpAny_holding (wpAny_bind (wpAny_cRoomFor (show A.units < cLine by omega) ?_))
  refine wpAny_bind (I.type.here (wpAny_bind (hb.here ?_)))
  split
  · rename_i q
    have e : PySem.W.subIn K tb (.ref C) = some false := (Bool.or_eq_true_iff.mp hn).elim (fun z => absurd q (by rw [beq_iff_eq.mp z]; simp)) fun z => beq_iff_eq.mp z
    refine wpAny_bind ((PySem.W.looks_subIn X e).here ?_)
    simp only [Bool.false_eq_true, if_false]
    refine wpAny_bind (wpAny_mono one (fun r s' z => ?_) fun _ _ e => e)
    obtain ⟨c, rfl, hq⟩ := z
    exact wpAny_pure hq
  · refine wpAny_bind (wpAny_pure ?_)
    simp only [Bool.false_eq_true, if_false]
    refine wpAny_bind (wpAny_mono one (fun r s' z => ?_) fun _ _ e => e)
    obtain ⟨c, rfl, hq⟩ := z
    exact wpAny_pure hq
end
section
variable {X : Cx} {C f : Addr} {fd : FuncData} {ps : List Str} {sp : Sp} {k : Nat}
def rOwnNe (K : PySem.W.Frag) (C : Addr) (sp : Sp) : R2 := fun x y H Q => ∃ (a dx : Addr) (fs : List (Str × V)) (t : Value), x = .ref a ∧ H a = some (.ins C dx fs) ∧ TyX K H y t ∧ PySem.W.notFirst K C t = true ∧ sp [.ref a, y] H (fun v H' => ∃ c, v = .bl c ∧ Q (.bl (!c)) H') E0
theorem op_ownNe (F : FnOk X.prog X.w X.K X.mg X.base L2.CX0 k f fd ps sp) (hr : Room (k + 1) X.A) (hm : PySem.W.mroIn X.K C (.type "object") = some true) (hs : PySem.W.findIn X.K (.ref C) "__ne__" = some (some (.builtin "object.__ne__")))
    (he : PySem.W.findIn X.K (.ref C) "__eq__" = some (some (.ref f))) (hf : PySem.W.isFn X.K (.ref f) = true) (hb : Binds X.K fd ps []) : OpR X (compareOp .NotEq) (rOwnNe X.K C sp) := by
  intro pins s σ H x y v u Q I rx ry h
  obtain ⟨a, dx, fs, t, rfl, ea, ty, nf, h⟩ := h
  obtain rfl : v = Value.ref a := rx
  obtain ⟨mA, O, _⟩ := ins_get I.hok ea
  obtain ⟨od, J, _⟩ := O.look
  obtain ⟨Pt, kt, pt, _⟩ := kit_of I ry ty
  have hl := F.len _ _ _ _ h
  refine rc_ne (tb := t) (by have := hr.un; omega) I.kIn J (kt.ty _ _ I.kIn pt) nf hm hs he hf (wpAny_call (codeAny_mono (F.run X.A.in1 X.stack s H ⟨[.ref a, u], []⟩ [.ref a, u] [.ref a, y] _ E0 hr.in1 I.env0.in1 (by
    have z := hb s [.ref a, u] I.kIn (by simpa using hl)
    simpa using z) (.cons rfl (.cons ry .nil)) h) fun r s' hq => ?_))
  match r, hq with
  | .error e, hq => exact hq.elim
  | .ok (.ret u2), hq =>
    obtain ⟨v2, H', I', rv, c, e, q⟩ := I.after hq
    rw [e] at rv
    obtain rfl : u2 = Value.bool c := rv
    exact ⟨c, rfl, .bl (!c), H', I', rfl, q⟩
end
end L2.Tb
set_option Elab.async false
set_option linter.all false
set_option maxRecDepth 100000
set_option maxHeartbeats 4000000
namespace L2.Tb
open PySem PySem.Spec PyProof.Rows
/-! ### a def whose code object is known -/
section
variable {P : Program} {w : World} {K : PySem.W.Frag} {mg : Str → Option Value} {base : Heap} {x : Str} {st : Stmt} {fd : FuncData} {N ps : List Str} {k : Nat} {sp : Sp}
/-- as cal_mk, the body being told where the def's code object stands -/
theorem cal_mkC {at_ : Str × Option Str} (F : FnP K x st (He.fAd K at_) fd) (hm : mg x = some (.ref (He.fAd K at_))) (S : FnScope N ps (defScope st))
    (hb : ∀ (kV doc pm : Value) (an : Option Addr) (cdv ct : Value) (us : List Value), us.length = ps.length → bindArgs (PySem.W.fnOf x x (defArgs st) (defBody st) (defScope st) .none kV doc pm an cdv ct) ⟨us, []⟩ = pure (ps.zip us))
    (len : ∀ vs H Q E, sp vs H Q E → vs.length = ps.length)
    (hbody : ∀ (cdv : Value) (A : Around) (outer : List Env) (s : Shared) (H : Hp) (vs : List V) (Q : VK) (E : XK), cdv = .ref (He.codeOf K at_) → Room k (A.deeper (envOfC x (defScope st) s.heap.objs.size (He.fAd K at_) cdv)) → sp vs H Q E →
      ∃ t, PSs (cxOf L2.CX0 P w K mg base N x (defScope st) (He.fAd K at_) cdv A outer s H E).nox (defBody st) t ∧ t { nx := fun _ H' => Q .non H', rt := Q } (start N vs) H) : Cal P w K mg base (k + 1) x sp := by
  obtain ⟨oc, od, dV, kV, doc, pm, an, cdv, ct, osl, rfl, lk, hcd, _, _⟩ := id F.ex
  obtain ⟨c, rfl⟩ := He.codeIn_ref hcd
  have hc : (Value.ref c) = .ref (He.codeOf K at_) := by rw [He.codeOf_eq lk rfl]
  refine ⟨_, _, ps, fn_of lk hcd S len fun A outer s H vs Q E hr h => ?_, hm, F.kp, F.bindsN hb⟩
  obtain ⟨t, a, b⟩ := hbody _ A outer s H vs Q E hc hr h
  exact ⟨t, a.nox, b⟩
end
/-! ### the end at the place of the law's call, some code objects having tables -/
section
variable {P : Program} {w : World} {K : PySem.W.Frag} {mg mb : Str → Option Value} {fa a : Addr} {fd : FuncData} {x : Str} {sp : Sp} {s1 : Shared} {vs : List Value} {ns : List Int} {cs : List (Addr × Addr)}
theorem law_atT (KX : K.In s1.heap) (hns : s1.heap.Ns mainGlobals mg) (hb : s1.heap.Ns builtinsNs mb)
    (hbb : ∀ x : Str, x ≠ "__name__" → mb x = bootBuiltins x) (hlim : s1.heap.NoLimit) (hg : s1.gens = #[]) (hT : ∀ p ∈ cs, s1.heap.get? p.2 = some { cls := .none, data := .fields #[] }) (nT : ∀ p ∈ cs, K.lookup p.2 = none) (C : ∀ p ∈ cs, PySem.W.CodeHd s1.heap p.1 p.2)
    (hbm : ∃ (bm : Addr) (ob : Obj), mg "__builtins__" = some (.ref bm) ∧ bm ≠ builtinsNs ∧ s1.heap.get? bm = some ob ∧ ob.cls = .type "module" ∧ ob.dict = some builtinsNs ∧ ob.data = .plain)
    (ha : s1.heap.get? a = some { cls := .type "list", data := .seq vs.toArray }) (hi : IntsAre vs ns) (hl : ns.length ≤ sizeLine)
    (R : ∀ base : Heap, K.In base → base.Ns mainGlobals mg → (∀ p ∈ cs, LamX.TabB base mg p.1 p.2) → RunsAt P w K mg base fa fd [x] sp callerA) (hbind : ∀ (s : Shared) (u : Value), BindsTo s fd ⟨[u], []⟩ [(x, u)])
    (hsp : ∀ H : Hp, (∀ p ∈ cs, H p.2 = some (.tbl #[])) → SqL K H a (ns.map V.int) → sp [.ref a] H (fun v _ => v = .bl true) fun _ _ _ => False) :
    codeAny (model P w) callerA (.call (.ref fa) ⟨[.ref a], []⟩) (fun r s' => r = .ok (.ret (.bool true)) ∧ OldK s1.heap s'.heap ∧ s'.os = s1.os ∧ AllBare s'.gens) s1 := by
  let ob : Obj := { cls := .type "list", data := .seq vs.toArray }
  let Ts : List Addr := cs.map (·.2)
  let H : Hp := fun b => if b ∈ Ts then some (.tbl #[]) else if b = a ∧ K.lookup a = none then some (.frz ob (.lst (ns.map V.int))) else none
  have tabs : ∀ {b}, b ∈ Ts → ∃ p ∈ cs, p.2 = b := fun h => by
    obtain ⟨p, hp, e⟩ := List.mem_map.mp h
    exact ⟨p, hp, e⟩
  have tab1 : ∀ p ∈ cs, p.2 ∈ Ts := fun p hp => List.mem_map_of_mem hp
  have objT : ∀ {b}, b ∈ Ts → s1.heap.get? b = some { cls := .none, data := .fields #[] } := fun h => by
    obtain ⟨p, hp, rfl⟩ := tabs h
    exact hT p hp
  have aT : a ∉ Ts := fun h => by
    have z := (objT h).symm.trans ha
    cases z
  have hTab : ∀ {b}, b ∈ Ts → H b = some (.tbl #[]) := fun h => if_pos h
  have hNot : ∀ {b}, b ∉ Ts → (b = a → (K.lookup a).isSome = true) → H b = none := fun {b} h1 h2 => by
    refine (if_neg h1).trans (if_neg fun ⟨e, k⟩ => ?_)
    have z := h2 e
    rw [k] at z
    cases z
  have hCase : ∀ b o, H b = some o → (b ∈ Ts ∧ o = .tbl #[]) ∨ (b ∉ Ts ∧ b = a ∧ K.lookup a = none ∧ o = .frz ob (.lst (ns.map V.int))) := fun b o e => by
    by_cases h1 : b ∈ Ts
    · rw [hTab h1] at e
      exact .inl ⟨h1, (Option.some.inj e).symm⟩
    · have e2 : (if b = a ∧ K.lookup a = none then some (HO.frz ob (.lst (ns.map V.int))) else none) = some o := (if_neg h1).symm.trans e
      by_cases h2 : b = a ∧ K.lookup a = none
      · rw [if_pos h2] at e2
        exact .inr ⟨h1, h2.1, h2.2, (Option.some.inj e2).symm⟩
      · rw [if_neg h2] at e2
        cases e2
  have plain : ∀ {b o}, s1.heap.get? b = some o → (∀ u n, o.data ≠ .seq u n) → o.data ≠ .fields #[] → H b = none := fun {b o} e n1 n2 => by
    refine hNot (fun h => n2 ?_) fun h => absurd ?_ (n1 vs.toArray 0)
    · have z := e.symm.trans (objT h)
      cases z
      rfl
    · rw [h, ha] at e
      cases e
      rfl
  have ns1 : ∀ {b : Addr} {m : Str → Option Value}, s1.heap.Ns b m → (hidT s1.heap H).Ns b m := fun {b m} ⟨o, es, ep, e, d, r⟩ =>
    ⟨o, es, ep, hidT_get e (plain e (fun u n z => by rw [d] at z; cases z) (fun z => by rw [d] at z; cases z)), d, r⟩
  have kin : K.In (hidT s1.heap H) := fun b o e => hidT_get (KX b o e) (hNot (fun h => by
    obtain ⟨p, hp, rfl⟩ := tabs h
    rw [nT p hp] at e
    cases e) fun h => by rw [← h, e]; rfl)
  have rv := vals_ints hi
  have sq : SqL K H a (ns.map V.int) := by
    cases hk : K.lookup a with
    | none => exact .inl (.inr ⟨ob, (if_neg aT).trans (if_pos ⟨rfl, hk⟩)⟩)
    | some o =>
      have e := KX a o hk
      rw [ha] at e
      cases e
      exact .inr ⟨_, vs.toArray, _, hk, rfl, rfl, rfl, by rw [List.size_toArray, hi.length]; exact hl, by simpa using rv⟩
  have hok : HOk P w H s1.heap := fun b u z => by
    rcases hCase b u z with ⟨h1, rfl⟩ | ⟨_, rfl, _, rfl⟩
    · exact objT h1
    · exact ⟨ha, by rw [List.length_map]; exact hl, vs, _, rv, ha⟩
  obtain ⟨mc, l1, l2⟩ := hlim
  have e0 : Env0 P w K mg (hidT s1.heap H) callerA [] s1 H := ⟨rfl, ⟨kin, ns1 hns, ⟨mb, ns1 hb, hbb⟩, ⟨mc, ns1 l1, l2⟩⟩, fun _ _ e => of_hidT e, Nat.le_of_eq (hidT_size _ _), trivial, fun b hb => (nomatch hb), hok, .of_eq hg⟩
  have TB : ∀ p ∈ cs, LamX.TabB (hidT s1.heap H) mg p.1 p.2 := fun p hp => by
    have tp := hT p hp
    obtain ⟨og, es, ep, eg, dg, _⟩ := id hns
    refine ⟨?_, ?_, fun z => ?_⟩
    · obtain ⟨o, us, file, tf, flags, tg, inF, text, tt, e1, q⟩ := C p hp
      refine ⟨o, us, file, tf, flags, tg, inF, text, tt, hidT_get e1 (plain e1 (fun u n z => ?_) fun z => ?_), q⟩
      · rw [q.2.1] at z
        cases z
      · rw [q.2.1] at z
        cases z
        exact absurd q.2.2.1 (by simp)
    · obtain ⟨bm, o, b1, b2, b3, b4, b5, b6⟩ := hbm
      refine ⟨bm, o, b1, b2, fun z => ?_, fun z => ?_, hidT_get b3 (plain b3 (fun u n z => ?_) fun z => ?_), b4, b5, b6⟩
      · rw [z, eg] at b3
        cases b3
        rw [dg] at b6
        cases b6
      · rw [z, tp] at b3
        cases b3
        cases b6
      · rw [b6] at z
        cases z
      · rw [b6] at z
        cases z
    · rw [z, tp] at eg
      cases eg
      cases dg
  refine codeAny_mono (R _ kin (ns1 hns) TB [] s1 H _ [.ref a] [.ref a] (fun v _ => v = .bl true) (fun _ _ _ => False) e0 (hbind s1 (.ref a)) (.cons rfl .nil) rfl (hsp H (fun p hp => hTab (tab1 p hp)) sq)) fun r s' h => ?_
  match r, h with
  | .error e, h => exact h.elim
  | .ok (.ret u), ⟨v, H', os, bare, un, hok', r', q⟩ =>
    subst q
    obtain rfl : u = Value.bool true := r'
    have grown : ∀ {b}, b ∈ Ts → ∃ more : Array Value, s'.heap.get? b = some { cls := .none, data := .fields more } := fun {b} h => by
      obtain ⟨more, z⟩ := un.tbls b #[] (hTab h)
      exact ⟨_, hok' b _ z⟩
    have kept : ∀ {b o}, b ∉ Ts → s1.heap.get? b = some o → s'.heap.get? b = some o := fun {b o} h1 e => by
      cases z : H b with
      | none => exact un.keep b o e z (fun z => nomatch z) (fun z => nomatch z)
      | some o2 =>
        rcases hCase b o2 z with ⟨h2, _⟩ | ⟨_, rfl, _, rfl⟩
        · exact absurd h2 h1
        · rw [ha] at e
          cases e
          exact (hok' b _ (un.frzs b ob _ z)).1
    refine ⟨rfl, ⟨fun b o e => ?_, fun b o e => ?_⟩, os, bare⟩
    · by_cases h1 : b ∈ Ts
      · obtain ⟨more, hm⟩ := grown h1
        obtain ⟨p, hp, rfl⟩ := tabs h1
        have z := e.symm.trans (hT p hp)
        cases z
        exact .inr (.inl ⟨((C p hp).tab (hT p hp)).isCodeTable, rfl, #[], more, rfl, by rw [Array.empty_append]; exact hm⟩)
      · exact .inl (kept h1 e)
    · by_cases h1 : b ∈ Ts
      · obtain ⟨more, hm⟩ := grown h1
        exact ⟨_, hm⟩
      · exact ⟨o, kept h1 e⟩
end
theorem walk_atT {l : PySem.W.OpenLaw} {n : Nat} {q : Program} {loose : List Str} {XP : (Str → Option Value) → Heap → Prop} {YP : World → Heap → Prop} {d : DefRec} {x : Str} (hn : l.most = some n) (hn2 : n ≤ sizeLine) (hdf : d.params.defaults = [])
    (F : ∀ (w : World) (mg : Str → Option Value) (fa : Addr) (h : Heap), YP w h → h.Ns mainGlobals mg → mg d.name = some (.ref fa) → ∃ (K : PySem.W.Frag) (fd : FuncData) (sp : Sp) (cs : List (Addr × Addr)), K.In h ∧ (∀ p ∈ cs, h.get? p.2 = some { cls := .none, data := .fields #[] }) ∧
      (∀ p ∈ cs, K.lookup p.2 = none) ∧ (∀ p ∈ cs, PySem.W.CodeHd h p.1 p.2) ∧ (∀ (s : Shared) (u : Value), BindsTo s fd ⟨[u], []⟩ [(x, u)]) ∧
      (∀ (H : Hp) (a : Addr) (ns : List Int), ns.length ≤ n → (∀ z ∈ ns, Builtin.Int.intBits z ≤ 1048576) → (∀ p ∈ cs, H p.2 = some (.tbl #[])) → SqL K H a (ns.map V.int) → sp [.ref a] H (fun v _ => v = .bl true) fun _ _ _ => False) ∧
      ∀ base : Heap, K.In base → base.Ns mainGlobals mg → (∀ p ∈ cs, LamX.TabB base mg p.1 p.2) → RunsAt l.prog w K mg base fa fd [x] sp callerA) :
    PySem.W.WalkO q loose XP YP l.row.toRowW d [] (fun f vs => PySem.call f vs) := by
  refine Att.attach_callB hn hdf fun w s0 s1 mg mb fa o pm cd doc a vs ns G Y ho hd hcd hmg hobj hints hlen hbits hg => ?_
  obtain ⟨K, fd, sp, cs, KX, hT, nT, C, hb, hsp, R⟩ := F w mg fa _ Y G.T.g hmg
  exact law_atT KX G.T.g G.T.b G.T.builtins G.T.nolimit hg hT nT C G.T.bmain hobj hints (Nat.le_trans hlen hn2) R hb fun H hH sq => hsp H a ns hlen hbits hH sq
end L2.Tb
set_option Elab.async false
set_option linter.all false
set_option maxRecDepth 100000
set_option maxHeartbeats 4000000
/-! what a head is asked for: own facts in one Bool, defs at any address, written dicts, empty code tables -/
namespace L2.Tb
open PySem PySem.Spec PyProof.Rows
/-- a plain own class, as isinstance and != ask of it -/
structure InsC (K : PySem.W.Frag) (C : Addr) : Prop where
  ha : PySem.W.findIn K (.ref C) "__class__" = some (some (.builtin "object.__class__"))
  hn : PySem.W.specialIn K (.builtin "object.__class__") "__get__" = some (some (.builtin "getset_descriptor.__get__"))
  ht : PySem.W.takesIn K (.builtin "object.__class__") = some true
  hm : PySem.W.mroIn K C (.type "object") = some true
def insB (K : PySem.W.Frag) (C : Addr) : Bool := He.eqO (PySem.W.findIn K (.ref C) "__class__") (some (some (.builtin "object.__class__"))) && (He.eqO (PySem.W.specialIn K (.builtin "object.__class__") "__get__") (some (some (.builtin "getset_descriptor.__get__"))) &&
  (decide (PySem.W.takesIn K (.builtin "object.__class__") = some true) && decide (PySem.W.mroIn K C (.type "object") = some true)))
theorem insB_ok {K : PySem.W.Frag} {C : Addr} (h : insB K C = true) : InsC K C := by
  obtain ⟨a, h⟩ := He.ba h
  obtain ⟨b, h⟩ := He.ba h
  obtain ⟨c, d⟩ := He.ba h
  exact ⟨He.eqO_ok a, He.eqO_ok b, of_decide_eq_true c, of_decide_eq_true d⟩
/-- a property of the class -/
abbrev pAd (K : PySem.W.Frag) (C : Addr) (f : Str) : Addr := He5.wf K C "property" f
def propB (K : PySem.W.Frag) (C : Addr) (f : Str) : Bool := He.eqO (PySem.W.findIn K (.ref C) f) (some (some (.ref (He.ma K C f)))) && (He.eqO (PySem.W.specialIn K (.ref (He.ma K C f)) "__get__") (some (some (.builtin "property.__get__"))) &&
  (decide (PySem.W.takesIn K (.ref (He.ma K C f)) = some true) && (match PySem.W.recIn K (He.ma K C f) "property" with
    | some (.ref _ :: _) => true
    | _ => false)))
theorem propB_ok {K : PySem.W.Frag} {C : Addr} {f : Str} (h : propB K C f = true) : PropOf K C f (He.ma K C f) (pAd K C f) := by
  obtain ⟨a, h⟩ := He.ba h
  obtain ⟨b, h⟩ := He.ba h
  obtain ⟨c, d⟩ := He.ba h
  refine ⟨He.eqO_ok a, He.eqO_ok b, of_decide_eq_true c, ?_⟩
  unfold pAd He5.wf
  split at d
  · rename_i g r e
    exact ⟨r, by rw [e]⟩
  · cases d
/-- a class that is read by its name; its classmethods -/
abbrev cAd (K : PySem.W.Frag) (C : Addr) (m : Str) : Addr := He5.wf K C "classmethod" m
def creadB (K : PySem.W.Frag) (C : Addr) : Bool := PySem.W.readsIn K C (.type "type") && He.eqO (PySem.W.specialIn K (.ref C) "__getattribute__") (some (some (.builtin "type.__getattribute__")))
theorem creadB_ok {K : PySem.W.Frag} {C : Addr} (h : creadB K C = true) : ClX.CRead K C (.type "type") := ⟨(He.ba h).1, He.eqO_ok (He.ba h).2⟩
def cmetB (K : PySem.W.Frag) (C : Addr) (m : Str) : Bool := He5.wrapB K C "classmethod" "classmethod.__get__" m && PySem.W.fnIn K (cAd K C m)
theorem cmetB_ok {K : PySem.W.Frag} {C : Addr} {m : Str} (h : cmetB K C m = true) : ClX.CMet K C (.type "type") m (He.ma K C m) (cAd K C m) := He5.cmet_of (He.ba h).1 (He.ba h).2
/-! ### what the module's names reach -/
def refsAll (g : Addr → Option Obj) (as : List Addr) : List Addr := as.flatMap fun a => match g a with
  | some o => He.refsD o
  | none => []
def seenAt (g : Addr → Option Obj) : Nat → List Addr → List Addr
  | 0, as => as
  | n + 1, as => as ++ seenAt g n (refsAll g as)
def kH (n : Nat) (g : Addr → Option Obj) : PySem.W.Frag := He.frT g (seenAt g n [mainGlobals] ++ [cStatics])
/-! ### the Hook -/
section
variable (n : Nat) (fb : PySem.W.Frag → Bool) (fn : List He5.DefA) (ts : List He.Tab) (tf : List He.Defn)
abbrev AlH : Type := (Bool × List He.FnW) × List (Option (List (Option (Str × Int))))
def obsH (g : Addr → Option Obj) : AlH := ((fb (kH n g) && (He.tabsB g tf (kH n g) && fn.all fun d => d.ok (kH n g)), fn.map fun d => He5.fnA (kH n g) (d.at_ (kH n g))), ts.map fun t => He.dicW (kH n g) (t.1 (kH n g)))
def valH (w : World) : AlH := ((true, fn.map He5.DefA.val), ts.map fun t => some (He.keysIn w.params t.2))
structure SaysH (w : World) (h : Heap) (K : PySem.W.Frag) : Prop where
  kin : K.In h
  fb : fb K = true
  df : ∀ d ∈ fn, ∃ fd, FunD K d.name d.qual d.params d.body d.scope (d.dvs K) (d.kws K) (d.at_ K) fd
  tb : ∀ t ∈ ts, ∃ es m, KDict K w (t.1 K) es m
  hd : ∀ p ∈ tf, PySem.W.codeHdIn K (He.cT K p).1 (He.cT K p).2 = true
  out : ∀ p ∈ tf, K.lookup (He.cT K p).2 = none
  emp : ∀ p ∈ tf, h.get? (He.cT K p).2 = some { cls := .none, data := .fields #[] }
end
section
variable {n : Nat} {fb : PySem.W.Frag → Bool} {fn : List He5.DefA} {ts : List He.Tab} {tf : List He.Defn}
theorem map_mem {α β : Type} {f g : α → β} {l : List α} (h : l.map f = l.map g) {a : α} (ha : a ∈ l) : f a = g a := List.map_inj_left.mp h a ha
theorem saysH_of {w : World} {h : Heap} (e : obsH n fb fn ts tf h.get? = valH fn ts w) : SaysH fb fn ts tf w h (kH n h.get?) := by
  have e1 : (fb (kH n h.get?) && (He.tabsB h.get? tf (kH n h.get?) && fn.all fun d => d.ok (kH n h.get?))) = true := congrArg (fun z : AlH => z.1.1) e
  have e2 : (fn.map fun d => He5.fnA (kH n h.get?) (d.at_ (kH n h.get?))) = fn.map He5.DefA.val := congrArg (fun z : AlH => z.1.2) e
  have e3 : (ts.map fun t => He.dicW (kH n h.get?) (t.1 (kH n h.get?))) = ts.map fun t => some (He.keysIn w.params t.2) := congrArg (fun z : AlH => z.2) e
  obtain ⟨a, b⟩ := He.ba e1
  obtain ⟨b, c⟩ := He.ba b
  have tab : ∀ p ∈ tf, PySem.W.codeHdIn (kH n h.get?) (He.cT (kH n h.get?) p).1 (He.cT (kH n h.get?) p).2 = true ∧ ∃ o, h.get? (He.cT (kH n h.get?) p).2 = some o ∧ He.emptyTab o = true := fun p hp => by
    obtain ⟨x, y⟩ := He.ba (List.all_eq_true.mp b p hp)
    refine ⟨x, ?_⟩
    split at y
    · rename_i o q
      exact ⟨o, q, y⟩
    · cases y
  refine ⟨He.frT_in, a, fun d hd => He5.DefA.funD (map_mem e2 hd) (List.all_eq_true.mp c d hd), fun t ht => He.dicW_ok (map_mem e3 ht), fun p hp => (tab p hp).1, fun p hp => ?_, fun p hp => ?_⟩
  · obtain ⟨_, o, q, z⟩ := tab p hp
    exact He.frT_none q z
  · obtain ⟨_, o, q, z⟩ := tab p hp
    rw [q, He.emptyTab_eq z]
def hookH (n : Nat) (fb : PySem.W.Frag → Bool) (fn : List He5.DefA) (ts : List He.Tab) (tf : List He.Defn) : PySem.W.Hook where
  α := AlH
  obs := fun s => obsH n fb fn ts tf s.heap.get?
  val := fun w => valH fn ts w
  says := fun w h => ∃ K : PySem.W.Frag, SaysH fb fn ts tf w h K
  of := fun _ _ e => ⟨_, saysH_of e⟩
  keeps := fun _ _ _ ⟨K, c⟩ k => ⟨K, PySem.W.Frag.In.keeps c.kin k, c.fb, c.df, c.tb, c.hd, c.out, fun p hp => k _ _ (c.emp p hp)⟩
theorem obH_eq (s : PySem.W.SharedT) : obsH n fb fn ts tf (HandSHeadRun.getT s) = (hookH n fb fn ts tf).obs s.abs := by
  have e : HandSHeadRun.getT s = s.abs.heap.get? := funext fun a => HandSHeadRun.getT_eq s a
  show obsH n fb fn ts tf (HandSHeadRun.getT s) = obsH n fb fn ts tf s.abs.heap.get?
  rw [e]
theorem SaysH.nth {w : World} {h : Heap} {K : PySem.W.Frag} (c : SaysH fb fn ts tf w h K) (i : Nat) {d : He5.DefA} (e : fn[i]? = some d := by rfl) : ∃ fd, FunD K d.name d.qual d.params d.body d.scope (d.dvs K) (d.kws K) (d.at_ K) fd := c.df d (List.mem_of_getElem? e)
theorem SaysH.cs {w : World} {h : Heap} {K : PySem.W.Frag} (c : SaysH fb fn ts tf w h K) : (∀ p ∈ tf.map (He.cT K), h.get? p.2 = some { cls := .none, data := .fields #[] }) ∧ (∀ p ∈ tf.map (He.cT K), K.lookup p.2 = none) ∧ ∀ p ∈ tf.map (He.cT K), PySem.W.CodeHd h p.1 p.2 := by
  refine ⟨fun p hp => ?_, fun p hp => ?_, fun p hp => ?_⟩ <;> obtain ⟨q, hq, rfl⟩ := List.mem_map.mp hp
  · exact c.emp q hq
  · exact c.out q hq
  · exact PySem.W.codeHd_of_K c.kin (c.hd q hq)
end
/-- all of a list of names -/
theorem all_get {α : Type} {p : α → Bool} {l : List α} (h : l.all p = true) (i : Nat) {a : α} (e : l[i]? = some a := by rfl) : p a = true := List.all_eq_true.mp h a (List.mem_of_getElem? e)
/-! ### a written dict's keys; a written tuple -/
def keyS (e : DictEntry) : Option Str := match e.key with
  | .str z _ => some z
  | _ => none
def keysB (K : PySem.W.Frag) (a : Addr) (ks : List Str) : Bool := match K.lookup a with
  | some ⟨_, _, .dict es _, _⟩ => decide (es.toList.map keyS = ks.map some)
  | _ => false
theorem keysB_ok {K : PySem.W.Frag} {a : Addr} {ks : List Str} (h : keysB K a ks = true) (z : Str) : ∃ r, PySem.W.nsIn K a z = some r ∧ r.isSome = ks.contains z := by
  unfold keysB at h
  split at h
  · rename_i oc od es n sl q
    have h := of_decide_eq_true h
    unfold PySem.W.nsIn
    rw [q]
    dsimp only
    have key : ∀ (l : List DictEntry) (ks : List Str), l.map keyS = ks.map some → l.any (·.refKey) = false ∧ (l.find? (·.key.isStr z)).isSome = ks.contains z := by
      intro l
      induction l with
      | nil =>
        intro ks h
        cases ks with
        | nil => exact ⟨rfl, rfl⟩
        | cons => cases h
      | cons e l ih =>
        intro ks h
        cases ks with
        | nil => cases h
        | cons k ks =>
          rw [List.map_cons, List.map_cons] at h
          injection h with h1 h2
          obtain ⟨i1, i2⟩ := ih ks h2
          unfold keyS at h1
          split at h1
          · rename_i y t e1
            have h1 : y = k := Option.some.inj h1
            have r : e.refKey = false := by
              unfold DictEntry.refKey
              rw [e1]
            refine ⟨by rw [List.any_cons, r, i1]; rfl, ?_⟩
            rw [List.find?_cons, List.contains_cons]
            have w : e.key.isStr z = (z == k) := by
              rw [e1, ← h1]
              show (y == z) = (z == y)
              exact Bool.eq_iff_iff.mpr ⟨fun c => beq_iff_eq.mpr (beq_iff_eq.mp c).symm, fun c => beq_iff_eq.mpr (beq_iff_eq.mp c).symm⟩
            rw [w]
            cases (z == k) with
            | true => rfl
            | false => exact i2
          · cases h1
    obtain ⟨h1, h2⟩ := key _ _ h
    cases f : es.toList.find? (·.key.isStr z) with
    | some e =>
      rw [f] at h2
      exact ⟨_, rfl, h2⟩
    | none =>
      rw [f] at h2
      refine ⟨none, ?_, h2⟩
      dsimp only
      rw [h1]
      rfl
  · cases h
def tupB (K : PySem.W.Frag) (a : Addr) (vs : List V) : Bool := match K.lookup a with
  | some o => decide (o.cls = .type "tuple") && (match o.data with
    | .seq its _ => decide (its.size ≤ 1000) && He.relAll vs its.toList
    | _ => false)
  | none => false
theorem tupB_ok {K : PySem.W.Frag} {a : Addr} {vs : List V} (h : tupB K a vs = true) (H : Hp) : SqT K H a vs := by
  unfold tupB at h
  split at h
  · rename_i o q
    obtain ⟨h1, h2⟩ := He.ba h
    split at h2
    · rename_i its n e
      obtain ⟨h3, h4⟩ := He.ba h2
      exact .inr ⟨o, its, n, q, of_decide_eq_true h1, e, Nat.le_trans (of_decide_eq_true h3) (by rw [sizeLine_eq]; decide), He.relAll_ok h4⟩
    · cases h2
  · cases h
/-- what a written tuple names -/
def refsIn (K : PySem.W.Frag) (a : Addr) : List Addr := match K.lookup a with
  | some o => (match o.data with
    | .seq its _ => its.toList.flatMap He.refV
    | _ => [])
  | none => []
/-- the value of a written dict at a key, an object -/
def refOf (K : PySem.W.Frag) (a : Addr) (z : Str) : Addr := match PySem.W.nsIn K a z with
  | some (some (.ref l)) => l
  | _ => 0
def refB (K : PySem.W.Frag) (a : Addr) (z : Str) : Bool := He.eqO (PySem.W.nsIn K a z) (some (some (.ref (refOf K a z))))
/-! ### an error class with one attribute -/
def ercB (K : PySem.W.Frag) (b : Bs) (x f : Str) : Bool := (He.Fa.glo x).ok K && (ecB K b (He.ga K x) && ((He.Fa.meth x "__init__").ok K && (He.Fa.noat x f).ok K))
theorem binds_kw {K : PySem.W.Frag} {x q fl : Str} {params : Arguments} {body : List Stmt} {scope : Scope} {f : Addr} {fd : FuncData} (F : FunD K x q params body scope [] [] f fd)
    (hk : ∀ (kV doc pm : Value) (an : Option Addr) (cdv ct u v : Value), bindArgs (PySem.W.fnOf x q params body scope .none kV doc pm an cdv ct) ⟨[u], [(fl, v)]⟩ = pure [(("self" : Str), u), (fl, v)]) (sh : Shared) (a : Addr) (zs : List Value)
    (hl : zs.length = [fl].length) : BindsTo sh fd ⟨[Value.ref a], [fl].zip zs⟩ (("self" :: [fl] : List Str).zip (Value.ref a :: zs)) := by
  obtain ⟨oc, od, dV, kV, doc, pm, an, cdv, ct, osl, rfl, lk, hcd, hD, hK⟩ := F.ex
  match zs, hl with
  | [v], _ =>
    rcases hD with ⟨_, rfl⟩ | ⟨e, _⟩
    · exact .of_eq (hk kV doc pm an cdv ct _ v)
    · exact absurd rfl e
section
variable {P : Program} {w : World} {K : PySem.W.Frag} {mg : Str → Option Value} {base h : Heap}
theorem erc_of {st : Stmt} {x q fl : Str} {b : Bs} {p1 p2 p3 p4 : Pos} (X : K.In h) (G : h.Ns mainGlobals mg) (e : ercB K b x fl = true) (ok : b.Ok)
    (hF : ∃ fd, FunD K "__init__" q (defArgs st) (defBody st) (defScope st) [] [] (He.ma K (He.ga K x) "__init__") fd) (hbody : defBody st = [.Assign [.Attribute (.Name "self" p1) fl p2] (.Name fl p3) p4])
    (S : FnScope ["self", fl] ["self", fl] (defScope st)) (h0 : (defScope st).names.lookup ("self" : Str) = some .local) (h1 : (defScope st).names.lookup fl = some .local) (hd : (fl == ("__debug__" : Str)) = false) (hcd : (fl == ("__classdict__" : Str)) = false)
    (hp : ∀ (kV doc pm : Value) (an : Option Addr) (cdv ct : Value) (us : List Value), us.length = (["self", fl] : List Str).length → bindArgs (PySem.W.fnOf "__init__" q (defArgs st) (defBody st) (defScope st) .none kV doc pm an cdv ct) ⟨us, []⟩ = pure ((["self", fl] : List Str).zip us))
    (hk : ∀ (kV doc pm : Value) (an : Option Addr) (cdv ct u v : Value), bindArgs (PySem.W.fnOf "__init__" q (defArgs st) (defBody st) (defScope st) .none kV doc pm an cdv ct) ⟨[u], [(fl, v)]⟩ = pure [(("self" : Str), u), (fl, v)]) :
    ErC P w K mg base x fl b (He.ga K x) := by
  obtain ⟨e1, e2⟩ := He.ba e
  obtain ⟨e2, e3⟩ := He.ba e2
  obtain ⟨e3, e4⟩ := He.ba e3
  have m := He.meth_ok e3
  obtain ⟨fd, F⟩ := hF
  refine ⟨He.glo_ok X G e1, ecB_ok ok e2, He.noat_ok e4, _, fd, m.1, beq_iff_eq.mp m.2, ?_, F.bindsN hp, binds_kw F hk⟩
  rw [hbody] at F
  exact init_ok F S h0 h1 hd hcd
end
end L2.Tb
set_option Elab.async false
set_option linter.all false
set_option maxRecDepth 100000
set_option maxHeartbeats 4000000
/-! sorted(..) of tuples of ints of either sign: a list of them, a set of them -/
namespace L2.Tb
open PySem PySem.Spec PyProof.Rows
def Wi (B : Int) (ns : List Int) : Prop := ∀ m ∈ ns, -B ≤ m ∧ m < B
/-- a rank in the tuples' order -/
def rk (B : Int) (ns : List Int) : Int := TS.code (B + B) (ns.map fun m => m + B)
theorem Wi.bd {B : Int} {ns : List Int} (h : Wi B ns) : TS.Bd (B + B) (ns.map fun m => m + B) := fun m hm => by
  obtain ⟨k, hk, rfl⟩ := List.mem_map.mp hm
  have := h k hk
  constructor <;> omega
theorem Wi.rest {B d : Int} {ns : List Int} (h : Wi B (d :: ns)) : Wi B ns := fun m hm => h m (List.mem_cons_of_mem _ hm)
theorem rk_lt {B d e : Int} {u v : List Int} (hl : u.length = v.length) (hu : Wi B u) (hv : Wi B v) (h : d < e) : rk B (d :: u) < rk B (e :: v) :=
  TS.code_lt (d := d + B) (e := e + B) (by rw [List.length_map, List.length_map]; exact hl) hu.bd hv.bd (by omega)
theorem rk_same {B d : Int} {u v : List Int} (hl : u.length = v.length) : rk B (d :: u) < rk B (d :: v) ↔ rk B u < rk B v :=
  TS.code_same (d := d + B) (by rw [List.length_map, List.length_map]; exact hl)
theorem rk_ne {B d e : Int} {u v : List Int} (hl : u.length = v.length) (hu : Wi B u) (hv : Wi B v) (n : d ≠ e) : rk B (d :: u) < rk B (e :: v) ↔ d < e := by
  refine ⟨fun h => ?_, rk_lt hl hu hv⟩
  rcases Int.lt_or_gt_of_ne n with c | c
  · exact c
  · exact absurd (rk_lt hl.symm hv hu c) (Int.not_lt.mpr (Int.le_of_lt h))
/-- the rank tells the tuple -/
theorem rk_inj {B : Int} : ∀ {u v : List Int}, u.length = v.length → Wi B u → Wi B v → rk B u = rk B v → u = v
  | [], [], _, _, _, _ => rfl
  | d :: u, e :: v, hl, hu, hv, h => by
    have hl' : u.length = v.length := by simpa using hl
    by_cases c : d = e
    · subst c
      have t : rk B u = rk B v := by
        rcases Int.lt_trichotomy (rk B u) (rk B v) with z | z | z
        · have := (rk_same (d := d) hl').mpr z
          omega
        · exact z
        · have := (rk_same (d := d) hl'.symm).mpr z
          omega
      rw [rk_inj hl' hu.rest hv.rest t]
    · rcases Int.lt_or_gt_of_ne c with z | z
      · have := rk_lt hl' hu.rest hv.rest z
        omega
      · have := rk_lt hl'.symm hv.rest hu.rest z
        omega
  | [], _ :: _, hl, _, _, _ => by simp at hl
  | _ :: _, [], hl, _, _, _ => by simp at hl
section
variable {P : Program} {w : World} {A : Around} {E : Value → Shared → Prop} {s : Shared}
theorem lexW {Q : Bool → Shared → Prop} {B : Int} {b : Bool} : ∀ {us vs : List Value} {ns ms : List Int} (i : Nat), IntsAre us ns → IntsAre vs ms → ns.length = ms.length → Wi B ns → Wi B ms → Q (decide (rk B ns < rk B ms)) s →
    PySem.W.KatLex P w A b false Q (us.zip vs) i s
  | _, _, _, _, i, .nil, .nil, _, _, _, h => PySem.W.kat_nil (by rw [decide_eq_false (Int.lt_irrefl _)] at h; exact h)
  | _, _, _, _, i, .cons p t a, .cons q u c, hl, w1, w2, h => by
    have l2 := Nat.succ.inj hl
    refine PySem.W.kat_cons (wpAny_eqBool_int ?_)
    by_cases e : p = q
    · rw [e, beq_self_eq_true]
      rw [e, decide_eq_decide.mpr (rk_same l2)] at h
      exact PySem.W.kat_yes (lexW (i + 1) a c l2 w1.rest w2.rest h)
    · rw [beq_eq_false_iff_ne.mpr e]
      rw [decide_eq_decide.mpr (rk_ne l2 w1.rest w2.rest e)] at h
      exact PySem.W.kat_no (TS.oneLt_ints _ h)
  | _, _, _, _, _, .nil, .cons .., hl, _, _, _ => by simp at hl
  | _, _, _, _, _, .cons .., .nil, hl, _, _, _ => by simp at hl
/-- tuples of d ints each -/
def TpsOk (h : Heap) (d : Nat) (B : Int) (vs : List Value) : Prop := ∀ v ∈ vs, ∃ ns, TS.TupInts h v ns ∧ ns.length = d ∧ Wi B ns
theorem TpsOk.keeps {h h' : Heap} {d : Nat} {B : Int} {vs : List Value} (x : TpsOk h d B vs) (k : ∀ b o, h.get? b = some o → o.cls = .type "tuple" → h'.get? b = some o) : TpsOk h' d B vs := fun v hv => by
  obtain ⟨ns, t, q⟩ := x v hv
  exact ⟨ns, t.keeps k, q⟩
theorem heads_of {h : Heap} {d : Nat} {B : Int} (d1 : 1 ≤ d) : ∀ vs : List Value, TpsOk h d B vs → ∃ fs, PySem.W.KatTups h vs fs ∧ fs.length = vs.length ∧ ∀ f ∈ fs, ∃ n t, f = Value.int n t
  | [], _ => ⟨[], .nil, rfl, fun f hf => by cases hf⟩
  | v :: vs, x => by
    obtain ⟨fs, kt, len, all⟩ := heads_of d1 vs fun u hu => x u (List.mem_cons_of_mem _ hu)
    obtain ⟨ns, ⟨a, items, rfl, ⟨ob, g1, g2, m, g3⟩, ia⟩, ln, _⟩ := x v (List.mem_cons_self ..)
    cases e : items.toList with
    | nil =>
      rw [e] at ia
      have z := ia.length
      rw [ln] at z
      exact absurd (z ▸ d1 : 1 ≤ ([] : List Value).length) (by decide)
    | cons y ys =>
      obtain ⟨n, t, ey⟩ := ia.all y (by rw [e]; exact List.mem_cons_self ..)
      have g4 : items[0]? = some y := by rw [← Array.getElem?_toList, e]; rfl
      refine ⟨y :: fs, .cons g1 g2 g3 g4 kt, congrArg Nat.succ len, fun f hf => ?_⟩
      rcases List.mem_cons.mp hf with rfl | hf
      · exact ⟨n, t, ey⟩
      · exact all f hf
theorem kindW {d : Nat} {B : Int} {vs : List Value} (d1 : 1 ≤ d) (two : 2 ≤ vs.length) (x : TpsOk s.heap d B vs) (r : Value → Int) (hr : ∀ v ∈ vs, ∀ ns, TS.TupInts s.heap v ns → r v = rk B ns) (Q : SortKind → Shared → Prop)
    (h : ∀ κ, TS.Cmp P w A s κ (pairsOf vs) r → Q κ s) : wpAny (model P w) A (keyKind' vs.toArray) Q E s := by
  obtain ⟨fs, kt, len, all⟩ := heads_of d1 vs x
  refine PySem.W.kat_kind (T := Value.type "int") kt (by omega) (fun f hf => ?_) rfl (h _ fun p q mp mq Q2 E2 goal => ?_)
  · obtain ⟨n, t, rfl⟩ := all f hf
    exact PySem.W.Looks.of_pure rfl
  · rw [pairsOf_toList] at mp mq
    have m1 := (mem_zip_self mp).2
    have m2 := (mem_zip_self mq).2
    obtain ⟨ns, t1, l1, w1⟩ := x _ m1
    obtain ⟨ms, t2, l2, w2⟩ := x _ m2
    have g : Q2 (decide (rk B ns < rk B ms)) s := by
      rw [← hr _ m1 _ t1, ← hr _ m2 _ t2]
      exact goal
    obtain ⟨a1, i1, e1, ⟨o1, p1, c1, n1, y1⟩, z1⟩ := t1
    obtain ⟨a2, i2, e2, ⟨o2, p2, c2, n2, y2⟩, z2⟩ := t2
    rw [e1, e2]
    refine PySem.W.kat_lt p1 y1 p2 y2 ?_
    have k1 := z1.length
    have k2 := z2.length
    rw [Array.length_toList] at k1 k2
    rw [show decide (i1.size < i2.size) = false from decide_eq_false (by omega)]
    exact lexW 0 z1 z2 (by omega) w1 w2 g
theorem sortW {a : Addr} {vs : List Value} {n d : Nat} {B : Int} {R : PySem.Fin → Shared → Prop} (at_ : s.heap.get? a = some (seqObj "list" vs.toArray n)) (few : vs.length < 64) (d1 : 1 ≤ d) (x : TpsOk s.heap d B vs)
    (r : Value → Int) (hr : ∀ v ∈ vs, ∀ ns, TS.TupInts s.heap v ns → r v = rk B ns)
    (h : ∀ out : Array Value, out.toList.Perm vs → out.toList.Pairwise (fun u v => r u ≤ r v) → R (.done (.ret .none)) { s with heap := sortedHeap s.heap a vs out }) : wpAny (model P w) A (Builtin.«list.sort» ⟨[.ref a], []⟩) R E s := by
  have stay : ∀ b o, s.heap.get? b = some o → o.cls = .type "tuple" → (TS.midHeap s.heap a vs).get? b = some o := fun b o e hc => by
    refine TS.midHeap_old (fun z => ?_) e
    rw [z, at_] at e
    cases e
    have y : Value.type "list" = Value.type "tuple" := hc
    injection y with y
    exact absurd y (by decide)
  refine SK.plain_sort (r := r) at_ few (fun two Q hQ => ?_) fun ps out q1 q2 q3 => ?_
  · refine kindW (s := { s with heap := TS.midHeap s.heap a vs }) d1 two (x.keeps stay) r (fun v hv ns t => ?_) Q hQ
    obtain ⟨ms, t0, _⟩ := x v hv
    rw [t.ints.symm.trans (t0.keeps stay).ints]
    exact hr v hv ms t0
  · obtain ⟨z1, z2⟩ := TS.out_rank q1 q2 q3
    exact h out z1 z2
/-- sorted(xs) of a list -/
theorem sortedW {l : Addr} {vs : List Value} {d : Nat} {B : Int} {Q : Value → Shared → Prop} (hl : s.heap.IsList l vs.toArray) (few : vs.length < 64) (d1 : 1 ≤ d) (x : TpsOk s.heap d B vs)
    (h : ∀ out : Array Value, out.toList.Perm vs → out.toList.Pairwise (fun u v => rk B (TS.intsOf s.heap u) ≤ rk B (TS.intsOf s.heap v)) → Q (.ref (s.heap.objs.size + 1)) { s with heap := sortedAll s.heap vs out }) :
    wpAny (model P w) A (call (.builtin "sorted") [.ref l]) Q E s := by
  have big : vs.length ≤ sizeLine := by rw [sizeLine_eq]; omega
  refine Calls.call_function_entry kind_sorted PyProof.Rows.plain_sorted entry_sorted (args_sorted1 _) ?_
  unfold Builtin.«sorted»
  refine wpAny_bind (m := checkCount "sorted" 1 1 _) (wpAny_pure (wpAny_bind (collect_list hl ?_ big)))
  refine wpAny_bind (wpAny_newList ?_ big)
  let h1 : Heap := (s.heap.push (seqObj "list" #[] 0)).update s.heap.objs.size (Obj.mapSeq (· ++ vs.toArray))
  have z1 : h1.objs.size = s.heap.objs.size + 1 := by
    show ((s.heap.push (seqObj "list" #[] 0)).update s.heap.objs.size (Obj.mapSeq (· ++ vs.toArray))).objs.size = _
    rw [Heap.size_update, size_push']
  have at_ : (h1.push (seqObj "list" vs.toArray 0)).get? (s.heap.objs.size + 1) = some (seqObj "list" vs.toArray 0) := by
    rw [← z1]
    exact Heap.get?_push_size _ rfl
  have stay : ∀ b o, s.heap.get? b = some o → o.cls = .type "tuple" → (h1.push (seqObj "list" vs.toArray 0)).get? b = some o := fun b o e _ => by
    have lt := Heap.lt_size e
    rw [Heap.get?_push_ne _ _ _ (by rw [z1]; exact Nat.ne_of_lt (Nat.lt_succ_of_lt lt))]
    exact (Heap.get?_update_ne _ _ _ _ (Nat.ne_of_lt lt)).trans ((Heap.get?_push_ne _ _ _ (Nat.ne_of_lt lt)).trans e)
  show wpAny _ _ _ _ _ { s with heap := h1.push (seqObj "list" vs.toArray 0) }
  have z2 : ({ s with heap := h1 } : Shared).heap.objs.size = s.heap.objs.size + 1 := z1
  refine wpAny_bind (wpAny_holding ?_)
  show wpAny (model P w) A.in1 (call (.builtin "list.sort") [.ref h1.objs.size]) _ _ { s with heap := h1.push (seqObj "list" vs.toArray 0) }
  rw [z1]
  refine wpAny_call_entry slot_list_sort ⟨_, at_, rfl⟩ entry_list_sort (sortW at_ few d1 (x.keeps stay) (fun v => rk B (TS.intsOf s.heap v)) (fun v hv ns t => ?_) fun out a1 a2 => ⟨_, rfl, ?_⟩) (args_list_sort _)
  · obtain ⟨ms, t0, _⟩ := x v hv
    show rk B (TS.intsOf s.heap v) = rk B ns
    rw [t0.ints, ← (t0.keeps stay).ints, t.ints]
  · show wpAny _ _ (pure _) _ _ _
    exact wpAny_pure ⟨_, rfl, h out a1 a2⟩
end
/-! ### as rules -/
theorem perm_back {α β : Type} {f : α → β} {l m : List β} (h : l.Perm m) : ∀ ks : List α, m = ks.map f → ∃ L : List α, L.Perm ks ∧ l = L.map f := by
  induction h with
  | nil => exact fun ks e => ⟨ks, .refl _, e⟩
  | cons x _ ih =>
    intro ks e
    cases ks with
    | nil => cases e
    | cons k ks =>
      rw [List.map_cons] at e
      injection e with e1 e2
      obtain ⟨L, p, q⟩ := ih ks e2
      exact ⟨k :: L, p.cons k, by rw [List.map_cons, ← q, e1]⟩
  | swap x y l =>
    intro ks e
    match ks, e with
    | k1 :: k2 :: ks, e =>
      rw [List.map_cons, List.map_cons] at e
      injection e with e1 e2
      injection e2 with e2 e3
      exact ⟨k2 :: k1 :: ks, .swap .., by rw [List.map_cons, List.map_cons, ← e1, ← e2, ← e3]⟩
  | trans _ _ i1 i2 =>
    intro ks e
    obtain ⟨L, p, q⟩ := i2 ks e
    obtain ⟨M, p2, q2⟩ := i1 L q
    exact ⟨M, p2.trans p, q2⟩
/-- addresses of tuples of d ints -/
def Tps (K : PySem.W.Frag) (H : Hp) (d : Nat) (B : Int) (ks : List (Addr × List Int)) : Prop := ∀ p ∈ ks, SqT K H p.1 (p.2.map V.int) ∧ p.2.length = d ∧ Wi B p.2
def rSortW (K : PySem.W.Frag) (d : Nat) (B : Int) : List V → Hp → VK → Prop := fun vs H Q => ∃ (a : Addr) (ks : List (Addr × List Int)), vs = [.ref a] ∧ SqL K H a (ks.map fun p => V.ref p.1) ∧ ks.length < 64 ∧ Tps K H d B ks ∧
  ∀ (L : List (Addr × List Int)) (p : Addr), L.Perm ks → L.Pairwise (fun q r => rk B q.2 ≤ rk B r.2) → H p = none → Q (.ref p) (upd H p (.lst (L.map fun q => V.ref q.1)))
theorem ranks {B : Int} {h : Heap} {L ks : List (Addr × List Int)} {out : List Value} (e : out = L.map fun q => Value.ref q.1) (pm : L.Perm ks) (tk : ∀ q ∈ ks, TS.TupInts h (.ref q.1) q.2)
    (pw : out.Pairwise (fun u v => rk B (TS.intsOf h u) ≤ rk B (TS.intsOf h v))) : L.Pairwise (fun q r => rk B q.2 ≤ rk B r.2) := by
  subst e
  refine List.Pairwise.imp_of_mem (fun {q r} hq hr z => ?_) (List.pairwise_map.mp pw)
  rw [(tk q (pm.mem_iff.mp hq)).ints, (tk r (pm.mem_iff.mp hr)).ints] at z
  exact z
theorem cr_sortW {X : Cx} {d : Nat} {B : Int} (d1 : 1 ≤ d) : CallR X (.builtin "sorted") (rSortW X.K d B) := by
  intro pins s σ H vs us Q I r h
  obtain ⟨a, ks, rfl, hs, few, tp, q⟩ := h
  obtain ⟨its, rv, pl, _⟩ := I.list hs
  rw [Vals.ref1 r]
  have ei : its = ks.map fun p => Value.ref p.1 := refs_of_vals rv
  have tk : ∀ p ∈ ks, TS.TupInts s.heap (.ref p.1) p.2 := fun p hp => tupI_raw I (tp p hp).1
  refine sortedW (d := d) (B := B) pl.isList (by rw [ei, List.length_map]; exact few) d1 (fun v hv => ?_) fun out a1 a2 => ?_
  · rw [ei] at hv
    obtain ⟨p, hp, rfl⟩ := List.mem_map.mp hv
    exact ⟨p.2, tk p hp, (tp p hp).2⟩
  · obtain ⟨L, pm, e⟩ := perm_back a1 ks ei
    obtain ⟨ep, at_⟩ := PyProof.Rows.sortedAll_at s.heap its out
    refine ⟨.ref _, upd H (s.heap.objs.size + 1) (.lst (L.map fun q => V.ref q.1)), I.laid (t' := s.toks) (fun _ _ => PyProof.Rows.sortedAll_old) (Nat.le_succ _) ⟨?_, out.toList, ep, ?_, at_⟩, rfl, q L _ pm (ranks e pm tk a2) (I.hok.fresh (Nat.le_succ _))⟩
    · rw [List.length_map, pm.length_eq, sizeLine_eq]
      omega
    · rw [e]
      exact vals_of_refs L
/-- sorted of a set -/
def rSortWS (K : PySem.W.Frag) (P : Program) (w : World) (d : Nat) (B : Int) : List V → Hp → VK → Prop := fun vs H Q => ∃ (a : Addr) (ks : List (Addr × List Int)), vs = [.ref a] ∧ H a = some (SetTO P w a ks) ∧ Tps K H d B ks ∧
  ∀ (L : List (Addr × List Int)) (p : Addr), L.Perm ks → (L.map (·.2)).Nodup → L.length < 64 → L.Pairwise (fun q r => rk B q.2 ≤ rk B r.2) → H p = none → Q (.ref p) (upd H p (.lst (L.map fun q => V.ref q.1)))
theorem sortedWS {P : Program} {w : World} {A : Around} {E : Value → Shared → Prop} {s : Shared} {a : Addr} {ks : List (Addr × List Int)} {es : Array (Int × Value)} {ep : Nat} {t : SetTable} {Q : Value → Shared → Prop} {d : Nat} {B : Int} (R : SetTR P w s.heap a ks es ep t) (hh : A.handled = none)
    (d1 : 1 ≤ d) (hB : ∀ p ∈ ks, p.2.length = d ∧ Wi B p.2)
    (q : ∀ s2 p (out : Array Value) (c : Nat) (L : List (Addr × List Int)), (∀ b o, s.heap.get? b = some o → s2.heap.get? b = some o) → s2.gens = s.gens → s2.os = s.os → s.heap.objs.size ≤ p →
      s2.heap.get? p = some (seqObj "list" out c) → out.toList = L.map (fun z => Value.ref z.1) → L.Perm ks → L.Pairwise (fun y z => rk B y.2 ≤ rk B z.2) → Q (.ref p) s2) : wpAny (model P w) A (call (.builtin "sorted") [.ref a]) Q E s := by
  obtain ⟨o, g1, g2, g3⟩ := R.ob
  have few := R.few
  have sz := R.size
  refine Calls.call_function_entry kind_sorted PyProof.Rows.plain_sorted entry_sorted (args_sorted1 _) ?_
  unfold Builtin.«sorted»
  refine wpAny_bind (m := checkCount "sorted" 1 1 _) (wpAny_pure (wpAny_bind (collect_set (A := A.in1) hh ⟨o, g1, g2.1, g3⟩ R.fits (by unfold scanBound; omega) R.tab.ris R.led fun s1 vs k1 up gg oo pm => ?_)))
  have vals : es.toList.map (·.2) = ks.map fun z => Value.ref z.1 := by
    rw [R.rows]
    unfold rowsOf
    rw [List.map_map]
    rfl
  rw [vals] at pm
  obtain ⟨M, pM, eM⟩ := perm_back pm ks rfl
  have lM : vs.length < 64 := by rw [eM, List.length_map, pM.length_eq]; exact few
  refine wpAny_bind (wpAny_newList ?_ (by rw [sizeLine_eq]; omega))
  have at_ : (s1.heap.push (seqObj "list" vs.toArray 0)).get? s1.heap.objs.size = some (seqObj "list" vs.toArray 0) := Heap.get?_push_size _ rfl
  have tk : ∀ z ∈ ks, TS.TupInts (s1.heap.push (seqObj "list" vs.toArray 0)) (.ref z.1) z.2 := fun z hz => tupInts_of (P := P) (w := w) (isT_keep (R.tup z hz) fun b u e => Heap.get?_push_of_some _ (k1 b u e))
  have okM : TpsOk (s1.heap.push (seqObj "list" vs.toArray 0)) d B vs := fun v hv => by
    rw [eM] at hv
    obtain ⟨z, hz, rfl⟩ := List.mem_map.mp hv
    have hk := pM.mem_iff.mp hz
    exact ⟨z.2, tk z hk, hB z hk⟩
  refine wpAny_bind (wpAny_holding (wpAny_call_entry slot_list_sort ⟨_, at_, rfl⟩ entry_list_sort (sortW (s := { s1 with heap := s1.heap.push (seqObj "list" vs.toArray 0) }) at_ lM d1 okM (fun v => rk B (TS.intsOf (s1.heap.push (seqObj "list" vs.toArray 0)) v)) (fun v hv ns t => by
    show rk B (TS.intsOf (s1.heap.push (seqObj "list" vs.toArray 0)) v) = rk B ns
    rw [t.ints]) fun out a1 a2 => ⟨_, rfl, ?_⟩) (args_list_sort _)))
  obtain ⟨c, hc⟩ := sortedHeap_at (vs := vs) (out := out) at_
  obtain ⟨L, pL, eL⟩ := perm_back a1 M eM
  refine wpAny_pure ⟨_, rfl, q _ s1.heap.objs.size out c L (fun b u e => ?_) gg oo up hc eL (pL.trans pM) (ranks eL (pL.trans pM) tk a2)⟩
  have e1 := k1 b u e
  have lt := Heap.lt_size e1
  show (sortedHeap (s1.heap.push (seqObj "list" vs.toArray 0)) s1.heap.objs.size vs out).get? b = some u
  rw [sortedHeap_old (Nat.ne_of_lt lt) (by rw [size_push']; exact Nat.lt_succ_of_lt lt)]
  exact Heap.get?_push_of_some _ e1
theorem cr_sortWS {X : Cx} {d : Nat} {B : Int} (hc : X.calm = true) (d1 : 1 ≤ d) : CallR X (.builtin "sorted") (rSortWS X.K X.prog X.w d B) := by
  intro pins s σ H vs us Q I r h
  obtain ⟨a, ks, rfl, ha, tp, q⟩ := h
  have R0 : SetT0 X.prog X.w s.heap a ks := (I.hok a _ ha).1
  obtain ⟨es, ep, t, R⟩ := R0.full fun p hp => I.isT (tp p hp).1
  rw [Vals.ref1 r]
  refine sortedWS R (I.ok.hd hc) d1 (fun p hp => (tp p hp).2) fun s2 p out c L k gg oo up at_ eo pm pw => ?_
  have few : L.length < 64 := pm.length_eq ▸ R.few
  have nw : H p = none := I.hok.fresh up
  have len : (L.map fun z => V.ref z.1).length ≤ sizeLine := by
    rw [List.length_map, sizeLine_eq]
    omega
  have vl : Vals (L.map fun z => V.ref z.1) out.toList := eo ▸ vals_of_refs L
  have es2 : s2 = { s with heap := s2.heap, gens := s2.gens, drawn := s2.drawn, toks := s2.toks } := by
    obtain ⟨_, _, _, _, _⟩ := s2
    obtain ⟨_, _, _, _, _⟩ := s
    cases oo
    rfl
  have J : Inv X pins σ (upd H p (.lst (L.map fun z => V.ref z.1))) { s with heap := s2.heap, gens := s2.gens, drawn := s2.drawn, toks := s2.toks } :=
    I.call (ch := []) (Un.laid k up nw) (I.hok.laid k up ⟨len, out.toList, c, vl, at_⟩) (by rw [gg]; exact I.bare) (fun _ z => nomatch z)
  rw [es2]
  exact ⟨.ref p, _, J, rfl, q L p pm ((pm.map (·.2)).nodup_iff.mpr R.nd) few pw nw⟩
end L2.Tb
set_option Elab.async false
set_option linter.all false
set_option maxRecDepth 100000
set_option maxHeartbeats 4000000
/-! {e for x in ..}, e a tuple of ints -/
namespace L2.Tb
open PySem PySem.Spec PySem.Calls PyProof.Rows PpSet
section
variable {P : Program} {w : World} {A : Around} {E : Value → Shared → Prop} {s : Shared} {a x : Addr} {k : List Int} {L : List (Addr × List Int)}
/-- what L becomes by k at x -/
def Added (L L2 : List (Addr × List Int)) (x : Addr) (k : List Int) : Prop := (k ∈ L.map (·.2) → L2 = L) ∧ (k ∉ L.map (·.2) → L2.Perm ((x, k) :: L))
theorem setT_add {es : Array (Int × Value)} {ep : Nat} {t : SetTable} {Q : Value → Shared → Prop} (R : SetTR P w s.heap a L es ep t) (kx : IsT P w s.heap k x) (hu : A.units + 3 < cLine) (few : L.length + 1 < 64)
    (q : ∀ h2 tk L2 es2 ep2 t2, Heap.SameBut a s.heap h2 → SetTR P w h2 a L2 es2 ep2 t2 → Added L L2 x k → Q .none { s with heap := h2, toks := tk }) : wpAny (model P w) A (call (.builtin "set.add") [.ref a, .ref x]) Q E s := by
  obtain ⟨o, g1, g2, g3⟩ := R.ob
  refine wpAny_call_entry F.slot_set_add ⟨o, g1, g2.1⟩ F.entry_set_add ?_ (F.args_set_add_2 _ _)
  unfold Builtin.«set.add» Builtin.Frozenset.oneOther
  simp only [List.isEmpty_nil, bind_assoc]
  unfold Builtin.Frozenset.addrOf setAdd
  refine wpAny_bind (wpAny_pure ?_)
  try dsimp only
  refine wpAny_bind (wpAny_pure ?_)
  try dsimp only
  refine wpAny_bind (wpAny_holding (wpAny_bind (wpAny_pyHash_tuple (by first | exact Nat.lt_of_le_of_lt (Nat.le_add_right _ 3) hu | (show A.units + 1 < cLine; omega) | (show A.units + 2 < cLine; omega)) kx ?_)))
  refine add_at (s := { s with toks := s.toks + (k.length + 1) }) R kx (by first | exact Nat.lt_of_le_of_lt (Nat.le_add_right _ 3) hu | (show A.units + 1 < cLine; omega) | (show A.units + 2 < cLine; omega)) few fun b h2 L2 es2 ep2 t2 sb R2 c1 c2 => ?_
  show wpAny _ _ (ret Value.none) _ _ _
  exact wpAny_pure ⟨_, rfl, q h2 _ L2 es2 ep2 t2 sb R2 ⟨c1, c2⟩⟩
end
section
variable {X : Cx}
theorem addT_ok {pins : List (Addr × Obj)} {σ : L2.St} {H : Hp} {s : Shared} {E : Value → Shared → Prop} {D x : Addr} {k : List Int} {L : List (Addr × List Int)} {Q : Value → Shared → Prop} (I : Inv X pins σ H s) (hD : H D = some (SetTO X.prog X.w D L))
    (tp : ∀ p ∈ L, SqT X.K H p.1 (p.2.map V.int)) (hx : SqT X.K H x (k.map V.int)) (hu : X.A.units + 64 < cLine) (few : L.length + 1 < 64)
    (q : ∀ s2 L2, Added L L2 x k → Inv X pins σ (upd H D (SetTO X.prog X.w D L2)) s2 → Q .none s2) : wpAny (model X.prog X.w) X.A (call (.builtin "set.add") [.ref D, .ref x]) Q E s := by
  have R0 : SetT0 X.prog X.w s.heap D L := (I.hok D _ hD).1
  obtain ⟨es, ep, t, R⟩ := R0.full fun p hp => I.isT (tp p hp)
  refine setT_add R (I.isT hx) (by omega) few fun h2 tk L2 es2 ep2 t2 sb R2 ad => ?_
  have there : ∃ u, h2.get? D = some u := by
    obtain ⟨u, e, _⟩ := R2.ob
    exact ⟨u, e⟩
  exact q _ L2 ad (I.write (e := D) (t' := tk) (by rw [hD]; trivial) (.inl rfl) (fun b u hb hu => (sb.2 b hb).trans hu) there (setTO_new R2.t0))
/-- one turn's wish: the new element joins -/
def joins (P : Program) (w : World) (K : PySem.W.Frag) (D : Addr) (Nx : Hp → Prop) : V → Hp → Prop := fun y H => ∃ (x : Addr) (k : List Int) (L : List (Addr × List Int)), y = .ref x ∧ SqT K H x (k.map V.int) ∧ H D = some (SetTO P w D L) ∧ (∀ p ∈ L, SqT K H p.1 (p.2.map V.int)) ∧ L.length + 1 < 64 ∧
  ∀ L2, Added L L2 x k → Nx (upd H D (SetTO P w D L2))
def tScT (P : Program) (w : World) (K : PySem.W.Frag) (wi : TI) (g : TG) (tt : TT) (te : TE) (vs : List Nat) : TE := fun σ H Q => wi σ H fun J H1 => ∀ D, H1 D = none → ∃ W : Nat → Nat → Hp → Prop, (∃ m, W 0 m (upd H1 D (SetTO P w D []))) ∧ ∀ i m G, W i m G →
  (J.stop i G ∧ Q (.ref D) G) ∨ (J.go i G ∧ ∃ Nx : Hp → Prop, (∀ G2, Nx G2 → ∃ m2, m2 < m ∧ W (i + 1) m2 G2) ∧ ∀ x G2, J.yld i G x G2 → g x (wipe σ vs) G2 fun σ2 G3 => wipe σ2 vs = wipe σ vs ∧ tt σ2 G3 fun b G4 => if b = true then te σ2 G4 (joins P w K D Nx) else Nx G4)
theorem pe_scT {elt tg iter : Expr} {ifs : List Expr} {scope : Scope} {own : List (PySem.Str × Nat)} {pos : Pos} {wi : TI} {g : TG} {tt : TT} {te : TE} (calm : X.calm = true) (nd : X.N.Nodup) (hu : X.A.units + 64 < cLine) (walk : PI X tg iter wi) (ok : BlkOk X.N X.env.scope scope own)
    (hg : ∀ (s : Shared) (H : Hp) (C : Addr) (cl : List (PySem.Str × Addr)) (fp : List Addr), PG (X.blk s H scope (compEnvC scope cl C X.env) fp) tg g) (ht : ∀ (s : Shared) (H : Hp) (C : Addr) (cl : List (PySem.Str × Addr)) (fp : List Addr), PTs (X.blk s H scope (compEnvC scope cl C X.env) fp) ifs tt)
    (he : ∀ (s : Shared) (H : Hp) (C : Addr) (cl : List (PySem.Str × Addr)) (fp : List Addr), PE (X.blk s H scope (compEnvC scope cl C X.env) fp) elt te) (fs : ∀ x, foldedSetIterable iter X.env x = pure x := by intro _; rfl) :
    PE X (.SetComp elt [⟨tg, iter, ifs, 0⟩] scope pos) (tScT X.prog X.w X.K wi g tt te (own.map (·.2))) := by
  refine ⟨fun pins s σ H Q I h => ?_⟩
  rw [eval_SetComp]
  have caps : ∀ y ∈ scope.names, y.2 = .free → ∃ c, X.env.cells.lookup y.1 = some c := fun y my ey =>
    (ok.free y my ey).elim (fun z => I.ok.has _ (.inl z)) fun z => I.ok.has _ (.inr z)
  refine wpAny_comprehension_free (use := none) rfl fs (closure_ok caps) ok.kind (fun y my ey => by rw [ok.uniq y my, ey]) (thn (walk.run pins s σ H _ I h) fun xv sa ha => thn ha fun itv sb hb => ?_)
  obtain ⟨it, fp, tn, J, Hb, e0, Ib, T, stb, fpb, q⟩ := hb
  subst e0
  refine newSet_ok (newEnv_comp ?_)
  generalize dD : sb.heap.objs.size = D
  have newD : Hb D = none := Ib.hok.fresh (Nat.le_of_eq dD)
  obtain ⟨W, ⟨m0, w0⟩, turn⟩ := q D newD
  let emp : Obj := { cls := .type "set", dict := none, data := .set #[] 0 (.fresh 0 0 (!X.w.params.followText "set-order")) }
  generalize dsc : ({ sb with heap := sb.heap.push emp } : Shared) = sc
  have hsc : sc.heap = sb.heap.push emp := by rw [← dsc]
  have Ic : Inv X pins σ (upd Hb D (SetTO X.prog X.w D [])) sc := by
    rw [← dsc, ← dD]
    refine Ib.laid (t' := sb.toks) (fun b o e => Heap.get?_push_of_some _ e) (Nat.le_refl _) (setTO_new (SetTR.t0 (setTR_fresh (Heap.get?_push_size _ rfl))))
  have small : ∀ b ∈ fp, b < sb.heap.objs.size := fun b mb => by
    obtain ⟨o, e, _⟩ := T.obj _ _ stb b mb
    exact Heap.lt_size e
  have fpc : ∀ b ∈ fp, FpOk X pins (upd Hb D (SetTO X.prog X.w D [])) b ∧ b < sc.heap.objs.size := fun b mb => by
    have lt := small b mb
    have nb : b ≠ D := by rw [← dD]; exact Nat.ne_of_lt lt
    exact ⟨⟨(upd_ne nb).trans (fpb b mb).1, (fpb b mb).2⟩, by rw [hsc, Heap.size_push]; exact Nat.lt_succ_of_lt lt⟩
  have stc : tn 0 sc.heap := T.keep _ _ _ stb fun b _ o e => by rw [hsc]; exact Heap.get?_push_of_some _ e
  have Id := block_start Ic ok nd fpc
  let cl := cellsFrom (sc.heap.objs.size + 1) scope.names (cloFrom X.env.cells scope.names [])
  have pg := hg sc (upd Hb D (SetTO X.prog X.w D [])) sc.heap.objs.size cl fp
  have pt := ht sc (upd Hb D (SetTO X.prog X.w D [])) sc.heap.objs.size cl fp
  have pe := he sc (upd Hb D (SetTO X.prog X.w D [])) sc.heap.objs.size cl fp
  show codeAny _ _ (.compStart (.SetComp elt [⟨tg, iter, ifs, 0⟩] scope pos) 0 (.ref it) (.ref D) (compEnvC scope cl sc.heap.objs.size X.env)) (compPost (model X.prog X.w) X.A X.xe none _ (.ref D) sc.heap.objs.size) { sc with heap := pushCells (sc.heap.push { cls := .type "dict", data := .dict #[] }) scope.names }
  have fpn : ∀ b ∈ fp, (upd Hb D (SetTO X.prog X.w D [])) b = none := fun b mb => (fpc b mb).1.1
  generalize dce : compEnvC scope cl sc.heap.objs.size X.env = ce at Id pg pt pe ⊢
  have loc : ce.locals = sc.heap.objs.size := by rw [← dce]; rfl
  generalize dHc : upd Hb D (SetTO X.prog X.w D []) = Hc at Ic Id pg pt pe w0 fpn fpc
  generalize dsd : ({ sc with heap := pushCells (sc.heap.push { cls := .type "dict", data := .dict #[] }) scope.names } : Shared) = sd at Id ⊢
  have std : tn 0 sd.heap := T.keep _ _ _ stc fun b _ o e => by rw [← dsd]; exact pushCells_keeps _ _ _ _ (Heap.get?_push_of_some _ e)
  have stays : ∀ {σ2 : L2.St} {G : Hp} {z : Shared}, Inv (X.blk sc Hc scope ce fp) [] σ2 G z → (∀ b ∈ fp, G b = none) → ∀ b ∈ fp, FpOk (X.blk sc Hc scope ce fp) [] G b := fun {σ2 G z} Iz nz b mb =>
    ⟨nz b mb, (Iz.ok.exf b mb).1, Iz.ok.exfs b mb, .inl mb, fun x c e => (Iz.ok.exf b mb).2 x c e, fun p mp => by cases mp⟩
  refine codeAny_compStart_set ?loop (T.self X.A 0 _ _ _ std ?loop)
  case loop =>
    refine compLoopS_any (fun n z => ∃ i G, Inv (X.blk sc Hc scope ce fp) [] (wipe σ (own.map (·.2))) G z ∧ tn i z.heap ∧ (∀ b ∈ fp, G b = none) ∧ W i n G) ?_ m0 ⟨0, Hc, Id, std, fpn, w0⟩
    rintro n se ⟨i, He, Ie, ste, fpe, we⟩
    rcases turn i n He we with ⟨halt, fin⟩ | ⟨goes, Nx, nxt, body⟩
    · refine thnF (T.done (X.blk sc Hc scope ce fp) rfl rfl rfl calm i [] se _ He (fun _ _ => False) Ie (stays Ie fpe) ste halt) fun r sf ⟨er, If⟩ => ?_
      subst er
      have Ig : Inv X pins σ He sf := Ic.call' (ch := fp) If.os If.base If.hok If.bare fun b mb => ⟨(fpc b mb).1.2.2.2.1, (fpc b mb).1.2.1, (fpc b mb).1.2.2.2.2.1, (fpc b mb).1.2.2.2.2.2⟩
      have nC : He sc.heap.objs.size = none := loc ▸ (show He ce.locals = none from If.free)
      obtain ⟨mm, hn, _⟩ := If.loc
      have hn : sf.heap.Ns sc.heap.objs.size mm := loc ▸ (show sf.heap.Ns ce.locals mm from hn)
      obtain ⟨y0, y1, y2, y3, y4, y5⟩ := Ic.fpOk (Nat.le_refl _) nC
      exact ⟨mm, hn, fun h3 sm => ⟨.ref D, He, Ig.turned (t' := sf.toks) (fun b o nb e => (sm.2 b nb).trans e) y0 y1 y3 y4 y5, rfl, fin⟩⟩
    · refine thnF (T.item (X.blk sc Hc scope ce fp) rfl rfl rfl calm i [] se _ He (fun _ _ => False) Ie (stays Ie fpe) ste goes) fun r sf ⟨u, er, hf⟩ => ?_
      subst er
      refine thnF hf fun _ sg ⟨x, Hg, Ig, rg, yg, stg, ng⟩ => ?_
      have Ip := Ig.pinned (stays Ig ng) (T.obj _ _ stg)
      refine thnF (pg.run _ sg _ Hg x u _ Ip rg (body x Hg yg)) fun _ sh ⟨σh, Hh, Ih, wh, qh⟩ => ?_
      refine thnF (pt.run _ sh σh Hh _ Ih qh) fun b si ⟨Hi, Ii, qi⟩ => ?_
      have close : ∀ {z : Shared} {G : Hp}, Inv (X.blk sc Hc scope ce fp) ([] ++ pinsAt fp sg.heap) σh G z → Nx G → ∃ m, m < n ∧ ∃ i G, Inv (X.blk sc Hc scope ce fp) [] (wipe σ (own.map (·.2))) G z ∧ tn i z.heap ∧ (∀ b ∈ fp, G b = none) ∧ W i m G := fun {z G} Iz nx => by
        obtain ⟨m2, lm, w2⟩ := nxt G nx
        have pin : ∀ b ∈ fp, ∀ o, sg.heap.get? b = some o → z.heap.get? b = some o ∧ G b = none := fun b mb o e => by
          have y := Iz.pin (b, o) (List.mem_append_right _ (List.mem_append_right _ (mem_pinsAt mb e)))
          exact ⟨y.1, y.2.1⟩
        refine ⟨m2, lm, i + 1, G, (Iz.unpinned (pins := [])).weak (by rw [← wh, wipe_length]) (fun j v e => ?_), T.keep _ _ _ stg fun b mb o e => (pin b mb o e).1, fun b mb => ?_, w2⟩
        · rw [← wh] at e
          exact (wipe_some e).1
        · obtain ⟨o, e, _⟩ := T.obj _ _ stg b mb
          exact (pin b mb o e).2
      cases b with
      | false =>
        simp only [Bool.false_eq_true, if_false] at qi ⊢
        exact close Ii qi
      | true =>
        simp only [if_true] at qi ⊢
        refine thnF (pe.run _ si σh Hi _ Ii qi) fun z sj ⟨yv, Hj, Ij, rj, xa, kk, L, ey, hx, hD, tp, few, nx⟩ => ?_
        subst ey
        cases (show z = Value.ref xa from rj)
        exact addT_ok (X := X.blk sc Hc scope ce fp) Ij hD tp hx hu few fun sk L2 ad Ik => close Ik (nx L2 ad)
end
/-- over a tuple that stands -/
theorem scT_tup {P : Program} {w : World} {K : PySem.W.Frag} {a : Addr} {xs : List V} {g : TG} {tt : TT} {te : TE} {vs : List Nat} {σ : L2.St} {H1 : Hp} {D : Addr} {Qd : Hp → Prop} (Pv : Nat → Hp → Prop) (h0 : Pv 0 (upd H1 D (SetTO P w D []))) (hl : ∀ i H, i ≤ xs.length → Pv i H → SqT K H a xs)
    (hs : ∀ i x H, xs[i]? = some x → Pv i H → g x (wipe σ vs) H fun σ2 H2 => wipe σ2 vs = wipe σ vs ∧ tt σ2 H2 fun b H3 => if b = true then te σ2 H3 (joins P w K D (Pv (i + 1))) else Pv (i + 1) H3) (hd : ∀ H, Pv xs.length H → Qd H) :
    ∃ W : Nat → Nat → Hp → Prop, (∃ m, W 0 m (upd H1 D (SetTO P w D []))) ∧ ∀ i m G, W i m G →
      ((Itt K a).stop i G ∧ Qd G) ∨ ((Itt K a).go i G ∧ ∃ Nx : Hp → Prop, (∀ G2, Nx G2 → ∃ m2, m2 < m ∧ W (i + 1) m2 G2) ∧ ∀ x G2, (Itt K a).yld i G x G2 → g x (wipe σ vs) G2 fun σ2 G3 => wipe σ2 vs = wipe σ vs ∧ tt σ2 G3 fun b G4 => if b = true then te σ2 G4 (joins P w K D Nx) else Nx G4) := by
  refine ⟨fun i m G => m + i = xs.length ∧ Pv i G, ⟨xs.length, rfl, h0⟩, fun i m G ⟨em, p⟩ => ?_⟩
  have st := hl i G (by omega) p
  rcases Nat.lt_or_ge i xs.length with lt | ge
  · refine .inr ⟨⟨xs, xs[i], st, List.getElem?_eq_getElem lt⟩, Pv (i + 1), fun G2 p2 => ⟨m - 1, by omega, by omega, p2⟩, fun x G2 y => ?_⟩
    obtain ⟨e, y⟩ := y
    subst e
    exact hs i x _ (y xs st) p
  · have e : i = xs.length := by omega
    exact .inl ⟨⟨xs, st, by omega⟩, hd G (e ▸ p)⟩
end L2.Tb
set_option Elab.async false
set_option linter.all false
set_option maxRecDepth 100000
set_option maxHeartbeats 4000000
/-! calls of defs that ask for an unguarded stack; o.m(k = v) -/
namespace L2.Tb
open PySem PySem.Spec PyProof.Rows
/-- a def that keeps its promise where nothing is guarded (repr of lists and tuples asks that) -/
structure CalG (P : Program) (w : World) (K : PySem.W.Frag) (mg : Str → Option Value) (base : Heap) (k : Nat) (x : Str) (sp : Sp) : Prop where
  ex : ∃ (f : Addr) (fd : FuncData) (ps : List Str), (∀ vs H Q E, sp vs H Q E → vs.length = ps.length) ∧ (∀ A, Room k A → A.guards = some [] → RunsAt P w K mg base f fd ps sp A) ∧ mg x = some (.ref f) ∧ PySem.W.keepIn K (.ref f) = true ∧ Binds K fd ps []
section
variable {P : Program} {w : World} {K : PySem.W.Frag} {mg : Str → Option Value} {base : Heap} {x : Str} {st : Stmt} {f : Addr} {fd : FuncData} {N ps : List Str} {k : Nat} {sp : Sp}
theorem Cal.g (c : Cal P w K mg base k x sp) : CalG P w K mg base k x sp := by
  obtain ⟨f, fd, ps, F, a, b, d⟩ := c.ex
  exact ⟨f, fd, ps, F.len, fun A hr _ outer s H args us vs Q E e0 hb r _ h => F.run A outer s H args us vs Q E hr e0 hb r h, a, b, d⟩
theorem calG_mk (F : FnP K x st f fd) (hm : mg x = some (.ref f)) (S : FnScope N ps (defScope st))
    (hb : ∀ (kV doc pm : Value) (an : Option Addr) (cdv ct : Value) (us : List Value), us.length = ps.length → bindArgs (PySem.W.fnOf x x (defArgs st) (defBody st) (defScope st) .none kV doc pm an cdv ct) ⟨us, []⟩ = pure (ps.zip us))
    (len : ∀ vs H Q E, sp vs H Q E → vs.length = ps.length)
    (hbody : ∀ (cdv : Value) (A : Around) (outer : List Env) (s : Shared) (H : Hp) (vs : List V) (Q : VK) (E : XK), (A.deeper (envOfC x (defScope st) s.heap.objs.size f cdv)).guards = some [] → Room k (A.deeper (envOfC x (defScope st) s.heap.objs.size f cdv)) → sp vs H Q E →
      ∃ t, PSs (cxOf L2.CX0 P w K mg base N x (defScope st) f cdv A outer s H E).nox (defBody st) t ∧ t { nx := fun _ H' => Q .non H', rt := Q } (start N vs) H) : CalG P w K mg base (k + 1) x sp :=
  ⟨f, fd, ps, len, fun A hr hg => runs_body F S hr fun cdv outer s H vs Q E hr2 h => let ⟨t, a, b⟩ := hbody cdv A outer s H vs Q E hg hr2 h; ⟨t, a.nox, b⟩, hm, F.kp, F.bindsN hb⟩
/-- .. its code object known -/
theorem calG_mkC {at_ : Str × Option Str} (F : FnP K x st (He.fAd K at_) fd) (hm : mg x = some (.ref (He.fAd K at_))) (S : FnScope N ps (defScope st))
    (hb : ∀ (kV doc pm : Value) (an : Option Addr) (cdv ct : Value) (us : List Value), us.length = ps.length → bindArgs (PySem.W.fnOf x x (defArgs st) (defBody st) (defScope st) .none kV doc pm an cdv ct) ⟨us, []⟩ = pure (ps.zip us))
    (len : ∀ vs H Q E, sp vs H Q E → vs.length = ps.length)
    (hbody : ∀ (cdv : Value) (A : Around) (outer : List Env) (s : Shared) (H : Hp) (vs : List V) (Q : VK) (E : XK), cdv = .ref (He.codeOf K at_) → (A.deeper (envOfC x (defScope st) s.heap.objs.size (He.fAd K at_) cdv)).guards = some [] → Room k (A.deeper (envOfC x (defScope st) s.heap.objs.size (He.fAd K at_) cdv)) → sp vs H Q E →
      ∃ t, PSs (cxOf L2.CX0 P w K mg base N x (defScope st) (He.fAd K at_) cdv A outer s H E).nox (defBody st) t ∧ t { nx := fun _ H' => Q .non H', rt := Q } (start N vs) H) : CalG P w K mg base (k + 1) x sp := by
  refine ⟨_, fd, ps, len, fun A hr hg => ?_, hm, F.kp, F.bindsN hb⟩
  obtain ⟨oc, od, dV, kV, doc, pm, an, cdv, ct, osl, rfl, lk, hcd, _, _⟩ := id F.ex
  obtain ⟨c, rfl⟩ := He.codeIn_ref hcd
  have hc : (Value.ref c) = .ref (He.codeOf K at_) := by rw [He.codeOf_eq lk rfl]
  intro outer s H args us vs Q E e0 hbd r hl hsp
  refine LamX.run_ofS (CX := L2.CX0) (Q := Q) (E := E) (N := N) lk hcd S hr e0 hbd r hl fun hr2 => ?_
  obtain ⟨t, a, b⟩ := hbody _ A outer s H vs Q E hc hg hr2 hsp
  exact ⟨t, a.nox, b⟩
end
section
variable {X : Cx} {k j : Nat} {x : Str} {sp : Sp} {p pos : Pos} {e : Expr} {es : List Expr} {t : TA}
theorem pe_calG (c : CalG X.prog X.w X.K X.mg X.base k x sp) (hr : Room j X.A) (hk : k ≤ j) (free : X.A.guards = some []) (hg : Gl X x) (ha : PA X (e :: es) t)
    (hdb : (x == ("__debug__" : Str)) = false := by decide) (he : starEach (e :: es) X.env = (false, eval e X.env) :: starEach es X.env := by rfl) (hpl : (backTo pos (starEach es X.env)).any (·.1) = false := by rfl) :
    PE X (.Call (.Name x p) (e :: es) [] pos) (tCall sp [] E0 t) := by
  obtain ⟨f, fd, ps, len, R, hm, kp, b⟩ := c.ex
  refine ⟨fun pins s σ H Q I h => wpAny_Call_Name_kw (ld_glob I hg hm (PySem.W.callWith_K (h₀ := X.base) I.ok.mod.kin kp (thn (ha.run pos pins s σ H _ I h) fun us s1 hh => ?_) he hpl) hdb)⟩
  obtain ⟨vs, H1, I1, r, q⟩ := hh
  rw [List.append_nil] at q
  have hl := len _ _ _ _ q
  refine ⟨I1.kIn, wpAny_call (codeAny_mono (R X.A (hr.mono hk) free X.stack s1 H1 ⟨us, []⟩ us vs Q E0 I1.env0 ?_ r hl q) fun r2 s2 z => ?_)⟩
  · have y := b s1 us I1.kIn (by rw [List.append_nil, ← r.length]; exact hl)
    rw [List.append_nil] at y
    exact y
  · match r2, z with
    | .error e, z => exact pass0 pins σ H1 s1 e s2 I1 z
    | .ok (.ret u), z => exact I1.after z
end
section
variable {X : Cx} {CX : CXT} {k : Nat} {C f : Addr} {fd : FuncData} {ps ks : List Str} {sp : Sp} {E : XK} {o : Expr} {kws : List Keyword} {m : Str} {pos apos : Pos} {ta : TE} {tk : TA} {pl : Sem Bool}
def tMethK (C : Addr) (m : Str) (sp : Sp) (E : XK) (ta : TE) (tk : TA) : TE := fun σ H Q => ta σ H fun x H1 => ∃ a dx fs, x = .ref a ∧ H1 a = some (.ins C dx fs) ∧ fs.lookup m = none ∧ tk σ H1 fun zs H2 => sp (.ref a :: zs) H2 Q E
/-- o.m(k = v, ..), all of m's parameters by name -/
theorem pe_methK (he : PE X o ta) (c : Cls X.K C) (hm : Meth X.K C m f) (F : FnOk X.prog X.w X.K X.mg X.base CX k f fd ps sp) (hr : Room k X.A) (hx : Passes CX X E) (hkw : PK X kws tk) (hl : ps.length = ks.length + 1)
    (hb : ∀ (sh : Shared) (a : Addr) (zs : List Value), zs.length = ks.length → BindsTo sh fd ⟨[.ref a], ks.zip zs⟩ (ps.zip (Value.ref a :: zs)))
    (hall : (backToKw pos (keywordEach kws X.env)).all (·.1.isSome) = true := by rfl) (hks : (backToKw pos (keywordEach kws X.env)).filterMap (·.1) = ks := by rfl)
    (hpl : ((backTo pos (starEach [] X.env)).any (·.1) || (backToKw pos (keywordEach kws X.env)).any (·.1.isNone)) = false := by rfl)
    (ht : eval (.Call (.Attribute o m apos) [] kws pos) X.env = (do
      let ov ← eval o X.env
      standAt apos.atName
      let (f, first) ← holding [ov] (getMethod ov m pl)
      callWith pos f first (backTo pos (starEach [] X.env)) (backToKw pos (keywordEach kws X.env))) := by rfl) :
    PE X (.Call (.Attribute o m apos) [] kws pos) (tMethK C m sp E ta tk) := by
  refine ⟨fun pins s σ H Q I h => PySem.W.methodCall_KW (pl := pl) (thn (he.run pins s σ H _ I h) fun u s1 hh => ?_) ht⟩
  obtain ⟨x, H1, I1, rx, a, dx, fs, ex, ea, lk, q⟩ := hh
  subst ex
  obtain rfl : u = Value.ref a := rx
  refine getmeth_ok I1 ea c hm lk (PySem.W.callWith_KW0 (h₀ := X.base) (first := [.ref a]) I.ok.mod.kin hm.kp hall (thn (hkw.run pos _ s1 σ H1 _ I1 q) fun ws s2 hh => ?_) hpl)
  obtain ⟨zs, H2, I2, rz, q2⟩ := hh
  refine ⟨I2.kIn, ?_⟩
  rw [hks]
  have hw : ws.length = ks.length := by
    have z := F.len _ _ _ _ q2
    rw [List.length_cons, hl] at z
    rw [← rz.length]
    omega
  refine wpAny_call (codeAny_mono (F.run X.A X.stack s2 H2 ⟨[.ref a], ks.zip ws⟩ (.ref a :: ws) (.ref a :: zs) Q E hr I2.env0 (hb s2 a ws hw) (.cons rfl rz) q2) fun r s3 z => ?_)
  match r, z with
  | .error e, z => exact hx pins σ H2 s2 e s3 I2 z
  | .ok (.ret u2), z => exact I2.after z
end
end L2.Tb
set_option Elab.async false
set_option linter.all false
set_option maxRecDepth 100000
set_option maxHeartbeats 4000000
/-! x in t, x not in t: t a tuple of data of any depth -/
namespace L2.Tb
open PySem PySem.Spec PyProof.Rows
variable {X : Cx}
def rInDT (K : PySem.W.Frag) (neg : Bool) : R2 := fun x y H Q => ∃ d ds, Dp K H x d ∧ Dp K H y (.tuple ds) ∧ SeqAt.shaped d = true ∧ SeqAt.shaped (.tuple ds) = true ∧ Q (.bl (if neg = true then !(ds.any fun z => PyData.eqv z d) else ds.any fun z => PyData.eqv z d)) H
theorem room_inDT {A : Around} {ds : List PyData} {d : PyData} (sd : SeqAt.shaped d = true) (hu : A.units + 65 < cLine) : A.units + 1 + min (PyData.depthAll ds) d.depth < cLine := by
  have h := SeqAt.depth_of_shaped sd
  have h2 := Nat.min_le_right (PyData.depthAll ds) d.depth
  omega
theorem op_inDT (hu : X.A.units + 65 < cLine) : OpR X (compareOp .In) (rInDT X.K false) := by
  intro pins s σ H x y v u Q I rx ry h
  obtain ⟨d, ds, hd, he, sd, se, q⟩ := h
  obtain ⟨as, r1⟩ := Dp.reads I d x v hd rx
  obtain ⟨bs, r2⟩ := Dp.reads I (.tuple ds) y u he ry
  exact SeqAt.in_tuple_reads r2 r1 (by simpa only [PyData.canLay0] using SeqAt.canLay_of_shaped se) (SeqAt.canLay_of_shaped sd) (room_inDT sd hu) ⟨.bl _, H, I, rfl, q⟩
theorem op_notInDT (hu : X.A.units + 65 < cLine) : OpR X (compareOp .NotIn) (rInDT X.K true) := by
  intro pins s σ H x y v u Q I rx ry h
  obtain ⟨d, ds, hd, he, sd, se, q⟩ := h
  obtain ⟨as, r1⟩ := Dp.reads I d x v hd rx
  obtain ⟨bs, r2⟩ := Dp.reads I (.tuple ds) y u he ry
  exact SeqAt.notIn_tuple_reads r2 r1 (by simpa only [PyData.canLay0] using SeqAt.canLay_of_shaped se) (SeqAt.canLay_of_shaped sd) (room_inDT sd hu) ⟨.bl _, H, I, rfl, q⟩
end L2.Tb
set_option Elab.async false
set_option linter.all false
set_option maxRecDepth 100000
set_option maxHeartbeats 4000000
/-! for z in d: d a dict of the head with text keys -/
namespace L2.Tb
open PySem PySem.Spec PyProof.Rows RZ
def Ikd (ks : List Str) : It := ⟨fun i _ => i < ks.length, fun i H x H' => H' = H ∧ ∃ z, ks[i]? = some z ∧ x = .str z, fun i _ => ks.length ≤ i⟩
structure KeysAt (K : PySem.W.Frag) (w : World) (d : Addr) (ks : List Str) : Prop where
  ex : ∃ es n, KDict K w d es n ∧ es.toList.map keyS = ks.map some
theorem keys_at {K : PySem.W.Frag} {w : World} {d : Addr} {ks : List Str} {es : Array DictEntry} {n : Nat} (h : keysB K d ks = true) (D : KDict K w d es n) : KeysAt K w d ks := by
  refine ⟨es, n, D, ?_⟩
  unfold keysB at h
  rw [D.at_] at h
  exact of_decide_eq_true h
section
variable {P : Program} {w : World} {K : PySem.W.Frag} {tg : Expr} {d : Addr} {es : Array DictEntry} {n : Nat} {ks : List Str}
theorem turn_kd (it : Addr) (D : KDict K w d es n) (hk : es.toList.map keyS = ks.map some) : Turn P w K tg (Ikd ks) [it] it (fun i h => h.IsKeyIter it d i ks.length n) where
  mem := by simp
  obj := fun i h st b hb => by
    have e : b = it := by simpa using hb
    subst e
    obtain ⟨oi, e, c, dd⟩ := st
    exact ⟨oi, e, fun v z => by rw [dd] at z; cases z⟩
  keep := fun i h h' st k => st.at fun oi e => k it (by simp) oi e
  item := by
    intro X hP hw hK hc i pins s σ H E I hf st hi
    subst hP hw hK
    obtain ⟨f0, f1, f2, f3, f4, f5⟩ := hf it (by simp)
    have hgd := I.kIn _ _ D.at_
    have hsz : es.size = ks.length := by
      have := congrArg List.length hk
      simpa using this
    have hi2 : i < ks.length := hi
    obtain ⟨en, hen, z, t, ek, ez⟩ : ∃ en, es[i]? = some en ∧ ∃ z t, en.key = .str z t ∧ ks[i]? = some z := by
      have hi3 : i < es.size := by omega
      refine ⟨es[i], Array.getElem?_eq_getElem hi3, ?_⟩
      have h := congrArg (fun l : List (Option Str) => l[i]?) hk
      rw [List.getElem?_map, List.getElem?_map, Array.getElem?_toList, Array.getElem?_eq_getElem hi3, List.getElem?_eq_getElem hi2] at h
      simp only [Option.map_some, Option.some.injEq] at h
      unfold keyS at h
      split at h
      · rename_i z t e
        injection h with h
        exact ⟨z, t, e, by rw [List.getElem?_eq_getElem hi2, h]⟩
      · cases h
    refine next_key_item st hgd rfl hsz hen fun h' st' sb => ?_
    have I1 : Inv X pins σ H { s with heap := h' } := I.turned (t' := s.toks) (fun b ob hb e => (sb.2 b hb).trans e) f0 f1 f3 f4 f5
    obtain ⟨oi, e, c, dd⟩ := id st'
    exact ⟨en.key, rfl, go_of (s := { s with heap := h' }) e c dd (by decide) ⟨.str z, H, I1, ⟨t, ek⟩, ⟨rfl, z, ez, rfl⟩, st', fun b hb => (hf b hb).1⟩⟩
  done := by
    intro X hP hw hK hc i pins s σ H E I hf st hi
    subst hP hw hK
    obtain ⟨f0, f1, f2, f3, f4, f5⟩ := hf it (by simp)
    have hgd := I.kIn _ _ D.at_
    have hsz : es.size = ks.length := by
      have := congrArg List.length hk
      simpa using this
    exact next_key_end (I.ok.hd hc) st hgd rfl hsz hi fun h' eb => ⟨rfl, I.turned (t' := s.toks) (fun b ob hb e => eb b ob hb e) f0 f1 f3 f4 f5⟩
  self := fun A i s Q E st h => wpAny_pyIter_keyiter st h
end
def iKd (ks : List Str) (d : Addr) (td : TE) : TI := fun σ H R => td σ H fun x H1 => x = .ref d ∧ R (Ikd ks) H1
theorem pi_kd {X : Cx} {tg e : Expr} {td : TE} {d : Addr} {ks : List Str} (A : KeysAt X.K X.w d ks) (he : PE X e td) : PI X tg e (iKd ks d td) := by
  obtain ⟨es, n, D, hk⟩ := A.ex
  refine ⟨fun pins s σ H R I h => ?_⟩
  refine thn (he.run pins s σ H _ I h) fun u s1 ⟨x, H1, I1, rx, ex, q⟩ => ?_
  subst ex
  obtain rfl : u = Value.ref d := rx
  have hsz : es.size = ks.length := by
    have := congrArg List.length hk
    simpa using this
  refine iter_keys D.low (I1.kIn _ _ D.at_) ⟨rfl, rfl, rfl⟩ rfl (pi_one (tk := s1.toks) I1 _ (turn_kd _ D hk) ⟨_, Heap.get?_push_size _ rfl, rfl, ?_⟩ q)
  rw [hsz] <;> rfl
/-- a walk over its keys -/
theorem walk_kd {ks : List Str} : Walk (Ikd ks) ks.length (fun _ => True) (fun i H v H' => H' = H ∧ ∃ z, ks[i]? = some z ∧ v = .str z) := by
  refine ⟨fun i _ hi _ => hi, fun _ _ => Nat.le_refl _, fun i H v H' _ _ y => y⟩
end L2.Tb
set_option Elab.async false
set_option linter.all false
set_option maxRecDepth 100000
set_option maxHeartbeats 4000000
/-! x op y by the own method of x's class, y of the same class -/
namespace L2.Tb
open PySem PySem.Spec PyProof.Rows
section
variable {X : Cx} {CX : CXT} {C f : Addr} {fd : FuncData} {ps : List Str} {sp : Sp} {k : Nat} {op : Operator}
def rOwnBin (C : Addr) (sp : Sp) : R2 := fun x y H Q => ∃ (a dx : Addr) (fs : List (Str × V)) (c dy : Addr) (gs : List (Str × V)), x = .ref a ∧ y = .ref c ∧ H a = some (.ins C dx fs) ∧ H c = some (.ins C dy gs) ∧ sp [.ref a, .ref c] H Q E0
theorem op_ownBin (F : FnOk X.prog X.w X.K X.mg X.base CX k f fd ps sp) (hr : Room k X.A) (hc : PySem.W.selfFirst X.K C = true) (hs : PySem.W.findIn X.K (.ref C) (PySem.dunder op.info.2) = some (some (.ref f))) (hf : PySem.W.isFn X.K (.ref f) = true) (hb : Binds X.K fd ps []) (hx : Passes CX X E0) :
    OpR X (binaryOp op) (rOwnBin C sp) := by
  intro pins s σ H x y v u Q I rx ry h
  obtain ⟨a, dx, fs, c, dy, gs, rfl, rfl, ea, ec, h⟩ := h
  obtain rfl : v = Value.ref a := rx
  obtain rfl : u = Value.ref c := ry
  obtain ⟨mA, O, _⟩ := ins_get I.hok ea
  obtain ⟨od, J, _⟩ := O.look
  obtain ⟨mC, O2, _⟩ := ins_get I.hok ec
  obtain ⟨od2, J2, _⟩ := O2.look
  obtain ⟨m, hF⟩ := I.fr
  have hl := F.len _ _ _ _ h
  refine PySem.W.binop_K hF I.ok.mod.kin J J2.type hc hs hf (wpAny_call (codeAny_mono (F.run X.A X.stack s H ⟨[.ref a, .ref c], []⟩ [.ref a, .ref c] [.ref a, .ref c] _ E0 hr I.env0 (by
    have z := hb s [.ref a, .ref c] I.kIn (by simpa using hl)
    simpa using z) (.cons rfl (.cons rfl .nil)) h) fun r s' hq => ?_))
  match r, hq with
  | .error e, hq => exact hx pins σ H s e s' I hq
  | .ok (.ret u2), hq =>
    obtain ⟨v2, H', I', rv, q⟩ := I.after hq
    exact cmp_back rv ⟨v2, H', I', rv, q⟩
end
end L2.Tb
set_option Elab.async false
set_option linter.all false
set_option maxRecDepth 100000
set_option maxHeartbeats 4000000
/-! y in x by an own __contains__; bool(x) by an own __bool__; o.f as a target among others; s * n -/
namespace L2.Tb
open PySem PySem.Spec PyProof.Rows
section
variable {X : Cx} {C f : Addr} {fd : FuncData} {ps : List Str} {sp : Sp} {k : Nat}
def rOwnIn (C : Addr) (sp : Sp) : R2 := fun v y H Q => ∃ (a dx : Addr) (fs : List (Str × V)), y = .ref a ∧ H a = some (.ins C dx fs) ∧ sp [.ref a, v] H (fun r H' => ∃ b, r = .bl b ∧ Q (.bl b) H') E0
theorem op_ownIn (F : FnOk X.prog X.w X.K X.mg X.base L2.CX0 k f fd ps sp) (hr : Room k X.A) (hs : PySem.W.findIn X.K (.ref C) "__contains__" = some (some (.ref f))) (hf : PySem.W.isFn X.K (.ref f) = true) (hb : Binds X.K fd ps []) : OpR X (compareOp .In) (rOwnIn C sp) := by
  intro pins s σ H x y v u Q I rx ry h
  obtain ⟨a, dx, fs, rfl, ea, h⟩ := h
  obtain rfl : u = Value.ref a := ry
  obtain ⟨mA, O, _⟩ := ins_get I.hok ea
  obtain ⟨od, J, _⟩ := O.look
  obtain ⟨m, hF⟩ := I.fr
  have hl := F.len _ _ _ _ h
  refine PySem.W.in_K hF I.ok.mod.kin J hs hf (wpAny_call (codeAny_mono (F.run X.A X.stack s H ⟨[.ref a, v], []⟩ [.ref a, v] [.ref a, x] _ E0 hr I.env0 (by
    have z := hb s [.ref a, v] I.kIn (by simpa using hl)
    simpa using z) (.cons rfl (.cons rx .nil)) h) fun r s' hq => ?_))
  match r, hq with
  | .error e, hq => exact hq.elim
  | .ok (.ret u), hq =>
    obtain ⟨v2, H', I', rv, b, ev, q⟩ := I.after hq
    rw [ev] at rv
    obtain rfl : u = Value.bool b := rv
    exact wpAny_truthy_bool ⟨.bl b, H', I', rfl, q⟩
def rBoolOwn (C : Addr) (sp : Sp) : List V → Hp → VK → Prop := fun xs H Q => ∃ (a dx : Addr) (fs : List (Str × V)), xs = [.ref a] ∧ H a = some (.ins C dx fs) ∧ sp [.ref a] H (fun v H' => ∃ b, v = .bl b ∧ Q (.bl b) H') E0
end
section
variable {prog : Program} {w : World} {A : Around} {E : Value → Shared → Prop} {s : Shared} {K : PySem.W.Frag} {x C L f : Addr} {h₀ : Heap} {m : Str → Option Value} {ox : Obj} {od : Option Obj}
theorem kbo_call {Q : Value → Shared → Prop} (F : PyProof.Rows.Fr h₀ L s.heap m) (X₀ : K.In h₀) (I : PySem.W.InstAt s.heap x ox C od) (hs : PySem.W.findIn K (.ref C) "__bool__" = some (some (.ref f))) (hf : PySem.W.isFn K (.ref f) = true)
    (h : wpAny (model prog w) A.in1.in1 (call (.ref f) [.ref x]) (PySem.W.BoolBack fun b s' => Q (.bool b) s') E s) : wpAny (model prog w) A (call (.type "bool") [.ref x]) Q E s := by
  refine callType_codes (T := "bool") (Bi := Builtin.«object.__init__») (Q₁ := fun r s₁ => ∃ b, r = .bool b ∧ Q r s₁) PySem.F.called_bool (PySem.F.typeCall_bool_1 _) PySem.F.entry_object_init ?_ ?_
  · refine codeAny_of_tree ?_
    show wpAny _ A.in1.in1 (do checkBuiltinCall "bool.__new__" ⟨[.type "bool", .ref x], []⟩; again (.builtin "bool.__new__" ⟨[.type "bool", .ref x], []⟩)) _ _ s
    refine wpAny_bind (wpAny_of_eq (PySem.F.newCall_bool_1 _) (wpAny_pure ⟨plainId_quiet (by decide +kernel) _, codeAny_builtin PySem.F.entry_bool_new ?_⟩))
    rw [Around.under_plainId (by decide +kernel) _]
    have key := PySem.W.truthy_K (M := model prog w) (A := A.in1.in1) (E := E) (Q := fun b s' => ∃ b', Value.bool b = .bool b' ∧ Q (.bool b) s') F X₀ I hs hf (wpAny_mono h (fun r s1 hr => by cases r <;> first | exact hr.elim | exact ⟨_, rfl, hr⟩) fun _ _ y => y)
    obtain ⟨hp, g, dr, tk, os⟩ := s
    have f1 := PySem.F.conv_sub_bool
    repeat (any_goals (first | assumption | (with_reducible refine wpAny_mono key (fun b s1 hb => ?_) (fun e s1 he => ?_)) | wp_step))
    all_goals first | exact hb | exact he | skip
  · rintro obj s₁ ⟨b, rfl, hq⟩
    exact ⟨PySem.typeIs_bool _ _, PySem.F.args_object_init_2 _ _, object_init_meets PySem.F.called_bool.init.lookup PySem.F.called_bool.made (by decide) prog w A.in1 _ s₁ ⟨PySem.typeIs_bool _ _, rfl, hq⟩⟩
end
section
variable {X : Cx}
/-- o.f = .., as a target among others -/
def gFld (K : PySem.W.Frag) (to : TE) (f : Str) : TG := fun v σ H Q => to σ H fun x H1 => ∃ a C dx fs, x = .ref a ∧ H1 a = some (.ins C dx fs) ∧ Cls K C ∧ NoAttr K C f ∧ fs.length < 1000 ∧ Q σ (upd H1 a (.ins C dx (putF f v fs)))
theorem pg_fld {o : Expr} {to : TE} {f : Str} {pos : Pos} (ho : PE X o to) (ha : ∀ v, assign (.Attribute o f pos) X.env v = (do
      let ov ← holding [v] (eval o X.env)
      standAt pos.atName
      holding [v, ov] (setAttr ov f v)
      release [v, ov] []) := by intro _; rfl) : PG X (.Attribute o f pos) (gFld X.K to f) := by
  refine ⟨fun pins s σ H v u Q I r h => ?_⟩
  rw [ha]
  refine wpAny_bind (wpAny_holding (thn (ho.run pins s σ H _ I h) fun ov s1 ⟨x, H1, I1, r1, a, C, dx, fs, ex, ea, c, n, l, q⟩ => ?_))
  subst ex
  obtain rfl : ov = Value.ref a := r1
  exact wpAny_bind (wpAny_standAt (wpAny_bind (wpAny_holding (setattr_ok I1 ea c n l r fun s3 I3 => wpAny_release ⟨σ, _, I3, q⟩))))
def rMulS : R2 := fun x y H Q => ∃ (z : Str) (n : Nat), x = .str z ∧ y = .int (n : Int) ∧ 1 ≤ n ∧ z.length ≠ 0 ∧ n ≤ 1000 ∧ z.length ≤ 1000 ∧ Q (.str ⟨((List.replicate n z.cps.toList).flatten).toArray⟩) H
theorem rep_arr (z : Array Nat) : ∀ (n : Nat) (a : Array Nat), ((List.replicate n z).foldl (· ++ ·) a).toList = a.toList ++ (List.replicate n z.toList).flatten
  | 0, a => by simp
  | n + 1, a => by
    rw [List.replicate_succ, List.foldl_cons, rep_arr z n (a ++ z), List.replicate_succ, List.flatten_cons, Array.toList_append, List.append_assoc]
theorem op_mulS : OpR X (binaryOp .Mult) rMulS := by
  intro pins s σ H x y v u Q I rx ry h
  obtain ⟨z, n, rfl, rfl, n1, z1, nb, zb, q⟩ := h
  obtain ⟨t, rfl⟩ := (show ∃ t, v = Value.str z t from rx)
  obtain ⟨t', rfl⟩ := (show ∃ t', u = Value.int (n : Int) t' from ry)
  have hlt : ¬ (n : Int) < 1 := by omega
  have mul : z.length * n ≤ 1000 * 1000 := Nat.mul_le_mul zb nb
  have eq1 : (⟨(List.replicate n z.cps).foldl (· ++ ·) #[]⟩ : Str) = ⟨((List.replicate n z.cps.toList).flatten).toArray⟩ := by
    congr 1
    apply Array.toList_inj.mp
    rw [rep_arr]
    simp
  refine P.mul_str ?_ (fun _ _ => ?_) (fun _ _ => ?_) ?_
  · rw [decide_eq_false (by omega), decide_eq_false (by omega)]
    rfl
  · have d : (1000 : Int) ≤ (2 ^ 63 - 1) / (n : Int) := by
      refine Int.le_ediv_of_mul_le (by omega) ?_
      omega
    omega
  · rw [Int.toNat_natCast]
    have : sizeLine = 16777216 := sizeLine_eq
    simp only [Builtin.Str.tooLong, decide_eq_false_iff_not]
    omega
  · rw [if_neg hlt]
    by_cases c : ((n : Int) == 1 || z.length == 0) = true
    · rw [if_pos c]
      have n1' : n = 1 := by
        rcases (Bool.or_eq_true _ _).mp c with c | c
        · have := beq_iff_eq.mp c
          omega
        · exact absurd (beq_iff_eq.mp c) z1
      subst n1'
      refine ⟨.str z, H, I, ⟨_, rfl⟩, ?_⟩
      simpa using q
    · rw [if_neg c]
      refine ⟨?_, ?_⟩
      · rw [Int.toNat_natCast, eq1]
        have e : (⟨((List.replicate n z.cps.toList).flatten).toArray⟩ : Str).length = n * z.length := by
          show ((List.replicate n z.cps.toList).flatten).toArray.size = _
          rw [List.size_toArray, List.length_flatten, List.map_replicate, List.sum_replicate_nat]
          rfl
        rw [e, Nat.mul_comm, sizeLine_eq]
        omega
      · rw [Int.toNat_natCast, eq1]
        exact ⟨.str _, H, I.tok _, ⟨_, rfl⟩, q⟩
/-- bool(x) -/
theorem call_boolOwn {C f : Addr} {fd : FuncData} {ps : List Str} {sp : Sp} {k : Nat} (F : FnOk X.prog X.w X.K X.mg X.base L2.CX0 k f fd ps sp) (hr : Room (k + 2) X.A) (hs : PySem.W.findIn X.K (.ref C) "__bool__" = some (some (.ref f))) (hf : PySem.W.isFn X.K (.ref f) = true) (hb : Binds X.K fd ps []) : CallR X (.type "bool") (rBoolOwn C sp) := by
  intro pins s σ H xs us Q I r h
  obtain ⟨a, dx, fs, rfl, ea, h⟩ := h
  rw [Vals.ref1 r]
  obtain ⟨mA, O, _⟩ := ins_get I.hok ea
  obtain ⟨od, J, _⟩ := O.look
  obtain ⟨m, hF⟩ := I.fr
  have r2 : Room k X.A.in1.in1 := hr.in1.in1
  have hl := F.len _ _ _ _ h
  refine kbo_call hF I.ok.mod.kin J hs hf (wpAny_call (codeAny_mono (F.run X.A.in1.in1 X.stack s H ⟨[.ref a], []⟩ [.ref a] [.ref a] _ E0 r2 I.env0.in1.in1 (by
    have z := hb s [.ref a] I.kIn (by simpa using hl)
    simpa using z) (.cons rfl .nil) h) fun r s' hq => ?_))
  match r, hq with
  | .error e, hq => exact hq.elim
  | .ok (.ret u), hq =>
    obtain ⟨v, H', I', rv, b, ev, q⟩ := I.after hq
    rw [ev] at rv
    obtain rfl : u = Value.bool b := rv
    exact ⟨.bl b, H', I', rfl, q⟩
end
end L2.Tb
set_option Elab.async false
set_option linter.all false
set_option maxRecDepth 100000
set_option maxHeartbeats 8000000
namespace L2.K06
open PySem PySem.Spec PyProof.Rows L2.Tb
open SX (S)
/-! ### the text by places -/
def top (i : Nat) : Stmt := PySem.Challenge.pw_thirdback_k06_whole_texts_of_formulas.main.body.getD i (.Pass ⟨0, 0, 0, 0⟩)
/-- the built-ins' names -/
structure Bt (mg : Str → Option Value) : Prop where
  m_len : mg "len" = none
  m_int : mg "int" = none
  m_abs : mg "abs" = none
  m_divmod : mg "divmod" = none
  m_isinstance : mg "isinstance" = none
  m_tuple : mg "tuple" = none
  m_list : mg "list" = none
  m_bool : mg "bool" = none
  m_all : mg "all" = none
  m_zip : mg "zip" = none
  m_range : mg "range" = none
  m_max : mg "max" = none
  m_min : mg "min" = none
  m_enumerate : mg "enumerate" = none
  m_repr : mg "repr" = none
  m_sorted : mg "sorted" = none
  m_ValueError : mg "ValueError" = none
  m_LookupError : mg "LookupError" = none
  m_ArithmeticError : mg "ArithmeticError" = none
abbrev s_cell : Stmt := top 25
abbrev N_cell : List Str := ["_law_cells", "_law_k", "_law_seed", "_law_cell_here"]
theorem sc_cell : FnScope N_cell ["_law_cells", "_law_k"] (defScope s_cell) := ⟨rfl, rfl, rfl, by decide +kernel, rfl, by decide +kernel, by decide +kernel⟩
abbrev s_purse : Stmt := top 26
abbrev N_purse : List Str := ["_law_cell_here", "_law_digits"]
theorem sc_purse : FnScope N_purse ["_law_cell_here"] (defScope s_purse) := ⟨rfl, rfl, rfl, by decide +kernel, rfl, by decide +kernel, by decide +kernel⟩
abbrev s_draw : Stmt := top 27
abbrev N_draw : List Str := ["_law_purse_here", "_law_many_here", "_law_state", "_law_digit"]
theorem sc_draw : FnScope N_draw ["_law_purse_here", "_law_many_here"] (defScope s_draw) := ⟨rfl, rfl, rfl, by decide +kernel, rfl, by decide +kernel, by decide +kernel⟩
/-! ### promises -/
abbrev iBits := Builtin.Int.intBits
def spCell (K : PySem.W.Frag) : Sp := fun vs H Q _ => ∃ (a : Addr) (ns : List Int) (k : Nat), vs = [.ref a, .int (k : Int)] ∧ SqL K H a (ns.map V.int) ∧ (∀ n ∈ ns, iBits n ≤ 1048576) ∧ k ≤ 64 ∧
  ∀ (z : Int) (H' : Hp), Same H H' → iBits z ≤ 1048576 → Q (.int z) H'
def spPurse : Sp := fun vs H Q _ => ∃ z : Int, vs = [.int z] ∧ iBits z ≤ 1048576 ∧ ∀ (p : Addr) (H' : Hp), Same H H' → H p = none → Purse H' p → Q (.ref p) H'
def spDraw : Sp := fun vs H Q _ => ∃ (p : Addr) (m : Int), vs = [.ref p, .int m] ∧ Purse H p ∧ 0 < m ∧ m < 2 ^ 200 ∧ ∀ (d : Int) (H' : Hp), 0 ≤ d → d < m → SameB p H H' → Purse H' p → Q (.int d) H'
section
variable {P : Program} {w : World} {K : PySem.W.Frag} {mg : Str → Option Value} {base : Heap} {f : Addr} {fd : FuncData}
theorem bits31 {z : Int} (h0 : 0 ≤ z) (h1 : z < 2147483648) : iBits z ≤ 1048576 := Nat.le_trans (PyProof.Rows.intBits_le (k := 31) (by omega)) (by decide)
theorem mem_map_int {ns : List Int} {i : Nat} {y : V} (h : (ns.map V.int)[i]? = some y) : ∃ u, y = V.int u ∧ u ∈ ns := by
  rw [List.getElem?_map] at h
  cases e : ns[i]? with
  | none =>
    rw [e] at h
    cases h
  | some u =>
    rw [e] at h
    exact ⟨u, (Option.some.inj h).symm, List.mem_of_getElem? e⟩
theorem c_cell (T : Bt mg) (F : FnP K "_law_cell" s_cell f fd) (hm : mg "_law_cell" = some (.ref f)) : Cal P w K mg base 1 "_law_cell" (spCell K) := by
  have hnd := sc_cell.nd
  refine cal_mk F hm sc_cell (fun _ _ _ _ _ _ us hl => match us, hl with | [_, _], _ => rfl) (fun vs H Q E h => ?_) (fun cdv A outer s H vs Q E hr h => ?_)
  · obtain ⟨a, ns, k, rfl, _⟩ := h
    rfl
  · obtain ⟨a, ns, k, rfl, hS, hb, hk, q⟩ := h
    refine ⟨_, (pss_cons (ps_if (pt_cmpR op_lt (pv 1) (pe_callB call_len_seq (by rfl) T.m_len (by decide +kernel) (pa_cons (pv 0) pa_nil)) (nomark _))
      (pss_one (ps_ret (pe_ix (show IxR _ (rIxL K) from ix_list) (pv 0) (pv 1) (fun _ _ => rfl))))
      pss_nil)
      (pss_cons (ps_set (i := 2) hnd rfl (by first | exact Or.inl rfl | exact Or.inr rfl) (pe_op op_add pe_int (pe_op op_mul (pe_op op_mul pe_int (pv 1)) (pv 1))))
      (pss_cons (ps_for PassesOwn.never (by rfl) (pi_list (pe_slice sl_list (pv 0) po_none (po_some pe_int))) (pg_name (i := 3) hnd rfl (by first | exact Or.inl rfl | exact Or.inr rfl))
      (pss_one (ps_set (i := 2) hnd rfl (by first | exact Or.inl rfl | exact Or.inr rfl) (pe_op op_mod (pe_callTy call_int1 (by rfl) T.m_int (by decide +kernel) (pa_cons (pe_op op_add (pe_op op_mul (pv 2) pe_int) (pv 3)) pa_nil)) pe_int))))
      (pss_one (ps_ret (pv 2)))))), ?_⟩
    refine ⟨_, rfl, _, rfl, a, _, rfl, .inl hS, _, _, rfl, rfl, _, rfl, ite2 (fun hlt => ?_) (fun hge => ?_)⟩
    · have hl : k < ns.length := by
        have z := of_decide_eq_true hlt
        rw [List.length_map] at z
        omega
      refine ⟨_, rfl, _, rfl, a, _, _, .int (ns[k]), rfl, rfl, hS, atI_nat (by simp [hl]), ?_⟩
      exact q _ _ (Same.refl _) (hb _ (List.getElem_mem ..))
    · refine ⟨_, rfl, _, _, rfl, rfl, .inl ⟨by decide, by decide⟩, _, rfl, _, _, rfl, rfl, .inr ⟨by omega, by omega⟩, _, _, rfl, rfl, ?_⟩
      refine ⟨_, rfl, _, rfl, a, _, rfl, hS, fun p np => ?_⟩
      refine ⟨p, rfl, ⟨_, SqL.of upd_same⟩, for_list (K := K) (a := p) (xs := cutV (ns.map V.int) none (some 3)) (fun i σ H' => ∃ (z : Int) (v : Option V), σ = [some (.ref a), some (.int k), some (.int z), v] ∧ H' = upd H p (.lst (cutV (ns.map V.int) none (some 3))) ∧ 0 ≤ z ∧ z < 2147483648)
        ⟨_, none, rfl, rfl, ?_, ?_⟩ (fun i σ H' _ ⟨_, _, _, e, _⟩ => by rw [e]; exact SqL.of upd_same) ?_ ?_⟩
      · have : (0 : Int) ≤ 617 * k * k := Int.mul_nonneg (Int.mul_nonneg (by omega) (by omega)) (by omega)
        omega
      · have h1 : (k : Int) * k ≤ 64 * 64 := Int.mul_le_mul (by omega) (by omega) (by omega) (by omega)
        rw [Int.mul_assoc]
        omega
      · rintro i y σ H' hi ⟨z, v, rfl, rfl, h0, h1⟩
        obtain ⟨u, rfl, hu⟩ : ∃ u, y = V.int u ∧ u ∈ ns := by
          have hm : y ∈ ns.map V.int := List.mem_of_mem_drop (List.mem_of_mem_take (List.mem_of_getElem? hi))
          obtain ⟨u, hu, rfl⟩ := List.mem_map.mp hm
          exact ⟨u, rfl, hu⟩
        refine ⟨_, rfl, _, _, rfl, rfl, .inl ⟨by omega, by omega⟩, _, rfl, _, _, rfl, rfl, .inl ⟨_, rfl, _, _, rfl, rfl, by show (0 : Int) < 2147483563; decide, ?_⟩⟩
        exact ⟨_, _, rfl, rfl, Int.emod_nonneg _ (by decide), Int.lt_trans (Int.emod_lt_of_pos _ (by decide)) (by decide)⟩
      · rintro σ H' ⟨z, v, rfl, rfl, h0, h1⟩
        exact ⟨_, rfl, q _ _ (same_new np) (bits31 h0 h1)⟩
theorem c_purse (T : Bt mg) (F : FnP K "_law_purse" s_purse f fd) (hm : mg "_law_purse" = some (.ref f)) : Cal P w K mg base 1 "_law_purse" spPurse := by
  have hnd := sc_purse.nd
  refine cal_mk F hm sc_purse (fun _ _ _ _ _ _ us hl => match us, hl with | [_], _ => rfl) (fun vs H Q E h => ?_) (fun cdv A outer s H vs Q E hr h => ?_)
  · obtain ⟨z, rfl, _⟩ := h
    rfl
  · obtain ⟨z, rfl, hb, q⟩ := h
    have fin : ∀ dg : Int, 0 ≤ dg → ∀ (σ : St), σ = [some (.int z), some (.int dg)] → tRet (tLst (tCons (tOp (rI (fun _ j => 0 < j) fun i j => .int (i % j)) (tCB (fun xs H Q => (∃ i, xs = [.int i] ∧ Q (.int i) H) ∨ ∃ k, xs = [.bl k] ∧ Q (.int (if k then 1 else 0)) H) (tCons (tOp (rI0 fun i j => .int (i + j)) (tOp (rI CMulX fun i j => .int (i * j)) (tVar 0) (tC (.int 950706376))) (tC (.int 918273))) tNil)) (tC (.int 2147483563))) (tCons (tVar 1) (tCons (tC (.int 0)) tNil)))) { nx := fun _ H' => Q .non H', rt := Q } σ H := fun dg hd σ e => by
      subst e
      refine ⟨_, rfl, _, _, rfl, rfl, ?_, _, _, rfl, rfl, .inl ⟨_, rfl, _, _, rfl, rfl, by show (0 : Int) < 2147483563; decide, ?_⟩⟩
      · have h2 : iBits 950706376 ≤ 30 := PyProof.Rows.intBits_le (k := 30) (by decide)
        show (iBits z : Int) + (iBits 950706376 : Int) ≤ 134217728
        omega
      · refine ⟨_, rfl, by show 3 ≤ sizeLine; decide, fun p np => ?_⟩
        exact q _ _ (same_new np) np ⟨_, _, _, upd_same, Int.emod_nonneg _ (by decide), Int.emod_lt_of_pos _ (by decide), hd⟩
    refine ⟨_, (pss_cons (ps_set (i := 1) hnd rfl (by first | exact Or.inl rfl | exact Or.inr rfl) (pe_ifExp (PW.pt (pw_or (pt_cmpR op_lt (pv 0) pe_int (nomark _)) (pw_or1 (pt_cmpR op_ge (pv 0) (pe_op op_pow pe_int pe_int) (nomark _))))) (pe_callB call_abs (by rfl) T.m_abs (by decide +kernel) (pa_cons (pv 0) pa_nil)) pe_int))
      (pss_one (ps_ret (pe_lst (pa_cons (pe_op op_mod (pe_callTy call_int1 (by rfl) T.m_int (by decide +kernel) (pa_cons (pe_op op_add (pe_op op_mulX (pv 0) pe_int) pe_int) pa_nil)) pe_int) (pa_cons (pv 1) (pa_cons pe_int pa_nil))))))), ?_⟩
    refine ⟨_, rfl, _, _, rfl, rfl, _, rfl, ite2 (fun hlt => ?_) (fun hge => ?_)⟩
    · refine ⟨_, rfl, _, rfl, fin _ ?_ _ rfl⟩
      split <;> omega
    · refine ⟨_, rfl, _, _, rfl, rfl, ⟨by decide, by decide, by decide⟩, _, _, rfl, rfl, _, rfl, ite2 (fun hlt => ?_) (fun hge => ?_)⟩
      · refine ⟨_, rfl, _, rfl, fin _ ?_ _ rfl⟩
        split <;> omega
      · exact fin 0 (by decide) _ rfl
theorem c_draw (T : Bt mg) (F : FnP K "_law_draw" s_draw f fd) (hm : mg "_law_draw" = some (.ref f)) : Cal P w K mg base 1 "_law_draw" spDraw := by
  have hnd := sc_draw.nd
  refine cal_mk F hm sc_draw (fun _ _ _ _ _ _ us hl => match us, hl with | [_, _], _ => rfl) (fun vs H Q E h => ?_) (fun cdv A outer s H vs Q E hr h => ?_)
  · obtain ⟨p, m, rfl, _⟩ := h
    rfl
  · obtain ⟨p, m, rfl, hp, m0, m1, q⟩ := h
    obtain ⟨st, dg, c, e, h0, h1, hd⟩ := hp.ex
    have ix : ∀ {σ : St} {o : Hp} {a b d : Int} (i : Nat) (v : Int), o p = some (.lst [.int a, .int b, .int d]) → [V.int a, .int b, .int d][i]? = some (.int v) → ∀ Q : VK, Q (.int v) o → rIxL K (.ref p) (.int (i : Int)) o Q := fun i v ho hv Q hq => ⟨p, _, _, _, rfl, rfl, SqL.of ho, atI_nat hv, hq⟩
    refine ⟨_, (pss_cons (ps_asg (pe_op op_add (pe_ix (show IxR _ (rIxL K) from ix_list) (pv 0) pe_int (fun _ _ => rfl)) pe_int) (pg_sub (pv 0) pe_int set_list))
      (pss_cons (ps_set (i := 2) hnd rfl (by first | exact Or.inl rfl | exact Or.inr rfl) (pe_callTy call_int1 (by rfl) T.m_int (by decide +kernel) (pa_cons (pe_ix (show IxR _ (rIxL K) from ix_list) (pv 0) pe_int (fun _ _ => rfl)) pa_nil)))
      (pss_cons (ps_asg (pe_op op_mod (pe_callTy call_int1 (by rfl) T.m_int (by decide +kernel) (pa_cons (pe_op op_add (pe_op op_add (pe_op op_mul (pv 2) (pv 2)) (pe_op op_fdiv (pv 2) pe_int)) (pe_op op_mul pe_int (pe_ix (show IxR _ (rIxL K) from ix_list) (pv 0) pe_int (fun _ _ => rfl)))) pa_nil)) pe_int) (pg_sub (pv 0) pe_int set_list))
      (pss_cons (ps_if (pt_cmpR op_gt (pe_ix (show IxR _ (rIxL K) from ix_list) (pv 0) pe_int (fun _ _ => rfl)) pe_int (nomark _))
      (pss_cons (ps_asg (pe_callB call_divmodW (by rfl) T.m_divmod (by decide +kernel) (pa_cons (pe_ix (show IxR _ (rIxL K) from ix_list) (pv 0) pe_int (fun _ _ => rfl)) (pa_cons (pv 1) pa_nil))) (pg_tup (by rfl) (pgs_cons (pg_sub (pv 0) pe_int set_list) (pgs_cons (pg_name (i := 3) hnd rfl (by first | exact Or.inl rfl | exact Or.inr rfl)) pgs_nil))))
      (pss_one (ps_ret (pv 3))))
      pss_nil)
      (pss_one (ps_ret (pe_op op_mod (pe_callTy call_int1 (by rfl) T.m_int (by decide +kernel) (pa_cons (pe_op op_fdiv (pe_ix (show IxR _ (rIxL K) from ix_list) (pv 0) pe_int (fun _ _ => rfl)) pe_int) pa_nil)) (pv 1)))))))), ?_⟩
    refine ⟨_, rfl, p, _, _, _, rfl, rfl, SqL.of e, rfl, _, _, rfl, rfl, _, rfl, p, _, _, 2, rfl, rfl, e, rfl, ?_⟩
    have e1 : (upd H p (.lst ([V.int st, .int dg, .int c].set 2 (.int (c + 1))))) p = some (.lst [.int st, .int dg, .int (c + 1)]) := upd_same
    refine ⟨_, rfl, p, _, _, _, rfl, rfl, SqL.of e1, rfl, .inl ⟨_, rfl, ?_⟩⟩
    refine ⟨_, rfl, _, rfl, _, _, rfl, rfl, .inl ⟨by omega, by omega⟩, _, rfl, _, _, rfl, rfl, ⟨by decide, by decide⟩, _, _, rfl, rfl, _, rfl, p, _, _, _, rfl, rfl, SqL.of e1, rfl, _, _, rfl, rfl, .inl ⟨by decide, by decide⟩, _, _, rfl, rfl, .inl ⟨_, rfl, _, _, rfl, rfl, by show (0 : Int) < 2147483563; decide, _, rfl, p, _, _, 0, rfl, rfl, e1, rfl, ?_⟩⟩
    have z0 : 0 ≤ (st * st + st / 7 + 48611 * (c + 1)) % 2147483563 := Int.emod_nonneg _ (by decide)
    have z1 : (st * st + st / 7 + 48611 * (c + 1)) % 2147483563 < 2147483563 := Int.emod_lt_of_pos _ (by decide)
    have e2 : (upd (upd H p (.lst ([V.int st, .int dg, .int c].set 2 (.int (c + 1))))) p (.lst ([V.int st, .int dg, .int (c + 1)].set 0 (.int ((st * st + st / 7 + 48611 * (c + 1)) % 2147483563))))) p = some (.lst [.int ((st * st + st / 7 + 48611 * (c + 1)) % 2147483563), .int dg, .int (c + 1)]) := upd_same
    have s2 : SameB p H (upd (upd H p (.lst ([V.int st, .int dg, .int c].set 2 (.int (c + 1))))) p (.lst ([V.int st, .int dg, .int (c + 1)].set 0 (.int ((st * st + st / 7 + 48611 * (c + 1)) % 2147483563))))) := SameB.set.put
    refine ⟨_, rfl, p, _, _, _, rfl, rfl, SqL.of e2, rfl, _, _, rfl, rfl, _, rfl, ite2 (fun hgt => ?_) (fun hle => ?_)⟩
    · refine ⟨_, rfl, p, _, _, _, rfl, rfl, SqL.of e2, rfl, _, rfl, _, _, rfl, divp_small m0 m1, fun t nt => ?_⟩
      have npt : p ≠ t := ne_of_none e2 nt
      have e3 := Eq.trans (upd_ne (o := .tup [.int (dg / m), .int (dg % m)]) npt) e2
      refine ⟨t, _, rfl, SqT.of upd_same, rfl, _, _, rfl, ⟨_, rfl, p, _, _, 1, rfl, rfl, e3, rfl, _, _, rfl, rfl, _, rfl, ?_⟩⟩
      refine q _ _ (Int.emod_nonneg _ (by omega)) (Int.emod_lt_of_pos _ m0) (SameB.put fun b o n h => ?_) ⟨_, _, _, upd_same, z0, z1, Int.ediv_nonneg hd (by omega)⟩
      exact same_new nt _ _ (s2 b o n h)
    · refine ⟨_, rfl, p, _, _, _, rfl, rfl, SqL.of e2, rfl, _, _, rfl, rfl, ⟨by decide, by decide⟩, .inl ⟨_, rfl, _, rfl, _, _, rfl, rfl, m0, ?_⟩⟩
      exact q _ _ (Int.emod_nonneg _ (by omega)) (Int.emod_lt_of_pos _ m0) s2 ⟨_, _, _, e2, z0, z1, hd⟩
end
end L2.K06
set_option Elab.async false
set_option linter.all false
set_option maxRecDepth 100000
set_option maxHeartbeats 8000000
namespace L2.K06
open PySem PySem.Spec PyProof.Rows L2.Tb
open SX (S)
abbrev s_name : Stmt := top 30
abbrev N_name : List Str := ["_law_purse_here", "_law_way", "_law_word", "_law_k"]
theorem sc_name : FnScope N_name ["_law_purse_here"] (defScope s_name) := ⟨rfl, rfl, rfl, by decide +kernel, rfl, by decide +kernel, by decide +kernel⟩
/-! ### drawn names -/
def lowB (c : Nat) : Bool := Nat.ble 97 c && Nat.ble c 122
def signB (c : Nat) : Bool := lowB c || (Nat.ble 48 c && Nat.ble c 57)
/-- a right name -/
def nameB : List Nat → Bool
  | [] => false
  | c :: r => lowB c && (Nat.ble r.length 7 && r.all signB)
theorem nameB_snoc {l : List Nat} {c : Nat} (h : nameB l = true) (hl : l.length ≤ 7) (hc : signB c = true) : nameB (l ++ [c]) = true := by
  cases l with
  | nil => cases h
  | cons a r =>
    simp only [nameB, Bool.and_eq_true, Nat.ble_eq] at h
    simp only [List.cons_append, nameB, Bool.and_eq_true, Nat.ble_eq, List.length_append, List.length_singleton, List.all_append, List.all_cons, List.all_nil, Bool.and_true]
    have : (a :: r).length = r.length + 1 := rfl
    exact ⟨h.1, by omega, h.2.2, hc⟩
theorem nameB_len {l : List Nat} (h : nameB l = true) : 1 ≤ l.length ∧ l.length ≤ 8 := by
  cases l with
  | nil => cases h
  | cons a r =>
    simp only [nameB, Bool.and_eq_true, Nat.ble_eq] at h
    have : (a :: r).length = r.length + 1 := rfl
    omega
def spName : Sp := fun vs H Q _ => ∃ p : Addr, vs = [.ref p] ∧ Purse H p ∧ ∀ (l : List Nat) (H' : Hp), nameB l = true → SameB p H H' → Purse H' p → Q (.str (S l)) H'
theorem low_at : ∀ k : Nat, k < 26 → (Str.ofString "abcdefghijklmnopqrstuvwxyz").cps.toList[k]? = some (97 + k) := by decide +kernel
def signAt (k : Nat) : Nat := if k < 26 then 97 + k else 22 + k
theorem sign_at : ∀ k : Nat, k < 36 → (Str.ofString "abcdefghijklmnopqrstuvwxyz0123456789").cps.toList[k]? = some (signAt k) ∧ signB (signAt k) = true := by decide +kernel
def wordL : List V := [.str (Str.ofString "same"), .str (Str.ofString "unlike"), .str (Str.ofString "go"), .str (Str.ofString "plain"), .str (Str.ofString "calm"), .str (Str.ofString "all"), .str (Str.ofString "n"), .str (Str.ofString "a")]
theorem word_at : ∀ k : Nat, k < 8 → ∃ z : Str, wordL[k]? = some (.str z) ∧ nameB z.cps.toList = true := by
  intro k hk
  rcases (show k = 0 ∨ k = 1 ∨ k = 2 ∨ k = 3 ∨ k = 4 ∨ k = 5 ∨ k = 6 ∨ k = 7 by omega) with rfl | rfl | rfl | rfl | rfl | rfl | rfl | rfl
  all_goals exact ⟨_, rfl, by decide +kernel⟩
def manyL : List V := [.int 0, .int 0, .int 0, .int 1, .int 1, .int 2, .int 3, .int 5, .int 7, .int 7]
theorem many_at : ∀ k : Nat, k < 10 → ∃ m : Nat, manyL[k]? = some (.int (m : Int)) ∧ m ≤ 7 := by
  intro k hk
  rcases (show k = 0 ∨ k = 1 ∨ k = 2 ∨ k = 3 ∨ k = 4 ∨ k = 5 ∨ k = 6 ∨ k = 7 ∨ k = 8 ∨ k = 9 by omega) with rfl | rfl | rfl | rfl | rfl | rfl | rfl | rfl | rfl | rfl
  · exact ⟨0, rfl, by decide⟩
  · exact ⟨0, rfl, by decide⟩
  · exact ⟨0, rfl, by decide⟩
  · exact ⟨1, rfl, by decide⟩
  · exact ⟨1, rfl, by decide⟩
  · exact ⟨2, rfl, by decide⟩
  · exact ⟨3, rfl, by decide⟩
  · exact ⟨5, rfl, by decide⟩
  · exact ⟨7, rfl, by decide⟩
  · exact ⟨7, rfl, by decide⟩
theorem str_S (z : Str) : z = S z.cps.toList := by
  obtain ⟨a⟩ := z
  simp
section
variable {P : Program} {w : World} {K : PySem.W.Frag} {mg : Str → Option Value} {base : Heap} {f : Addr} {fd : FuncData}
theorem gname_go {i : Nat} {x : V} {σ : St} {H : Hp} {k : St → Hp → Prop} (h : k (σ.set i (some x)) H) : gName i x σ H k := h
theorem c_name (T : Bt mg) (F : FnP K "_law_name" s_name f fd) (hm : mg "_law_name" = some (.ref f)) (k_draw : Cal P w K mg base 1 "_law_draw" spDraw) : Cal P w K mg base 2 "_law_name" spName := by
  have hnd := sc_name.nd
  refine cal_mk F hm sc_name (fun _ _ _ _ _ _ us hl => match us, hl with | [_], _ => rfl) (fun vs H Q E h => ?_) (fun cdv A outer s H vs Q E hr h => ?_)
  · obtain ⟨p, rfl, _⟩ := h
    rfl
  · obtain ⟨p, rfl, hp, q⟩ := h
    refine ⟨_, (pss_cons (ps_set (i := 1) hnd rfl (by first | exact Or.inl rfl | exact Or.inr rfl) (pe_cal k_draw hr (by omega) (by rfl) (pa_cons (pv 0) (pa_cons pe_int pa_nil))))
      (pss_cons (ps_if (pt_cmpR op_lt (pv 1) pe_int (nomark _))
      (pss_one (ps_ret (pe_ix (show IxR _ (rIxL K) from ix_list) (pe_lst (pa_cons pe_str (pa_cons pe_str (pa_cons pe_str (pa_cons pe_str (pa_cons pe_str (pa_cons pe_str (pa_cons pe_str (pa_cons pe_str pa_nil))))))))) (pe_cal k_draw hr (by omega) (by rfl) (pa_cons (pv 0) (pa_cons pe_int pa_nil))) (fun _ _ => rfl))))
      pss_nil)
      (pss_cons (ps_set (i := 2) hnd rfl (by first | exact Or.inl rfl | exact Or.inr rfl) (pe_ix ix_str pe_str (pe_cal k_draw hr (by omega) (by rfl) (pa_cons (pv 0) (pa_cons pe_int pa_nil))) (fun _ _ => rfl)))
      (pss_cons (ps_for PassesOwn.never (by rfl) (pi_range1 (by rfl) T.m_range (pa_cons (pe_ix (show IxR _ (rIxL K) from ix_list) (pe_lst (pa_cons pe_int (pa_cons pe_int (pa_cons pe_int (pa_cons pe_int (pa_cons pe_int (pa_cons pe_int (pa_cons pe_int (pa_cons pe_int (pa_cons pe_int (pa_cons pe_int pa_nil))))))))))) (pe_op op_sub (pv 1) pe_int) (fun _ _ => rfl)) pa_nil)) (pg_name (i := 3) hnd rfl (by first | exact Or.inl rfl | exact Or.inr rfl))
      (pss_one (ps_set (i := 2) hnd rfl (by first | exact Or.inl rfl | exact Or.inr rfl) (pe_op op_add_str (pv 2) (pe_ix ix_str pe_str (pe_cal k_draw hr (by omega) (by rfl) (pa_cons (pv 0) (pa_cons pe_int pa_nil))) (fun _ _ => rfl))))))
      (pss_one (ps_ret (pv 2))))))), ?_⟩
    refine ⟨_, rfl, p, 12, rfl, hp, by decide, by decide, fun d H1 d0 d1 s1 u1 => gname_go ?_⟩
    try dsimp only
    refine ⟨_, rfl, _, _, rfl, rfl, _, rfl, ite2 (fun hlt => ?_) (fun hge => ?_)⟩
    · refine ⟨Nat.le_of_ble_eq_true rfl, fun L nL => ⟨_, rfl, p, 8, rfl, u1.same (same_new nL), by decide, by decide, fun e H2 e0 e1 s2 u2 => ?_⟩⟩
      obtain ⟨k, rfl⟩ := Int.eq_ofNat_of_zero_le e0
      obtain ⟨z, hz, nz⟩ := word_at k (by omega)
      have nLp : L ≠ p := fun z => by
        obtain ⟨st, dg, c, e, r⟩ := u1.ex
        rw [z, e] at nL
        cases nL
      have eL := s2 _ _ nLp (upd_same (H := H1) (a := L) (o := .lst wordL))
      refine ⟨L, wordL, _, .str z, rfl, rfl, SqL.of eL, atI_nat hz, ?_⟩
      rw [str_S z]
      exact q _ _ nz ((s1.trans (SameB.of (same_new nL))).trans s2) u2
    · dsimp only [tNext]
      have l26 : (Str.ofString "abcdefghijklmnopqrstuvwxyz").length ≤ sizeLine := by
        rw [show (Str.ofString "abcdefghijklmnopqrstuvwxyz").length = 26 by decide +kernel, sizeLine_eq]
        decide
      have l36 : (Str.ofString "abcdefghijklmnopqrstuvwxyz0123456789").length ≤ sizeLine := by
        rw [show (Str.ofString "abcdefghijklmnopqrstuvwxyz0123456789").length = 36 by decide +kernel, sizeLine_eq]
        decide
      have hge2 : 2 ≤ d := by
        have z := hge
        simp only [decide_eq_true_eq] at z
        omega
      refine ⟨_, rfl, p, 26, rfl, u1, by decide, by decide, fun e H2 e0 e1 s2 u2 => ?_⟩
      obtain ⟨k, rfl⟩ := Int.eq_ofNat_of_zero_le e0
      refine ⟨_, _, _, rfl, rfl, l26, atI_nat (low_at k (by omega)), gname_go ?_⟩
      try dsimp only
      obtain ⟨j, rfl⟩ := Int.eq_ofNat_of_zero_le d0
      obtain ⟨m, hm, m7⟩ := many_at (j - 2) (by omega)
      refine ⟨Nat.le_of_ble_eq_true rfl, fun Lq nLq => ⟨_, rfl, _, _, rfl, rfl, Lq, manyL, _, .int (m : Int), rfl, rfl, SqL.of upd_same, by rw [show (j : Int) - 2 = ((j - 2 : Nat) : Int) by omega]; exact atI_nat hm, _, rfl, by omega, by omega, ?_⟩⟩
      have u3 := u2.same (same_new (o := .lst manyL) nLq)
      have s3 := (s1.trans s2).trans (SameB.of (same_new (o := .lst manyL) nLq))
      refine for_range (n := ((m : Nat) : Int).toNat) (fun i σ' G => ∃ (l : List Nat) (x3 : Option V), σ' = [some (.ref p), some (.int (j : Int)), some (.str (S l)), x3] ∧ nameB l = true ∧ l.length = 1 + i ∧ SameB p H G ∧ Purse G p) ⟨[97 + k], _, rfl, ?_, rfl, s3, u3⟩ ?_ ?_
      · simp only [nameB, lowB, List.length_nil, List.all_nil, Bool.and_true, Bool.and_eq_true, Nat.ble_eq]
        omega
      · rintro i σ' G hi ⟨l, x3, rfl, hn, hl, sG, uG⟩
        have hi : i < m := by
          rw [Int.toNat_natCast] at hi
          exact hi
        refine gname_go ?_
        try dsimp only
        refine ⟨_, rfl, _, rfl, p, 36, rfl, uG, by decide, by decide, fun e2 H3 f0 f1 s4 u4 => ?_⟩
        obtain ⟨k2, rfl⟩ := Int.eq_ofNat_of_zero_le f0
        obtain ⟨ha, hs⟩ := sign_at k2 (by omega)
        refine ⟨_, _, _, rfl, rfl, l36, atI_nat ha, _, _, rfl, rfl, ?_, gname_go ⟨l ++ [signAt k2], some (.int (0 + (i : Int))), ?_, nameB_snoc hn (by omega) hs, by rw [List.length_append, hl]; rfl, sG.trans s4, u4⟩⟩
        · show (S l).length + 1 ≤ sizeLine
          rw [SX.S_len, sizeLine_eq]
          omega
        · rw [show (S l ++ (⟨#[signAt k2]⟩ : Str)) = S (l ++ [signAt k2]) from SX.S_cat ..]
          rfl
      · rintro σ' G ⟨l, x3, rfl, hn, hl, sG, uG⟩
        exact ⟨_, rfl, q l G hn sG uG⟩
end
end L2.K06
set_option Elab.async false
set_option linter.all false
set_option maxRecDepth 100000
set_option maxHeartbeats 8000000
namespace L2.K06
open PySem PySem.Spec PyProof.Rows L2.Tb
open SX (S)
abbrev s_names : Stmt := top 31
abbrev N_names : List Str := ["_law_purse_here", "_law_many_here", "_law_found_here", "_law_k", "_law_word", "_law_way", "_law_at", "_law_each"]
theorem sc_names : FnScope N_names ["_law_purse_here", "_law_many_here"] (defScope s_names) := ⟨rfl, rfl, rfl, by decide +kernel, rfl, by decide +kernel, by decide +kernel⟩
theorem nodup_sub {α : Type} [DecidableEq α] : ∀ {l m : List α}, l.Nodup → (∀ x ∈ l, x ∈ m) → l.length ≤ m.length
  | [], _, _, _ => Nat.zero_le _
  | a :: l, m, h, s => by
    have ha := s a List.mem_cons_self
    have hn := List.nodup_cons.mp h
    have ih := nodup_sub (m := m.erase a) hn.2 fun x hx => (List.mem_erase_of_ne (fun e => hn.1 (by rw [← e]; exact hx))).mpr (s x (List.mem_cons_of_mem _ hx))
    rw [List.length_erase_of_mem ha] at ih
    have := List.length_pos_of_mem ha
    rw [List.length_cons]
    omega
def nmV (l : List Nat) : V := .str (S l)
def poolL : List (List Nat) := [[98, 48], [98, 49], [98, 50], [98, 51], [98, 52], [98, 53], [98, 54], [98, 55], [98, 56]]
theorem pool_v : [V.str (Str.ofString "b0"), .str (Str.ofString "b1"), .str (Str.ofString "b2"), .str (Str.ofString "b3"), .str (Str.ofString "b4"), .str (Str.ofString "b5"), .str (Str.ofString "b6"), .str (Str.ofString "b7"), .str (Str.ofString "b8")] = poolL.map nmV := by decide +kernel
theorem pool_ok : poolL.Nodup ∧ ∀ l ∈ poolL, nameB l = true := by decide +kernel
theorem nmV_inj {a b : List Nat} (h : nmV a = nmV b) : a = b := by
  unfold nmV at h
  injection h with h
  exact SX.S_inj h
theorem inV_names {a : List Nat} : ∀ {ls : List (List Nat)}, inV (nmV a) (ls.map nmV) = decide (a ∈ ls)
  | [] => by simp [inV]
  | l :: ls => by
    have ih := inV_names (a := a) (ls := ls)
    unfold inV at ih ⊢
    rw [List.map_cons, List.any_cons, ih]
    by_cases c : l = a
    · subst c
      simp [eqV, nmV]
    · have c2 : ¬ a = l := fun e => c e.symm
      have c3 : (S l == S a) = false := beq_eq_false_iff_ne.mpr fun e => c (SX.S_inj e)
      simp [eqV, nmV, c3, c2]
theorem names_flat (ls : List (List Nat)) : (ls.map nmV).all flatV = true := List.all_eq_true.mpr fun x hx => by
  obtain ⟨z, _, rfl⟩ := List.mem_map.mp hx
  rfl
theorem nameB_put {l : List Nat} (h : nameB l = true) {k c : Nat} (hk : k < l.length) (hc : lowB c = true) : nameB ((l.take k ++ [c]) ++ l.drop (k + 1)) = true := by
  cases l with
  | nil => cases h
  | cons a r =>
    simp only [nameB, Bool.and_eq_true, Nat.ble_eq] at h
    obtain ⟨h1, h2, h3⟩ := h
    have h3 := List.all_eq_true.mp h3
    cases k with
    | zero =>
      simp only [List.take_zero, List.nil_append, List.drop_succ_cons, List.drop_zero, List.singleton_append, nameB, Bool.and_eq_true, Nat.ble_eq]
      exact ⟨hc, h2, List.all_eq_true.mpr h3⟩
    | succ k =>
      simp only [List.take_succ_cons, List.drop_succ_cons, List.cons_append, nameB, Bool.and_eq_true, Nat.ble_eq]
      have hk2 : k < r.length := by
        simp only [List.length_cons] at hk
        omega
      refine ⟨h1, ?_, List.all_eq_true.mpr fun x hx => ?_⟩
      · simp only [List.length_append, List.length_take, List.length_drop, List.length_singleton]
        omega
      · rcases List.mem_append.mp hx with hx | hx
        · rcases List.mem_append.mp hx with hx | hx
          · exact h3 x (List.mem_of_mem_take hx)
          · rw [List.mem_singleton.mp hx]
            unfold signB
            rw [hc]
            rfl
        · exact h3 x (List.mem_of_mem_drop hx)
/-- drawn names, each once -/
structure NamesL (ls : List (List Nat)) : Prop where
  ok : ∀ l ∈ ls, nameB l = true
  nd : ls.Nodup
def spNames : Sp := fun vs H Q _ => ∃ (p : Addr) (m : Nat), vs = [.ref p, .int (m : Int)] ∧ Purse H p ∧ m ≤ 9 ∧ ∀ (ls : List (List Nat)) (L : Addr) (H' : Hp), ls.length = m → NamesL ls → SameB p H H' → Purse H' p → L ≠ p → H L = none → H' L = some (.lst (ls.map nmV)) → Q (.ref L) H'
theorem seqx {a b : TS} {D : Ends} {σ : St} {H : Hp} (Pv : St → Hp → Prop) (hb : ∀ σ' H', Pv σ' H' → b D σ' H') (h : (∀ σ' H', Pv σ' H' → ({ D with nx := b D } : Ends).nx σ' H') → a { D with nx := b D } σ H) : tSeq a b D σ H := h hb
theorem slc_from (t : List Nat) (c : Nat) : Txt.slice (S t) (some (c : Int)) none = S (t.drop c) := by
  have := SX.slice_from (a := t) (i := (c : Int)) (by omega)
  rwa [Int.toNat_natCast] at this
theorem slc_to (t : List Nat) (c : Nat) : Txt.slice (S t) none (some (c : Int)) = S (t.take c) := by
  have := SX.slice_to (a := t) (i := (c : Int)) (by omega)
  rwa [Int.toNat_natCast] at this
theorem slen {l : List Nat} (h : l.length ≤ 1000) : (S l).length ≤ sizeLine := by
  rw [SX.S_len, sizeLine_eq]
  omega
theorem same_pt {H0 H : Hp} {D : Addr} {o : HO} (n : H0 D = none) (s : Same H0 H) : Same H0 (upd H D o) := fun b u e => by rw [upd_ne (ne_of_none e n)]; exact s _ _ e
section
variable {P : Program} {w : World} {K : PySem.W.Frag} {mg : Str → Option Value} {base : Heap} {f : Addr} {fd : FuncData}
theorem c_names (T : Bt mg) (F : FnP K "_law_names" s_names f fd) (hm : mg "_law_names" = some (.ref f)) (k_draw : Cal P w K mg base 1 "_law_draw" spDraw) (k_name : Cal P w K mg base 2 "_law_name" spName) : Cal P w K mg base 3 "_law_names" spNames := by
  have hnd := sc_names.nd
  refine cal_mk F hm sc_names (fun _ _ _ _ _ _ us hl => match us, hl with | [_, _], _ => rfl) (fun vs H Q E h => ?_) (fun cdv A outer s H vs Q E hr h => ?_)
  · obtain ⟨p, m, rfl, _⟩ := h
    rfl
  · obtain ⟨p, m, rfl, hp, hm9, q⟩ := h
    refine ⟨_, (pss_cons (ps_set (i := 2) hnd rfl (by first | exact Or.inl rfl | exact Or.inr rfl) (pe_lst pa_nil))
      (pss_cons (ps_for PassesOwn.never (by rfl) (pi_range1 (by rfl) T.m_range (pa_cons (pv 1) pa_nil)) (pg_name (i := 3) hnd rfl (by first | exact Or.inl rfl | exact Or.inr rfl))
      (pss_cons (ps_par (i := 4) (j := 5) (by rfl) hnd rfl rfl (by decide) (by rfl) (by rfl) (pa_cons (pe_cal k_name hr (by omega) (by rfl) (pa_cons (pv 0) pa_nil)) (pa_cons (pe_cal k_draw hr (by omega) (by rfl) (pa_cons (pv 0) (pa_cons pe_int pa_nil))) pa_nil)) (by rfl))
      (pss_cons (ps_if (PW.pt (pw_and (pt_cmpR op_eq (pv 5) pe_int (nomark _)) (pw_and1 (pt_cmpR op_gt (pv 3) pe_int (nomark _)))))
      (pss_cons (ps_set (i := 4) hnd rfl (by first | exact Or.inl rfl | exact Or.inr rfl) (pe_ix (show IxR _ (rIxL K) from ix_list) (pv 2) (pe_cal k_draw hr (by omega) (by rfl) (pa_cons (pv 0) (pa_cons (pv 3) pa_nil))) (fun _ _ => rfl)))
      (pss_cons (ps_set (i := 6) hnd rfl (by first | exact Or.inl rfl | exact Or.inr rfl) (pe_cal k_draw hr (by omega) (by rfl) (pa_cons (pv 0) (pa_cons (pe_callB call_len_str (by rfl) T.m_len (by decide +kernel) (pa_cons (pv 4) pa_nil)) pa_nil))))
      (pss_one (ps_set (i := 4) hnd rfl (by first | exact Or.inl rfl | exact Or.inr rfl) (pe_op op_add_str (pe_op op_add_str (pe_slice C8.sl_txt (pv 4) po_none (po_some (pv 6))) (pe_ix ix_str pe_str (pe_cal k_draw hr (by omega) (by rfl) (pa_cons (pv 0) (pa_cons pe_int pa_nil))) (fun _ _ => rfl))) (pe_slice C8.sl_txt (pv 4) (po_some (pe_op op_add (pv 6) pe_int)) po_none))))))
      pss_nil)
      (pss_cons (ps_if (pt_cmpR (show OpR _ (compareOp .In) (rIn K false) from op_in_seq) (pv 4) (pv 2) (by rfl))
      (pss_one (ps_set (i := 4) hnd rfl (by first | exact Or.inl rfl | exact Or.inr rfl) (pe_ix (show IxR _ (rIxL K) from ix_list) (pe_lc (own := [("_law_each", 7)]) (by rfl) hnd (pi_list (pe_lst (pa_cons pe_str (pa_cons pe_str (pa_cons pe_str (pa_cons pe_str (pa_cons pe_str (pa_cons pe_str (pa_cons pe_str (pa_cons pe_str (pa_cons pe_str pa_nil))))))))))) (blkOk_by (own := [("_law_each", 7)]) (N := N_names) (sc := defScope s_names) (by decide +kernel)) (fun _ _ _ _ _ => (pg_name (i := 7) hnd rfl (by first | exact Or.inl rfl | exact Or.inr rfl))) (fun _ _ _ _ _ => (pts_one (pt_cmpR (show OpR _ (compareOp .NotIn) (rIn K true) from op_notIn_seq) (pv 7) (pv 2) (by rfl)))) (fun _ _ _ _ _ => (pv 7))) pe_int (fun _ _ => rfl))))
      pss_nil)
      (pss_one (ps_expr (pe_bm PySem.F.plainAttrs_list PySem.F.slot_list_append PySem.F.type_list_append mt_append (pv 2) (pa_cons (pv 4) pa_nil))))))))
      (pss_one (ps_ret (pv 2))))), ?_⟩
    refine ⟨Nat.zero_le _, fun L nL => gname_go ?_⟩
    try dsimp only
    have nLp : L ≠ p := fun z => by
      obtain ⟨st, dg, c, e, r⟩ := hp.ex
      rw [z, e] at nL
      cases nL
    have s0 := same_new (o := .lst []) nL
    have e0 := upd_same (H := H) (a := L) (o := .lst [])
    have u0 := hp.same s0
    have l26 : (Str.ofString "abcdefghijklmnopqrstuvwxyz").length ≤ sizeLine := by
      rw [show (Str.ofString "abcdefghijklmnopqrstuvwxyz").length = 26 by decide +kernel, sizeLine_eq]
      decide
    refine ⟨_, rfl, (m : Int), rfl, by omega, by omega, ?_⟩
    refine for_range (n := ((m : Nat) : Int).toNat) (fun i σ' G => ∃ (ls : List (List Nat)) (x3 x4 x5 x6 : Option V), σ' = [some (.ref p), some (.int (m : Int)), some (.ref L), x3, x4, x5, x6, none] ∧ G L = some (.lst (ls.map nmV)) ∧ ls.length = i ∧ NamesL ls ∧ SameB p H G ∧ Purse G p)
      ⟨[], _, _, _, _, rfl, e0, rfl, ⟨fun l h => (by cases h), List.nodup_nil⟩, SameB.of s0, u0⟩ ?_ ?_
    · rintro i σ' G hi ⟨ls, x3, x4, x5, x6, rfl, eL, ll, nl, sG, uG⟩
      have hi : i < m := by
        rw [Int.toNat_natCast] at hi
        exact hi
      refine gname_go ?_
      try dsimp only
      refine ⟨_, rfl, p, rfl, uG, fun l0 G1 n0 s1 u1 => ⟨_, rfl, p, 3, rfl, u1, by decide, by decide, fun d G2 d0 d1 s2 u2 => ⟨_, _, rfl, ?_⟩⟩⟩
      try dsimp only
      have eL2 := s2 _ _ nLp (s1 _ _ nLp eL)
      have s02 := (sG.trans s1).trans s2
      refine seqx (fun σ2 G' => ∃ (l1 : List Nat) (y6 : Option V), σ2 = [some (.ref p), some (.int (m : Int)), some (.ref L), some (.int (0 + (i : Int))), some (.str (S l1)), some (.int d), y6, none] ∧ nameB l1 = true ∧ G' L = some (.lst (ls.map nmV)) ∧ SameB p H G' ∧ Purse G' p) ?_ fun key1 => ?_
      · rintro σ2 G' ⟨l1, y6, rfl, n1, eL3, s3, u3⟩
        refine seqx (fun σ3 G4 => ∃ (l2 : List Nat) (y6 : Option V), σ3 = [some (.ref p), some (.int (m : Int)), some (.ref L), some (.int (0 + (i : Int))), some (.str (S l2)), some (.int d), y6, none] ∧ nameB l2 = true ∧ l2 ∉ ls ∧ G4 L = some (.lst (ls.map nmV)) ∧ SameB p H G4 ∧ Purse G4 p) ?_ fun key2 => ?_
        · rintro σ3 G4 ⟨l2, y6, rfl, n2, nin, eL4, s4, u4⟩
          refine ⟨_, rfl, .inl ⟨rfl, _, SqL.of eL4⟩, _, rfl, L, _, _, rfl, rfl, eL4, by rw [List.length_map, ll, sizeLine_eq]; omega, ?_⟩
          refine ⟨ls ++ [l2], _, _, _, _, rfl, by rw [upd_same, List.map_append]; rfl, by rw [List.length_append, ll]; rfl, ⟨fun l hl => ?_, ?_⟩, fun b o nb e => ?_, ?_⟩
          · rcases List.mem_append.mp hl with hl | hl
            · exact nl.ok l hl
            · rw [List.mem_singleton.mp hl]
              exact n2
          · refine List.nodup_append.mpr ⟨nl.nd, (List.nodup_cons.mpr ⟨fun h => (by cases h), List.nodup_nil⟩), fun a ha b hb => ?_⟩
            rw [List.mem_singleton.mp hb]
            exact fun e => nin (by rw [← e]; exact ha)
          · rw [upd_ne (ne_of_none e nL)]
            exact s4 b o nb e
          · obtain ⟨st, dg, c, e, r⟩ := u4.ex
            exact ⟨st, dg, c, by rw [upd_ne (Ne.symm nLp)]; exact e, r⟩
        · refine ⟨_, rfl, _, rfl, L, _, rfl, .inl (SqL.of eL3), rfl, names_flat ls, _, rfl, ?_⟩
          rw [if_neg Bool.false_ne_true, show inV (.str (S l1)) (ls.map nmV) = decide (l1 ∈ ls) from inV_names]
          by_cases c : l1 ∈ ls
          · rw [decide_eq_true c]
            refine iteT ?_
            refine ⟨Nat.le_of_ble_eq_true rfl, fun Lb nLb => ⟨Lb, rfl, ⟨_, SqL.of upd_same⟩, fun D nD => ?_⟩⟩
            rw [pool_v] at nD ⊢
            have sb := same_new (o := .lst (poolL.map nmV)) nLb
            have eb := upd_same (H := G') (a := Lb) (o := .lst (poolL.map nmV))
            have eLb := sb _ _ eL3
            have ub := u3.same sb
            have sHb := s3.trans (SameB.of sb)
            generalize upd G' Lb (.lst (poolL.map nmV)) = Gb at sb eb eLb ub sHb nD ⊢
            refine lc_list (xs := poolL.map nmV) (fun j G5 => Same Gb G5 ∧ G5 D = some (.lst (((poolL.take j).filter fun l => decide (l ∉ ls)).map nmV))) ⟨same_new nD, upd_same⟩ (fun j G5 _ y => SqL.of (y.1 _ _ eb)) ?_ ?_
            · rintro j y G5 hj ⟨s5, e5⟩
              have hj' : j < poolL.length := by
                have := (List.getElem?_eq_some_iff.mp hj).1
                rwa [List.length_map] at this
              have hy : y = nmV poolL[j] := by
                rw [List.getElem?_map, List.getElem?_eq_getElem hj'] at hj
                exact (Option.some.inj hj).symm
              subst hy
              have tk : poolL.take (j + 1) = poolL.take j ++ [poolL[j]] := by
                rw [List.take_add_one, List.getElem?_eq_getElem hj']
                rfl
              refine ⟨rfl, _, rfl, _, rfl, L, _, rfl, .inl (SqL.of (s5 _ _ eLb)), rfl, names_flat ls, _, rfl, ?_⟩
              rw [if_pos rfl, inV_names]
              by_cases c2 : poolL[j] ∈ ls
              · rw [decide_eq_true c2]
                refine iteF ⟨s5, ?_⟩
                rw [tk, List.filter_append, List.filter_cons_of_neg (by simpa using c2), List.filter_nil, List.append_nil]
                exact e5
              · rw [decide_eq_false c2]
                refine iteT ⟨_, rfl, _, e5, ?_, same_pt nD s5, ?_⟩
                · rw [List.length_map, sizeLine_eq]
                  have := List.length_filter_le (fun l => decide (l ∉ ls)) (poolL.take j)
                  have h9 : poolL.length = 9 := rfl
                  rw [List.length_take] at this
                  omega
                · rw [upd_same, tk, List.filter_append, List.filter_cons_of_pos (by simpa using c2), List.filter_nil, List.map_append]
                  rfl
            · rintro G5 ⟨s5, e5⟩
              rw [List.length_map, List.take_length] at e5
              obtain ⟨l2, rest, hf⟩ : ∃ l2 rest, poolL.filter (fun l => decide (l ∉ ls)) = l2 :: rest := by
                cases hf : poolL.filter (fun l => decide (l ∉ ls)) with
                | cons a r => exact ⟨a, r, rfl⟩
                | nil =>
                  have all : ∀ x ∈ poolL, x ∈ ls := fun x hx => by
                    by_cases cx : x ∈ ls
                    · exact cx
                    · have := (List.mem_filter (p := fun l => decide (l ∉ ls))).mpr ⟨hx, (decide_eq_true cx : decide (x ∉ ls) = true)⟩
                      rw [hf] at this
                      cases this
                  have := nodup_sub pool_ok.1 all
                  have h9 : poolL.length = 9 := rfl
                  omega
              have hmem : l2 ∈ poolL ∧ decide (l2 ∉ ls) = true := List.mem_filter.mp (by rw [hf]; exact List.mem_cons_self)
              rw [hf] at e5
              refine ⟨D, _, 0, nmV l2, rfl, rfl, SqL.of e5, atI_nat (j := 0) rfl, gname_go (key2 _ _ ⟨l2, _, rfl, pool_ok.2 l2 hmem.1, of_decide_eq_true hmem.2, s5 _ _ eLb, sHb.trans (SameB.of s5), ub.same s5⟩)⟩
          · rw [decide_eq_false c]
            exact iteF (key2 _ _ ⟨l1, _, rfl, n1, c, eL3, s3, u3⟩)
      · refine ⟨_, rfl, rfl, _, rfl, ?_⟩
        by_cases c : d = 0
        · rw [decide_eq_true (show V.int d = V.int 0 by rw [c])]
          refine iteT ⟨_, rfl, _, _, rfl, rfl, _, rfl, ?_⟩
          by_cases c2 : 0 < i
          · rw [decide_eq_true (show (0 : Int) < 0 + (i : Int) by omega)]
            refine iteT ⟨_, rfl, _, rfl, _, rfl, p, _, rfl, u2, by omega, by omega, fun e G3 e0 e1 s3 u3 => ?_⟩
            obtain ⟨k, rfl⟩ := Int.eq_ofNat_of_zero_le e0
            have hk : k < ls.length := by omega
            have eL3 := s3 _ _ nLp eL2
            refine ⟨L, _, _, nmV ls[k], rfl, rfl, SqL.of eL3, atI_nat (by rw [List.getElem?_map, List.getElem?_eq_getElem hk]; rfl), gname_go ?_⟩
            try dsimp only
            have nk := nl.ok _ (List.getElem_mem hk)
            generalize ls[k] = l at nk ⊢
            obtain ⟨k1, k8⟩ := nameB_len nk
            have sl := slen (l := l) (by omega)
            refine ⟨_, rfl, _, rfl, _, rfl, sl, p, _, rfl, u3, by rw [SX.S_len]; omega, by rw [SX.S_len]; omega, fun e G4 f0 f1 s4 u4 => gname_go ?_⟩
            obtain ⟨k2, rfl⟩ := Int.eq_ofNat_of_zero_le f0
            rw [SX.S_len] at f1
            have eL4 := s4 _ _ nLp eL3
            try dsimp only
            refine ⟨_, rfl, _, rfl, _, rfl, S l, rfl, sl, _, rfl, p, 26, rfl, u4, by decide, by decide, fun e G5 g0 g1 s5 u5 => ?_⟩
            obtain ⟨k3, rfl⟩ := Int.eq_ofNat_of_zero_le g0
            have eL5 := s5 _ _ nLp eL4
            refine ⟨_, _, _, rfl, rfl, l26, atI_nat (low_at k3 (by omega)), _, _, rfl, rfl, ?_, _, rfl, _, rfl, _, _, rfl, rfl, _, rfl, S l, rfl, sl, _, _, rfl, rfl, ?_, gname_go ?_⟩
            · rw [slc_to, SX.S_len, List.length_take]
              show _ + 1 ≤ sizeLine
              rw [sizeLine_eq]
              omega
            · rw [slc_to, show (k2 : Int) + 1 = ((k2 + 1 : Nat) : Int) by omega, slc_from, show (S (l.take k2) ++ (⟨#[97 + k3]⟩ : Str)) = S (l.take k2 ++ [97 + k3]) from SX.S_cat .., SX.S_len, SX.S_len, sizeLine_eq]
              simp only [List.length_append, List.length_take, List.length_drop, List.length_singleton]
              omega
            · rw [slc_to, show (k2 : Int) + 1 = ((k2 + 1 : Nat) : Int) by omega, slc_from, show (S (l.take k2) ++ (⟨#[97 + k3]⟩ : Str)) = S (l.take k2 ++ [97 + k3]) from SX.S_cat .., SX.S_cat]
              refine key1 _ _ ⟨(l.take k2 ++ [97 + k3]) ++ l.drop (k2 + 1), _, rfl, nameB_put nk (by omega) ?_, eL5, ((s02.trans s3).trans s4).trans s5, u5⟩
              simp only [lowB, Bool.and_eq_true, Nat.ble_eq]
              omega
          · rw [decide_eq_false (show ¬ (0 : Int) < 0 + (i : Int) by omega)]
            exact iteF (key1 _ _ ⟨l0, _, rfl, n0, eL2, s02, u2⟩)
        · rw [decide_eq_false (show ¬ V.int d = V.int 0 from fun z => c (by injection z))]
          exact iteF (iteF (key1 _ _ ⟨l0, _, rfl, n0, eL2, s02, u2⟩))
    · rintro σ' G ⟨ls, x3, x4, x5, x6, rfl, eL, ll, nl, sG, uG⟩
      rw [Int.toNat_natCast] at ll
      exact ⟨_, rfl, q ls L G ll nl sG uG nLp nL eL⟩
end
end L2.K06
set_option Elab.async false
set_option linter.all false
set_option maxRecDepth 100000
set_option maxHeartbeats 8000000
namespace L2.K06
open PySem PySem.Spec PyProof.Rows L2.Tb
open SX (S)
/-- not a text -/
structure NoS (K : PySem.W.Frag) (H : Hp) (x : V) : Prop where
  ex : ∃ t, TyX K H x t ∧ PySem.W.kitOne K t (.type "str") = some false
theorem str_ty {K : PySem.W.Frag} {H : Hp} {z : Str} : TyX K H (.str z) (.type "str") := .base (.str z)
theorem str_kit {K : PySem.W.Frag} : PySem.W.kitOne K (.type "str") (.type "str") = some true := rfl
theorem iteT2 {c : Bool} {A B : Prop} (hc : c = true) (h : A) : if c = true then A else B := by rw [if_pos hc]; exact h
theorem iteN2 {c : Bool} {A B : Prop} (hc : c = false) (h : B) : if c = true then A else B := by rw [if_neg (by rw [hc]; decide)]; exact h
theorem paired_app {α β : Type} {R : α → β → Prop} : ∀ {xs xs' : List α} {ys ys' : List β}, Paired R xs ys → Paired R xs' ys' → Paired R (xs ++ xs') (ys ++ ys')
  | _, _, _, _, .nil, h => h
  | _, _, _, _, .cons r t, h => .cons r (paired_app t h)
theorem take_at {α : Type} {l : List α} {i : Nat} {x : α} (h : l[i]? = some x) : l.take (i + 1) = l.take i ++ [x] := by rw [List.take_add_one, h]; rfl
theorem drop_at {α : Type} {l : List α} {i : Nat} {x : α} (h : l[i]? = some x) : l.drop i = x :: l.drop (i + 1) := by
  obtain ⟨hi, e⟩ := List.getElem?_eq_some_iff.mp h
  rw [List.drop_eq_getElem_cons hi, e]
theorem pairedNth {α β : Type} {R : α → β → Prop} : ∀ {xs : List α} {ys : List β} {i : Nat} {x : α}, Paired R xs ys → xs[i]? = some x → ∃ y, ys[i]? = some y ∧ R x y
  | _, _, _, _, .nil, h => by cases h
  | _, _, 0, _, .cons h _, e => ⟨_, rfl, by cases e; exact h⟩
  | _, _, i + 1, _, .cons _ t, e => pairedNth (i := i) t e
theorem paired_imp {α β : Type} {R S : α → β → Prop} (h : ∀ a b, R a b → S a b) : ∀ {xs : List α} {ys : List β}, Paired R xs ys → Paired S xs ys
  | _, _, .nil => .nil
  | _, _, .cons r t => .cons (h _ _ r) (paired_imp h t)
abbrev s_is_name : Stmt := top 13
abbrev N_is_name : List Str := ["value", "sign"]
theorem sc_is_name : FnScope N_is_name ["value"] (defScope s_is_name) := ⟨rfl, rfl, rfl, by decide +kernel, rfl, by decide +kernel, by decide +kernel⟩
def lettersS : Str := "abcdefghijklmnopqrstuvwxyz"
def digitsS : Str := "0123456789"
/-- the constants of the checks -/
structure ChF (mg : Str → Option Value) : Prop where
  mL : ∃ t, mg "_LETTERS" = some (.str lettersS t)
  mD : ∃ t, mg "_DIGITS" = some (.str digitsS t)
  mM : ∃ t, mg "_LONGEST_NAME" = some (.int 8 t)
def digB (c : Nat) : Bool := Nat.ble 48 c && Nat.ble c 57
theorem low_in {c : Nat} (h : lowB c = true) : c ∈ lettersS.cps.toList := by
  simp only [lowB, Bool.and_eq_true, Nat.ble_eq] at h
  have e := low_at (c - 97) (by omega)
  rw [show 97 + (c - 97) = c by omega] at e
  exact List.mem_of_getElem? e
theorem dig_at : ∀ k : Nat, k < 10 → digitsS.cps.toList[k]? = some (48 + k) := by decide +kernel
theorem dig_in {c : Nat} (h : digB c = true) : c ∈ digitsS.cps.toList := by
  simp only [digB, Bool.and_eq_true, Nat.ble_eq] at h
  have e := dig_at (c - 48) (by omega)
  rw [show 48 + (c - 48) = c by omega] at e
  exact List.mem_of_getElem? e
theorem low_eq (c : Nat) : decide (c ∈ lettersS.cps.toList) = lowB c := by
  have all : ∀ c ∈ lettersS.cps.toList, lowB c = true := by decide +kernel
  cases h : lowB c with
  | true => exact decide_eq_true (low_in h)
  | false => exact decide_eq_false fun m => by rw [all c m] at h; cases h
theorem dig_eq (c : Nat) : decide (c ∈ digitsS.cps.toList) = digB c := by
  have all : ∀ c ∈ digitsS.cps.toList, digB c = true := by decide +kernel
  cases h : digB c with
  | true => exact decide_eq_true (dig_in h)
  | false => exact decide_eq_false fun m => by rw [all c m] at h; cases h
theorem slenB {l : List Nat} (h : l.length ≤ 100000) : (S l).length ≤ sizeLine := by
  rw [SX.S_len, sizeLine_eq]
  omega
theorem nameB_cons (a : Nat) (r : List Nat) (h : (a :: r).length ≤ 8) : nameB (a :: r) = (lowB a && (a :: r).all signB) := by
  have hr : Nat.ble r.length 7 = true := Nat.ble_eq.mpr (by simp only [List.length_cons] at h; omega)
  rw [nameB, hr, Bool.true_and, List.all_cons]
  cases c : lowB a with
  | true => rw [show signB a = true by unfold signB; rw [c]; rfl, Bool.true_and, Bool.true_and]
  | false => rfl
/-- any text, or what is none -/
def spIsName (K : PySem.W.Frag) : Sp := fun vs H Q _ => ∃ v : V, vs = [v] ∧ ((∃ l : List Nat, v = .str (S l) ∧ l.length ≤ 10000 ∧ ∀ H', Same H H' → Q (.bl (nameB l)) H') ∨ (NoS K H v ∧ Q (.bl false) H))
section
variable {P : Program} {w : World} {K : PySem.W.Frag} {mg : Str → Option Value} {base : Heap} {f : Addr} {fd : FuncData}
theorem ret_go {te : TE} {D : Ends} {σ : St} {H : Hp} (h : te σ H D.rt) : tRet te D σ H := h
theorem and_go {ta tb : TE} {σ : St} {H : Hp} {Q : VK} (h : ta σ H fun x H1 => ∃ c, x = .bl c ∧ if c = true then tb σ H1 Q else Q (.bl false) H1) : tAndV ta tb σ H Q := h
theorem cb_one {r : List V → Hp → VK → Prop} {ta : TE} {σ : St} {H : Hp} {Q : VK} (h : ta σ H fun x H1 => r [x] H1 Q) : tCB r (tCons ta tNil) σ H Q := h
theorem c_is_name (T : Bt mg) (mstr : mg "str" = none) (CF : ChF mg) (F : FnP K "is_name" s_is_name f fd) (hm : mg "is_name" = some (.ref f)) : Cal P w K mg base 1 "is_name" (spIsName K) := by
  have hnd := sc_is_name.nd
  obtain ⟨tl, hl⟩ := CF.mL
  obtain ⟨td, hdg⟩ := CF.mD
  obtain ⟨tm, hmx⟩ := CF.mM
  refine cal_mk F hm sc_is_name (fun _ _ _ _ _ _ us hl => match us, hl with | [_], _ => rfl) (fun vs H Q E h => ?_) (fun cdv A outer s H vs Q E hr h => ?_)
  · obtain ⟨v, rfl, _⟩ := h
    rfl
  · obtain ⟨v, rfl, h⟩ := h
    refine ⟨_, (pss_cons (ps_if (PW.pt (pw_or (pt_not (pt_val (pe_callB call_isi (by rfl) T.m_isinstance (by decide +kernel) (pa_cons (pv 0) (pa_cons (pe_bltn (v := .ty "str") (by rfl) mstr (by decide +kernel) rfl) pa_nil))))) (pw_or1 (pt_not (pt_chain op_le op_le pe_int (pe_callB call_len_str (by rfl) T.m_len (by decide +kernel) (pa_cons (pv 0) pa_nil)) (pe_glob (v := .int 8) (by rfl) hmx ⟨_, rfl⟩))))))
      (pss_one (ps_ret pe_bl))
      pss_nil)
      (pss_one (ps_ret (pe_and (pe_cmpR op_in_sign (pe_ix ix_str (pv 0) pe_int (fun _ _ => rfl)) (pe_glob (v := .str lettersS) (by rfl) hl ⟨_, rfl⟩) (by rfl)) (pe_one (pe_callB (cr_all (by rfl)) (by rfl) T.m_all (by decide +kernel) (pa_cons (pe_lc (own := [("sign", 1)]) (tt := tYes) (by rfl) hnd (pi_str (pv 0)) (blkOk_by (own := [("sign", 1)]) (N := N_is_name) (sc := defScope s_is_name) (by decide +kernel)) (fun _ _ _ _ _ => (pg_name (i := 1) hnd rfl (by first | exact Or.inl rfl | exact Or.inr rfl))) (fun _ _ _ _ _ => pts_nil) (fun _ _ _ _ _ => (pe_or (pe_cmpR op_in_sign (pv 1) (pe_glob (v := .str lettersS) (by rfl) hl ⟨_, rfl⟩) (by rfl)) (pe_one (pe_cmpR op_in_sign (pv 1) (pe_glob (v := .str digitsS) (by rfl) hdg ⟨_, rfl⟩) (by rfl)))))) pa_nil))))))), ?_⟩
    rcases h with ⟨l, rfl, l4, q⟩ | ⟨hb, q⟩
    · have sl := slenB (l := l) (by omega)
      refine ⟨_, rfl, _, _, _, _, _, rfl, .ty _, .base (.str _), (by rfl : PySem.W.kitOne K (.type "str") (.type "str") = some true), _, rfl, iteF ?_⟩
      refine ⟨_, rfl, _, rfl, sl, _, _, rfl, rfl, _, rfl, ?_⟩
      rw [SX.S_len]
      by_cases c1 : 1 ≤ l.length
      · rw [decide_eq_true (show (1 : Int) ≤ (l.length : Nat) by omega)]
        refine iteT ⟨_, _, rfl, rfl, _, rfl, ?_⟩
        show if (!decide (((l.length : Nat) : Int) ≤ 8)) = true then _ else _
        by_cases c8 : l.length ≤ 8
        · rw [decide_eq_true (show ((l.length : Nat) : Int) ≤ 8 by omega)]
          refine iteF ?_
          dsimp only [tNext]
          obtain ⟨a, r, rfl⟩ : ∃ a r, l = a :: r := by
            cases l with
            | nil => exact absurd c1 (by decide)
            | cons a r => exact ⟨a, r, rfl⟩
          refine ret_go ?_
          refine and_go ?_
          refine ⟨_, rfl, S (a :: r), 0, a, rfl, rfl, sl, atI_nat (j := 0) rfl, a, _, rfl, rfl, _, rfl, ?_⟩
          rw [low_eq]
          cases ca : lowB a with
          | false =>
            refine iteF ?_
            have := q H (Same.refl _)
            rw [nameB_cons a r c8, ca] at this
            exact this
          | true =>
            refine iteT (cb_one ⟨_, rfl, S (a :: r), rfl, fun D nD => ?_⟩)
            refine lc_it walk_str (fun i G => Same H G ∧ G D = some (.lst (((a :: r).take i).map fun c => .bl (signB c)))) ⟨same_new nD, upd_same⟩ (fun _ _ _ _ => trivial) ?_ ?_
            · rintro i x G G' hi ⟨sg, eg⟩ ⟨rfl, c, hc, rfl⟩
              have hc' : (a :: r)[i]? = some c := by simpa using hc
              have li : i < (a :: r).length := (List.getElem?_eq_some_iff.mp hc').1
              refine ⟨rfl, ?_⟩
              unfold tYes
              dsimp only
              rw [if_pos rfl]
              have fin : ∃ acc, G' D = some (.lst acc) ∧ acc.length < sizeLine ∧ (Same H (upd G' D (.lst (acc ++ [V.bl (signB c)]))) ∧ upd G' D (.lst (acc ++ [V.bl (signB c)])) D = some (.lst (((a :: r).take (i + 1)).map fun c => .bl (signB c)))) :=
                ⟨_, eg, by rw [List.length_map, List.length_take, sizeLine_eq]; omega, same_pt nD sg, by rw [upd_same, List.take_add_one, hc', List.map_append]; rfl⟩
              refine ⟨_, rfl, c, _, rfl, rfl, _, rfl, ?_⟩
              rw [low_eq]
              cases c1 : lowB c with
              | true =>
                rw [show signB c = true by unfold signB; rw [c1]; rfl] at fin
                exact iteT fin
              | false =>
                rw [show signB c = digB c by unfold signB digB; rw [c1]; rfl] at fin
                refine iteF ⟨_, rfl, c, _, rfl, rfl, ?_⟩
                rw [dig_eq]
                exact fin
            · rintro G ⟨sg, eg⟩
              rw [show (S (a :: r)).cps.size = (a :: r).length from by simp, List.take_length] at eg
              refine ⟨D, (a :: r).map signB, rfl, SqL.of (by rw [eg, List.map_map]; rfl), ?_⟩
              have := q G sg
              rw [nameB_cons a r c8, ca, Bool.true_and] at this
              rw [List.all_map]
              exact this
        · rw [decide_eq_false (show ¬ ((l.length : Nat) : Int) ≤ 8 by omega)]
          refine iteT ?_
          have := q H (Same.refl _)
          rw [show nameB l = false from by
            cases e : nameB l with
            | false => rfl
            | true => exact absurd (nameB_len e).2 c8] at this
          exact this
      · rw [decide_eq_false (show ¬ (1 : Int) ≤ (l.length : Nat) by omega)]
        refine iteF ⟨_, rfl, iteT ?_⟩
        have := q H (Same.refl _)
        rw [show l = [] from List.eq_nil_of_length_eq_zero (by omega)] at this
        exact this
    · obtain ⟨T0, ty, k⟩ := hb.ex
      exact ⟨_, rfl, _, _, _, _, _, rfl, .ty _, ty, k, _, rfl, iteT (iteT q)⟩
end
end L2.K06
set_option Elab.async false
set_option linter.all false
set_option maxRecDepth 100000
set_option maxHeartbeats 4000000
/-! if and for in a generator's body -/
namespace L2.Tb
open PySem PySem.Spec PyProof.Rows
section
variable {X : Cx} {test : Expr} {body orelse : List Stmt} {pos : Pos} {tc : TT} {tb to : TGn}
def tGIf (c : TT) (tb to : TGn) : TGn := fun D ys σ H => c σ H fun b H1 => if b = true then tb D ys σ H1 else to D ys σ H1
theorem gs_if (hc : PT X test tc) (hb : GSs X body tb) (ho : GSs X orelse to) : GS X (.If test body orelse pos) (tGIf tc tb to) := by
  refine ⟨fun A S ip R n ys s₀ c fs K J gd lv s σ H D g hn k hI ht => ?_⟩
  obtain ⟨acc, cc, r, I⟩ := id hI
  show Seg _ _ _ _ _ _ _ (.at pos fun _ => (isTrue test X.env (eval test X.env) >>= fun b => if b then execs body X.env else execs orelse X.env).wrap K J gd lv) _ _
  refine seg_at (seg_bind_wrap ?_)
  rw [g.over]
  refine wpAny_mono (hc.run _ s σ H _ I ht) (fun b s' hb' => ?_) fun x s' hx => k.exc n s₀ x s' hx
  obtain ⟨H2, I2, q2⟩ := hb'
  cases b with
  | true =>
    rw [if_pos rfl] at q2
    exact hb.run A S ip R n ys s₀ c fs K J gd lv s' σ H2 D g hn k ⟨acc, cc, r, I2⟩ q2
  | false =>
    rw [if_neg Bool.false_ne_true] at q2
    exact ho.run A S ip R n ys s₀ c fs K J gd lv s' σ H2 D g hn k ⟨acc, cc, r, I2⟩ q2
end
section
variable {X : Cx} {tg iter : Expr} {body : List Stmt} {pos : Pos} {wi : TI} {gt : TG} {tb : TGn}
def tGFor (wi : TI) (g : TG) (tb : TGn) : TGn := fun D ys σ H => wi σ H fun J H1 => ∃ W : Nat → Nat → List V → St → Hp → Prop, (∃ m, W 0 m ys σ H1) ∧ ∀ i m ys σ H, W i m ys σ H →
  (J.stop i H ∧ D.nx ys σ H) ∨ (J.go i H ∧ ∃ N : List V → St → Hp → Prop, (∀ ys' σ' H', N ys' σ' H' → ∃ m', m' < m ∧ W (i + 1) m' ys' σ' H') ∧ ∀ x H', J.yld i H x H' → g x σ H' fun σ2 H2 => tb { D with nx := N, ct := N, bk := D.nx } ys σ2 H2)
theorem fp_move {S : Addr} {o o' : Obj} {ip : List (Addr × Obj)} {H H' : Hp} {b : Addr} (h : FpOk X ((S, o) :: ip) H b) (n : H' b = none) : FpOk X ((S, o') :: ip) H' b := by
  obtain ⟨_, f1, f2, f3, f4, f5⟩ := h
  refine ⟨n, f1, f2, f3, f4, fun p hp => ?_⟩
  rcases List.mem_append.mp hp with hp | hp
  · exact f5 p (List.mem_append_left _ hp)
  · rcases List.mem_cons.mp hp with rfl | hp
    · exact f5 (S, o) (List.mem_append_right _ List.mem_cons_self)
    · exact f5 p (List.mem_append_right _ (List.mem_cons_of_mem _ hp))
theorem gs_for (hp : PassesOwn (model X.prog X.w) X.A X.env X.xe) (hc : X.calm = true) (hi : PI X tg iter wi) (hg : PG X tg gt) (hb : GSs X body tb) (hs : ∀ x, foldedSetIterable iter X.env x = pure x := by intro _; rfl) : GS X (.For tg iter body [] pos) (tGFor wi gt tb) := by
  refine ⟨fun A S ip R n ys s₀ c fs K J gd lv s σ H D g hn k hI ht => ?_⟩
  obtain ⟨acc0, cc0, r0, I0⟩ := id hI
  show Seg _ _ _ _ _ _ _ (.at pos fun _ => (eval iter X.env >>= fun v => foldedSetIterable iter X.env v >>= fun x => standAt iter.pos >>= fun _ => holding [x] (pyIter x) >>= fun itv => runOwn (.forLoop tg itv body [] X.env) X.env).wrap K J gd lv) _ _
  refine seg_at (seg_bind_wrap ?_)
  rw [g.over]
  refine wpAny_mono (hi.run _ s σ H _ I0 ht) (fun v s1 h1 => ?_) fun x s' hx => k.exc n s₀ x s' hx
  refine seg_bind_wrap ?_
  rw [g.over]
  refine wpAny_of_eq (hs v) ?_
  refine seg_bind_wrap ?_
  rw [g.over]
  refine wpAny_standAt (seg_bind_wrap ?_)
  rw [g.over]
  refine wpAny_holding (wpAny_mono h1 (fun itv s2 h2 => ?_) fun x s' hx => k.exc n s₀ x s' hx)
  obtain ⟨it, fp, tn, Jt, H2, e, I2, T, st2, f2, W, ⟨m0, w0⟩, turn⟩ := h2
  subst e
  refine seg_call fun p => ?_
  have gl := fun (kk : Result → Sem PySem.Fin) => gc_loop (k := kk) (c' := .forLoop tg (.ref it) body [] X.env) (l := lv []) (kp := []) (p := p) g rfl rfl
  have note : ∀ (n : Nat) (s₀ : Shared) (x : Value) (s' : Shared), X.xe x s' → Seg (model X.prog X.w) A R (GY X S) n s₀ (.forLoop tg (.ref it) body [] X.env)
      ((do noteFrame x X.env; theTreesLotGoes x : Sem Unit).bind fun _ => (.raise x : Sem PySem.Fin))
      (.ret (fun r => ((match r with | .ok f => (.pure f : Sem Flow) | .error e => .raise e).onRaise (cameBack X.env)).wrap K J gd lv) none (gd false) (lv []) c p [] :: fs) s' := fun n s₀ x s' hx => by
    rw [Sem.bind_eq_wrap]
    refine seg_wrap ?_
    rw [(gl _).over]
    refine wpAny_bind (wpAny_mono (hp x s' hx) (fun _ s'' hcb => wpAny_theTreesLotGoes ?_) fun y s'' hcb => ?_)
    · exact seg_leaf (.error x) (seg_cameBack g k hcb)
    · exact seg_leaf (.error y) (seg_cameBack g k hcb)
  have loop : ∀ (m n i : Nat) (ys : List V) (s₀ s : Shared) (σ : St) (H : Hp), n + ys.length = sizeLine → W i m ys σ H → GI X S ip ys σ H s → tn i s.heap → (∀ b ∈ fp, H b = none) →
      Seg (model X.prog X.w) A R (GY X S) n s₀ (.forLoop tg (.ref it) body [] X.env) ((model X.prog X.w).den (.forLoop tg (.ref it) body [] X.env))
        (.ret (fun r => ((match r with | .ok f => (.pure f : Sem Flow) | .error e => .raise e).onRaise (cameBack X.env)).wrap K J gd lv) none (gd false) (lv []) c p [] :: fs) s := by
    intro m
    induction m using Nat.strongRecOn with
    | ind m ih =>
      intro n i ys s₀ s3 σ3 H3 hn w3 hI3 st3 fr3
      obtain ⟨acc, cc, r, I3⟩ := hI3
      have stat : ∀ {acc : Array Value} {cc : Nat} {H' : Hp}, (∀ b ∈ fp, H' b = none) → ∀ b ∈ fp, FpOk X ((S, lstObj acc cc) :: ip) H' b := fun hn b hb => fp_move (f2 b hb) (hn b hb)
      show Seg _ _ _ _ _ _ _ ((forTurn tg (.ref it) body [] X.env).onRaise fun x => do noteFrame x X.env; theTreesLotGoes x) _ _
      unfold forTurn
      rw [Sem.onRaise_eq_wrap]
      refine seg_bind_wrap ?_
      rw [(gl _).over]
      refine wpAny_standAt (seg_bind_wrap ?_)
      rw [(gl _).over]
      refine wpAny_onRaise ?_
      rcases turn i m ys σ3 H3 w3 with ⟨stop, qn⟩ | ⟨go, N, hN, step⟩
      · refine wpAny_mono (T.done X rfl rfl rfl hc i _ s3 σ3 H3 X.xe I3 (stat fr3) st3 stop) (fun r4 s4 hr => ?_) fun x s' hx => wpAny_standAt (note n s₀ x s' hx)
        obtain ⟨hr, I4⟩ := hr
        subst hr
        show Seg _ _ _ _ _ _ _ (.pure (.again (.block [] X.env))) _ _
        refine seg_again rfl ?_
        exact seg_leaf (.ok .next) (k.ok n ys s₀ s4 .next hn ⟨σ3, H3, ⟨acc, cc, r, I4⟩, qn⟩)
      · refine wpAny_mono (T.item X rfl rfl rfl hc i _ s3 σ3 H3 X.xe I3 (stat fr3) st3 go) (fun r4 s4 hr => ?_) fun x s' hx => wpAny_standAt (note n s₀ x s' hx)
        obtain ⟨u, hr, h4⟩ := hr
        subst hr
        show Seg _ _ _ _ _ _ _ (((letOwnedTupleGo tg (.ref it) u) >>= fun _ => assign tg X.env u >>= fun _ => execs body X.env >>= fun f => match f with
          | .next | .cont => again (.forLoop tg (.ref it) body [] X.env)
          | .brk => pure (.done .next)
          | .ret v => pure (.done (.ret v))).wrap _ _ _ _) _ _
        refine seg_bind_wrap ?_
        rw [(gl _).over]
        refine wpAny_mono h4 (fun _ s5 h5 => ?_) fun x s' hx => note n s₀ x s' hx
        obtain ⟨x, H5, I5, r5, y5, st5, fr5⟩ := h5
        have I5' := I5.pinned (stat fr5) (T.obj _ _ st5)
        refine seg_bind_wrap ?_
        rw [(gl _).over]
        refine wpAny_mono (hg.run _ s5 σ3 H5 x u _ I5' r5 (step x H5 y5)) (fun _ s6 h6 => ?_) fun x s' hx => note n s₀ x s' hx
        obtain ⟨σ6, H6, I6, q6⟩ := h6
        rw [Sem.bind_eq_wrap', Sem.wrap_wrap]
        have gip : ∀ q ∈ ip ++ pinsAt fp s5.heap, q.1 ≠ S := fun q hq => (List.mem_append.mp hq).elim (g.ip q) fun z y => by
          obtain ⟨hb, _⟩ := of_pinsAt z
          obtain ⟨_, _, _, _, _, f6⟩ := f2 q.1 hb
          exact f6 _ (List.mem_append_right _ List.mem_cons_self) y.symm
        have unp : ∀ {ys' : List V} {σ7 : St} {H7 : Hp} {s7 : Shared}, GI X S (ip ++ pinsAt fp s5.heap) ys' σ7 H7 s7 → GI X S ip ys' σ7 H7 s7 ∧ tn (i + 1) s7.heap ∧ ∀ b ∈ fp, H7 b = none := fun {ys' σ7 H7 s7} ⟨acc7, cc7, r7, I7⟩ =>
          ⟨⟨acc7, cc7, r7, Inv.unpinned (pins := (S, lstObj acc7 cc7) :: ip) I7⟩,
            T.keep _ _ _ st5 fun b hb o e => (I7.pin (b, o) (List.mem_append_right _ (List.mem_cons_of_mem _ (List.mem_append_right _ (mem_pinsAt hb e))))).1, fun b hb => by
              obtain ⟨o, e, d⟩ := T.obj _ _ st5 b hb
              exact (I7.pin (b, o) (List.mem_append_right _ (List.mem_cons_of_mem _ (List.mem_append_right _ (mem_pinsAt hb e))))).2.1⟩
        refine hb.run A S (ip ++ pinsAt fp s5.heap) R n ys s₀ _ _ _ _ _ _ s6 σ6 H6 { D with nx := N, ct := N, bk := D.nx } ⟨g.pn, gip, g.apart, (gl _).over, (gl _).split, (gl _).guard, rfl⟩ hn ⟨fun n' ys' s₀' s7 f hn' hs' => ?_, fun n' s₀' x s7 hx => note n' s₀' x s7 hx⟩ ⟨acc, cc, r, I6⟩ q6
        cases f with
        | next =>
          obtain ⟨σ7, H7, I7, n7⟩ := hs'
          obtain ⟨u1, u2, u3⟩ := unp I7
          obtain ⟨m', hm, w7⟩ := hN ys' σ7 H7 n7
          exact seg_again rfl (ih m' hm n' (i + 1) ys' s₀' s7 σ7 H7 hn' w7 u1 u2 u3)
        | cont =>
          obtain ⟨σ7, H7, I7, n7⟩ := hs'
          obtain ⟨u1, u2, u3⟩ := unp I7
          obtain ⟨m', hm, w7⟩ := hN ys' σ7 H7 n7
          exact seg_again rfl (ih m' hm n' (i + 1) ys' s₀' s7 σ7 H7 hn' w7 u1 u2 u3)
        | brk =>
          obtain ⟨σ7, H7, I7, n7⟩ := hs'
          exact seg_leaf (.ok .next) (k.ok n' ys' s₀' s7 .next hn' ⟨σ7, H7, (unp I7).1, n7⟩)
        | ret v =>
          obtain ⟨x7, σ7, H7, I7, r7, q7⟩ := hs'
          exact seg_leaf (.ok (.ret v)) (k.ok n' ys' s₀' s7 (.ret v) hn' ⟨x7, σ7, H7, (unp I7).1, r7, q7⟩)
  exact loop m0 n 0 ys s₀ s2 σ H2 hn w0 ⟨acc0, cc0, r0, I2⟩ st2 fun b hb => (f2 b hb).1
end
end L2.Tb
set_option Elab.async false
set_option linter.all false
set_option maxRecDepth 100000
set_option maxHeartbeats 4000000
/-! a generator method called with keywords; ~x by an own __invert__; math.lcm -/
namespace L2.Tb
open PySem PySem.Spec PyProof.Rows
def rLcm : List V → Hp → VK → Prop := fun vs H Q => ∃ a b : Nat, vs = [.int (a : Int), .int (b : Int)] ∧ a < 2 ^ 60 ∧ b < 2 ^ 60 ∧ Q (.int ((Nat.lcm a b : Nat) : Int)) H
theorem cr_lcm {X : Cx} : CallR X (.builtin "math.lcm") rLcm := by
  intro pins s σ H vs us Q I r h
  obtain ⟨a, b, rfl, ha, hb, q⟩ := h
  obtain ⟨t, u, rfl⟩ := Vals.int2 r
  exact PySem.W.mc_lcm (by omega) (by omega) fun _ => ⟨.int _, H, I.tok _, ⟨_, rfl⟩, by
    rw [Int.natAbs_natCast, Int.natAbs_natCast]
    exact q⟩
section
variable {X : Cx} {C f : Addr} {fd : FuncData} {ps : List Str} {sp : Sp} {k : Nat}
def rOwnInv (C : Addr) (sp : Sp) : V → Hp → VK → Prop := fun x H Q => ∃ (a dx : Addr) (fs : List (Str × V)), x = .ref a ∧ H a = some (.ins C dx fs) ∧ sp [.ref a] H Q E0
theorem un_ownInv {CX : CXT} (F : FnOk X.prog X.w X.K X.mg X.base CX k f fd ps sp) (hr : Room k X.A) (hs : PySem.W.findIn X.K (.ref C) "__invert__" = some (some (.ref f))) (hf : PySem.W.isFn X.K (.ref f) = true) (hb : Binds X.K fd ps []) (hx : Passes CX X E0) : UnR X (unaryOp .Invert) (rOwnInv C sp) := by
  intro pins s σ H x v Q I rx h
  obtain ⟨a, dx, fs, rfl, ea, h⟩ := h
  obtain rfl : v = Value.ref a := rx
  obtain ⟨mA, O, _⟩ := ins_get I.hok ea
  obtain ⟨od, J, _⟩ := O.look
  obtain ⟨m, hF⟩ := I.fr
  have hl := F.len _ _ _ _ h
  refine PySem.W.ksp_inv hF I.ok.mod.kin J hs hf (wpAny_call (codeAny_mono (F.run X.A X.stack s H ⟨[.ref a], []⟩ [.ref a] [.ref a] _ E0 hr I.env0 (by
    have z := hb s [.ref a] I.kIn (by simpa using hl)
    simpa using z) (.cons rfl .nil) h) fun r s' hq => ?_))
  match r, hq with
  | .error e, hq => exact hx pins σ H s e s' I hq
  | .ok (.ret u), hq => exact I.after hq
end
section
variable {X : Cx} {k : Nat} {f C : Addr} {fd : FuncData} {ps ks : List Str} {sp : SpG} {o : Expr} {m : Str} {apos pos : Pos} {ta : TE} {tk : TA} {kws : List Keyword}
def tMethGK (C : Addr) (m : Str) (sp : SpG) (E : XK) (ta : TE) (tk : TA) : TGen := fun σ H cont => ta σ H fun x H1 => ∃ a dx fs, x = .ref a ∧ H1 a = some (.ins C dx fs) ∧ fs.lookup m = none ∧ tk σ H1 fun zs H2 => sp (.ref a :: zs) H2 cont E
theorem pgen_methK {E : XK} {pl : Sem Bool} (he : PE X o ta) (c : Cls X.K C) (hm : Meth X.K C m f) (F : GFn X.prog X.w X.K X.mg X.base k f fd ps sp) (hr : Room k X.A) (hkw : PK X kws tk) (hl : ps.length = ks.length + 1)
    (hb : ∀ (sh : Shared) (a : Addr) (zs : List Value), zs.length = ks.length → BindsTo sh fd ⟨[.ref a], ks.zip zs⟩ (ps.zip (Value.ref a :: zs)))
    (hall : (backToKw pos (keywordEach kws X.env)).all (·.1.isSome) = true := by rfl) (hks : (backToKw pos (keywordEach kws X.env)).filterMap (·.1) = ks := by rfl)
    (hpl : ((backTo pos (starEach [] X.env)).any (·.1) || (backToKw pos (keywordEach kws X.env)).any (·.1.isNone)) = false := by rfl)
    (ht : eval (.Call (.Attribute o m apos) [] kws pos) X.env = (do
      let ov ← eval o X.env
      standAt apos.atName
      let (f, first) ← holding [ov] (getMethod ov m pl)
      callWith pos f first (backTo pos (starEach [] X.env)) (backToKw pos (keywordEach kws X.env))) := by rfl) :
    PGen X k (.Call (.Attribute o m apos) [] kws pos) (tMethGK C m sp E ta tk) E := by
  refine ⟨fun pins s σ H cont I h => PySem.W.methodCall_KW (pl := pl) (thn (he.run pins s σ H _ I h) fun u s1 hh => ?_) ht⟩
  obtain ⟨x, H1, I1, rx, a, dx, fs, ex, ea, lk, q⟩ := hh
  subst ex
  obtain rfl : u = Value.ref a := rx
  refine getmeth_ok I1 ea c hm lk (PySem.W.callWith_KW0 (h₀ := X.base) (first := [.ref a]) I.ok.mod.kin hm.kp hall (thn (hkw.run pos _ s1 σ H1 _ I1 q) fun ws s2 hh => ?_) hpl)
  obtain ⟨zs, H2, I2, rz, q2⟩ := hh
  refine ⟨I2.kIn, ?_⟩
  rw [hks]
  have hw : ws.length = ks.length := by
    have z := F.len _ _ _ _ q2
    rw [List.length_cons, hl] at z
    rw [← rz.length]
    omega
  refine wpAny_call (codeAny_mono (F.run X.A X.stack s2 H2 ⟨[.ref a], ks.zip ws⟩ (.ref a :: ws) (.ref a :: zs) cont E hr I2.env0 (hb s2 a ws hw) (.cons rfl rz) q2) fun r s3 hq => ?_)
  cases r with
  | error e => exact False.elim hq
  | ok fl =>
    cases fl with
    | ret u => exact ⟨H2, s2, [], I2, .nil, hq⟩
    | next => exact False.elim hq
    | brk => exact False.elim hq
    | cont => exact False.elim hq
end
end L2.Tb
set_option Elab.async false
set_option linter.all false
set_option maxRecDepth 100000
set_option maxHeartbeats 4000000
/-! for i, x in enumerate(t), t a tuple -/
namespace L2.Tb
open PySem PySem.Spec PyProof.Rows
set_option maxHeartbeats 4000000 in
theorem meets_enum_B1 {v : Value} {o : Obj} {H : Heap → Prop} (B : PySem.Begins v o H) :
    Meets (Builtin.«enumerate.__new__» ⟨[.type "enumerate", v], []⟩) (fun _ R s => H s.heap ∧
      R (.ok (.ret (.ref (s.heap.push o).objs.size))) { s with heap := (s.heap.push o).push { cls := .type "enumerate", data := .fields #[.none, .bool false, .ref s.heap.objs.size, rawInt 0, .none, .none] } }) :=
  .of_wp fun prog w A R s h => by
    obtain ⟨hp, g, d, tk, os⟩ := s
    obtain ⟨h1, h2⟩ := h
    have hsub := sub_enumerate
    have itr : ∀ {A' : Around} {E : Value → Shared → Prop} {Q : Value → Shared → Prop}, Q (.ref hp.objs.size) ⟨hp.push o, g, d, tk, os⟩ → wpAny (model prog w) A' (pyIter v) Q E ⟨hp, g, d, tk, os⟩ := fun q => B.iter prog w _ _ ⟨hp, g, d, tk, os⟩ _ h1 q
    wp_walk using itr
    refine wpAny_stack_any fun st => wpAny_pure ?_
    split
    · rename_i c _ _ _ _ _
      cases (c == Value.type "enumerate")
      · wp_walk using itr
        exact ⟨_, rfl, h2⟩
      · wp_walk using itr
        exact ⟨_, rfl, h2⟩
    · wp_walk using itr
      exact ⟨_, rfl, h2⟩
section
variable {prog : Program} {w : World} {A : Around} {E : Value → Shared → Prop} {s : Shared}
theorem enum_B1 {v : Value} {o : Obj} {H : Heap → Prop} {Q : Value → Shared → Prop} (B : PySem.Begins v o H) (h1 : H s.heap)
    (h : ∀ h', IsEnum h' (s.heap.objs.size + 1) s.heap.objs.size 0 .none → h'.get? s.heap.objs.size = some o → h'.objs.size = s.heap.objs.size + 2 →
      (∀ b o, s.heap.get? b = some o → h'.get? b = some o) → Q (.ref (s.heap.objs.size + 1)) { s with heap := h' }) :
    wpAny (model prog w) A (call (.type "enumerate") [v]) Q E s := by
  refine callType_new F.called_enumerate (by decide) (F.typeCall_enumerate_1 _) (F.newCall_enumerate_1 _) (fun obj => F.args_object_init_2 obj _) F.entry_enumerate_new (meets_enum_B1 B) ⟨h1, ?_⟩
  have hz : (s.heap.push o).objs.size = s.heap.objs.size + 1 := Heap.size_push ..
  show _ ∧ _
  rw [hz]
  have he : IsEnum ((s.heap.push o).push { cls := .type "enumerate", data := .fields #[.none, .bool false, .ref s.heap.objs.size, rawInt 0, .none, .none] }) (s.heap.objs.size + 1) s.heap.objs.size 0 .none := by
    have := Heap.get?_push_size (s.heap.push o) (o := { cls := .type "enumerate", data := .fields #[.none, .bool false, .ref s.heap.objs.size, rawInt 0, .none, .none] }) rfl
    rw [hz] at this
    exact this
  exact ⟨⟨_, he, rfl⟩, h _ he (Heap.get?_push_of_some _ (Heap.get?_push_size _ B.free)) (by rw [Heap.size_push, hz]) fun b o x => Heap.get?_push_of_some _ (Heap.get?_push_of_some _ x)⟩
end
/-- the tuple at a, each item in a new pair -/
def IteT (K : PySem.W.Frag) (a : Addr) : It :=
  ⟨fun i H => ∃ (xs : List V) (x : V), SqT K H a xs ∧ xs[i]? = some x, fun i H v H' => ∃ T x, v = .ref T ∧ H T = none ∧ H' = upd H T (.tup [.int (i : Nat), x]) ∧ ∀ xs, SqT K H a xs → xs[i]? = some x, fun i H => ∃ xs : List V, SqT K H a xs ∧ xs.length = i⟩
theorem turn_enumT {P : Program} {w : World} {K : PySem.W.Frag} {elts : List Expr} {kk : Nat} {tpos : Pos} (a e it : Addr) :
    Turn P w K (.Tuple elts kk tpos) (IteT K a) [e, it] e (fun i h => (∃ old, IsEnum h e it ((i : Nat) : Int) old) ∧ h.IsTupleIter it a i ∧ e ≠ it ∧ a ≠ it ∧ a ≠ e) where
  mem := by simp
  obj := fun i h st b hb => by
    obtain ⟨⟨old, he⟩, ⟨o, ho, hc, hd⟩, _⟩ := st
    have e' : b = e ∨ b = it := by simpa using hb
    rcases e' with z | z
    · rw [z]; exact ⟨_, he, fun v q => nomatch q⟩
    · rw [z]; exact ⟨o, ho, fun v q => by rw [hd] at q; cases q⟩
  keep := fun i h h' st k => let ⟨⟨old, he⟩, hi, hne⟩ := st; ⟨⟨old, k e (by simp) _ he⟩, hi.at fun o q => k it (by simp) o q, hne⟩
  item := by
    intro X hP hw hK hc i pins s σ H E I hf st hg
    subst hP hw hK
    obtain ⟨⟨old, he⟩, hit, hne, hai, hae⟩ := st
    obtain ⟨xs, x, hq, hx⟩ := hg
    obtain ⟨its, rv, p, hz⟩ := I.tuple hq
    obtain ⟨u, hu, ru⟩ := rv.get hx
    have hel : e < s.heap.objs.size := Heap.lt_size he
    have hil : it < s.heap.objs.size := by obtain ⟨_, q, _⟩ := hit; exact Heap.lt_size q
    have hlt : i < its.toArray.size := by
      have := (List.getElem?_eq_some_iff.mp hu).1
      simpa using this
    have hed : X.A.in1.handled = none := I.ok.hd hc
    refine wpAny_pyNext_enum_itemD (Draws.tuple hed it a hai its.toArray) he ⟨hit, p⟩ hlt hne (by simp [hne, Ne.symm hae]) fun y h' tk hy ho hs' hT hsz hk => ?_
    obtain ⟨hit', hp'⟩ := hs'
    have hyu : y = u := by
      have : its.toArray[i]? = some u := by simpa using hu
      rw [this] at hy
      exact (Option.some.inj hy).symm
    subst hyu
    refine ⟨_, rfl, wpAny_letOwnedTupleGo_enum (s := { s with heap := h', toks := tk + 1 }) ho fun h'' he' sb => ?_⟩
    have hT2 : h''.get? s.heap.objs.size = some { cls := .type "tuple", data := .seq #[.int i tk, y] } := (sb.2 _ (Nat.ne_of_gt hel)).trans hT
    have new : ObjOk X.prog X.w (upd H s.heap.objs.size (.tup [.int (i : Nat), x])) h'' s.heap.objs.size (.tup [.int (i : Nat), x]) :=
      ⟨by show 2 ≤ sizeLine; decide, [.int i tk, y], .cons ⟨_, rfl⟩ (.cons ru .nil), ⟨_, hT2, rfl, _, rfl⟩⟩
    have I1 : Inv X pins σ (upd H s.heap.objs.size (.tup [.int (i : Nat), x])) { s with heap := h'', toks := tk + 1 } :=
      I.turnedNew (ch := [e, it]) (fun b ob hb q => (sb.2 b (fun z => hb (by simp [z]))).trans (hk b ob (fun z => hb (by simp [z])) (fun z => hb (by simp [z])) q)) hf (Nat.le_refl _) new
    refine ⟨.ref s.heap.objs.size, _, I1, rfl, ⟨_, x, rfl, I.hok.fresh (Nat.le_refl _), rfl, fun ys hy => by rw [I.tuple_inj hy hq]; exact hx⟩, ⟨⟨y, ?_⟩, hit'.at fun o q => (sb.2 it (Ne.symm hne)).trans q, hne, hai, hae⟩, fun b hb => ?_⟩
    · have e1 : ((i + 1 : Nat) : Int) = (i : Int) + 1 := by omega
      rw [e1]; exact he'
    · have hb' : b < s.heap.objs.size := by
        have e' : b = e ∨ b = it := by simpa using hb
        rcases e' with z | z
        · rw [z]; exact hel
        · rw [z]; exact hil
      rw [upd_ne (Nat.ne_of_lt hb')]
      exact (hf b hb).1
  done := by
    intro X hP hw hK hc i pins s σ H E I hf st hg
    subst hP hw hK
    obtain ⟨⟨old, he⟩, hit, hne, hai, hae⟩ := st
    obtain ⟨xs, hq, hx⟩ := hg
    obtain ⟨its, rv, p, hz⟩ := I.tuple hq
    obtain ⟨f0, f1, f2, f3, f4, f5⟩ := hf it (by simp)
    have hl := rv.length
    have hs : i = its.toArray.size := by simp; omega
    have hed : X.A.in1.handled = none := I.ok.hd hc
    have hit2 : s.heap.IsTupleIter it a its.toArray.size := by rw [← hs]; exact hit
    exact wpAny_pyNext_enum_endD (Draws.tuple hed it a hai its.toArray) he ⟨hit2, p⟩ fun h' eb => ⟨rfl, I.turned (t' := s.toks) (fun b o hb q => eb b o hb q) f0 f1 f3 f4 f5⟩
  self := fun A i s Q E st q => by
    obtain ⟨⟨old, he⟩, _⟩ := st
    exact wpAny_pyIter_enum he q
def iEnumT (K : PySem.W.Frag) (ta : TA) : TI := fun σ H R => ta σ H fun vs H1 => ∃ a xs, vs = [.ref a] ∧ SqT K H1 a xs ∧ R (IteT K a) H1
theorem pi_enumT {X : Cx} {e : Expr} {ta : TA} {p pos tpos : Pos} {elts : List Expr} {kk : Nat} (hg : Gl X "enumerate") (hm : X.mg "enumerate" = none) (ha : PA X [e] ta) (hs : starEach [e] X.env = [(false, eval e X.env)] := by rfl) :
    PI X (.Tuple elts kk tpos) (.Call (.Name "enumerate" p) [e] [] pos) (iEnumT X.K ta) := by
  refine ⟨fun pins s σ H R I h => ?_⟩
  refine Call_ (ld_blt I hg hm boot_enumerate (PyProof.Rows.callWith_type1 (thn (ha.run pos pins s σ H _ I h) fun us s1 hh => ?_) hs rfl))
  obtain ⟨vs, H1, I1, r1, a, xs, ex, hq, q⟩ := hh
  subst ex
  cases r1 with
  | cons r rr =>
    cases rr
    cases r
    obtain ⟨its, rv, p', hz⟩ := I1.tuple hq
    have hal : a < s1.heap.objs.size := by obtain ⟨_, q, _⟩ := p'; exact Heap.lt_size q
    refine enum_B1 (PySem.begins_tuple a its.toArray) p' fun h' he hit hsz hk => wpAny_pyIter_enum he ?_
    have I2 : Inv X pins σ H1 { s1 with heap := h' } := I1.kept (t' := s1.toks) hk
    refine ⟨s1.heap.objs.size + 1, [s1.heap.objs.size + 1, s1.heap.objs.size], _, _, H1, rfl, I2, turn_enumT a (s1.heap.objs.size + 1) s1.heap.objs.size, ⟨⟨.none, he⟩, ⟨_, hit, rfl, rfl⟩, Nat.succ_ne_self _, Nat.ne_of_lt hal, Nat.ne_of_lt (Nat.lt_succ_of_lt hal)⟩, fun b hb => ?_, q⟩
    have e' : b = s1.heap.objs.size + 1 ∨ b = s1.heap.objs.size := by simpa using hb
    have hle : s1.heap.objs.size ≤ b := by
      rcases e' with z | z
      · rw [z]; exact Nat.le_add_right _ _
      · rw [z]; exact Nat.le_refl _
    exact I1.fpOk hle (I1.hok.fresh hle)
/-- over the tuple, in a for -/
theorem for_enumT {K : PySem.W.Frag} {a : Addr} {xs : List V} {g : TG} {tb : TS} {D : Ends} {σ : St} {H : Hp} (Pv : Nat → St → Hp → Prop) (h0 : Pv 0 σ H) (hl : ∀ i σ H, i ≤ xs.length → Pv i σ H → SqT K H a xs)
    (hs : ∀ i x σ H T, xs[i]? = some x → Pv i σ H → H T = none → g (.ref T) σ (upd H T (.tup [.int (i : Nat), x])) fun σ2 H2 => tb { D with nx := Pv (i + 1), ct := Pv (i + 1), bk := D.nx } σ2 H2) (hd : ∀ σ H, Pv xs.length σ H → D.nx σ H) :
    ∃ W : Nat → Nat → St → Hp → Prop, (∃ m, W 0 m σ H) ∧ ∀ i m σ H, W i m σ H →
      ((IteT K a).stop i H ∧ D.nx σ H) ∨ ((IteT K a).go i H ∧ ∃ N : St → Hp → Prop, (∀ σ' H', N σ' H' → ∃ m', m' < m ∧ W (i + 1) m' σ' H') ∧ ∀ x H', (IteT K a).yld i H x H' → g x σ H' fun σ2 H2 => tb { D with nx := N, ct := N, bk := D.nx } σ2 H2) := by
  refine ⟨fun i m σ H => m = xs.length - i ∧ i ≤ xs.length ∧ Pv i σ H, ⟨xs.length, by simp, Nat.zero_le _, h0⟩, ?_⟩
  rintro i m σ H ⟨rfl, hi, p⟩
  have q := hl i σ H hi p
  by_cases hlt : i < xs.length
  · refine .inr ⟨⟨xs, xs[i], q, by simp [hlt]⟩, Pv (i + 1), fun σ' H' p' => ⟨xs.length - (i + 1), by omega, rfl, hlt, p'⟩, fun x H' y => ?_⟩
    obtain ⟨T, z, rfl, nT, rfl, hz⟩ := y
    exact hs i z σ H T (hz xs q) p nT
  · have e : i = xs.length := by omega
    subst e
    exact .inl ⟨⟨xs, q, rfl⟩, hd σ H p⟩
end L2.Tb
set_option Elab.async false
set_option linter.all false
set_option maxRecDepth 100000
set_option maxHeartbeats 4000000
/-! a def of the module that may raise, called by its name -/
namespace L2.Tb
open PySem PySem.Spec PyProof.Rows
structure CalX (P : Program) (w : World) (K : PySem.W.Frag) (mg : Str → Option Value) (base : Heap) (k : Nat) (x : Str) (sp : Sp) : Prop where
  ex : ∃ (f : Addr) (fd : FuncData) (ps : List Str), FnOk P w K mg base (L2.CX P w) k f fd ps sp ∧ mg x = some (.ref f) ∧ PySem.W.keepIn K (.ref f) = true ∧ Binds K fd ps []
section
variable {P : Program} {w : World} {K : PySem.W.Frag} {mg : Str → Option Value} {base : Heap} {x : Str} {st : Stmt} {f : Addr} {fd : FuncData} {N ps : List Str} {k : Nat} {sp : Sp}
theorem calX_of (F : FnP K x st f fd) (hm : mg x = some (.ref f)) (hb : ∀ (kV doc pm : Value) (an : Option Addr) (cdv ct : Value) (us : List Value), us.length = ps.length → bindArgs (PySem.W.fnOf x x (defArgs st) (defBody st) (defScope st) .none kV doc pm an cdv ct) ⟨us, []⟩ = pure (ps.zip us))
    (h : FnOk P w K mg base (L2.CX P w) k f fd ps sp) : CalX P w K mg base k x sp := ⟨f, fd, ps, h, hm, F.kp, F.bindsN hb⟩
theorem CalX.imp {sp' : Sp} (c : CalX P w K mg base k x sp) (h : ∀ vs H Q E, sp' vs H Q E → sp vs H Q E) : CalX P w K mg base k x sp' := by
  obtain ⟨f, fd, ps, F, a, b, d⟩ := c.ex
  exact ⟨f, fd, ps, F.imp h, a, b, d⟩
end
section
variable {X : Cx} {k j : Nat} {x : Str} {sp : Sp} {p pos : Pos} {e : Expr} {es : List Expr} {t : TA} {E : XK}
theorem pe_calX (c : CalX X.prog X.w X.K X.mg X.base k x sp) (hr : Room j X.A) (hk : k ≤ j) (hg : Gl X x) (hx : Passes (L2.CX X.prog X.w) X E) (ha : PA X (e :: es) t)
    (hdb : (x == ("__debug__" : Str)) = false := by decide) (he : starEach (e :: es) X.env = (false, eval e X.env) :: starEach es X.env := by rfl) (hpl : (backTo pos (starEach es X.env)).any (·.1) = false := by rfl) :
    PE X (.Call (.Name x p) (e :: es) [] pos) (tCall sp [] E t) := by
  obtain ⟨f, fd, ps, F, hm, kp, b⟩ := c.ex
  exact pe_call F (hr.mono hk) hg hm kp b .nil hx ha hdb he hpl
end
/-- not there before -/
theorem none_back {H H1 : Hp} {a : Addr} (s : Same H H1) (h : H1 a = none) : H a = none := by
  cases e : H a with
  | none => rfl
  | some o =>
    rw [s _ _ e] at h
    cases h
theorem sqt_keep {K : PySem.W.Frag} {H H' : Hp} {a : Addr} {xs : List V} (h : SqT K H a xs) (s : Same H H') : SqT K H' a xs := by
  rcases h with (h | ⟨o, h⟩) | h
  · exact .inl (.inl (s _ _ h))
  · exact .inl (.inr ⟨o, s _ _ h⟩)
  · exact .inr h
end L2.Tb
set_option Elab.async false
set_option linter.all false
set_option maxRecDepth 100000
set_option maxHeartbeats 4000000
/-! len(x) by an own __len__; the truth of x by an own __len__ or __bool__ -/
namespace L2.Tb
open PySem PySem.Spec PyProof.Rows
section
variable {prog : Program} {w : World} {A : Around} {E : Value → Shared → Prop} {s : Shared} {K : PySem.W.Frag} {x C f : Addr} {ox : Obj} {od : Option Obj}
theorem lenO_body {Q : Value → Shared → Prop} (X : K.In s.heap) (I : PySem.W.InstAt s.heap x ox C od) (hs : PySem.W.findIn K (.ref C) "__len__" = some (some (.ref f))) (hf : PySem.W.isFn K (.ref f) = true)
    (h : wpAny (model prog w) A (call (.ref f) [.ref x]) (PySem.W.LenBack Q) E s) : wpAny (model prog w) A (Builtin.«len» ⟨[.ref x], []⟩) (fun fin s' => ∃ r, fin = .done (.ret r) ∧ Q r s') E s := by
  unfold Builtin.«len»
  refine wpAny_bind (m := oneArg "len" _) (wpAny_pure ?_)
  refine wpAny_bind (m := callSpecial? (.ref x) (Str.ofString "__len__")) (PySem.W.special_fn X I hs (beq_iff_eq.mp hf) (wpAny_mono h (fun r s' hr => ?_) fun _ _ y => y))
  cases r <;> first | exact hr.elim | skip
  rename_i n u
  obtain ⟨⟨h0, h1⟩, hq⟩ := hr
  refine wpAny_bind (wpAny_holding (wpAny_pure ?_))
  refine wpAny_bind (wpAny_letGo ?_)
  show wpAny _ _ (if n < 0 then _ else _) _ _ _
  rw [if_neg (by omega)]
  show wpAny _ _ (if n ≥ 2 ^ 63 then _ else _) _ _ _
  rw [if_neg (by omega)]
  exact wpAny_bind (wpAny_mkInt (wpAny_pure ⟨_, rfl, hq⟩))
theorem lenO_truthy {Q : Bool → Shared → Prop} (X : K.In s.heap) (I : PySem.W.InstAt s.heap x ox C od) (hs : PySem.W.findIn K (.ref C) "__len__" = some (some (.ref f))) (hb : PySem.W.findIn K (.ref C) "__bool__" = some none) (hf : PySem.W.isFn K (.ref f) = true)
    (h : wpAny (model prog w) A.in1 (call (.ref f) [.ref x]) (PySem.W.LenBack fun r s' => ∃ n t, r = .int n t ∧ Q (n != 0) s') E s) : wpAny (model prog w) A (truthy (.ref x)) Q E s := by
  have key : wpAny (model prog w) A (runValue (.builtin "len" ⟨[.ref x], []⟩)) (fun r s' => ∃ n t, r = .int n t ∧ Q (n != 0) s') E s := by
    refine wpAny_runValue (codeAny_builtin entry_len ?_)
    rw [Around.under_plainId plain_len _]
    exact wpAny_mono (lenO_body X I hs hf h) (fun fin s' h' => by obtain ⟨r, rfl, hq⟩ := h'; exact hq) fun _ _ e => e
  have hsp : ∀ {Q' : Option Value → Shared → Prop}, Q' (some (.ref f)) s → wpAny (model prog w) A (specialOf (.ref x) "__len__") Q' E s := fun q => by
    unfold specialOf
    exact wpAny_bind (I.type.here ((PySem.W.looks_findIn X hs).here q))
  unfold truthy
  refine wpAny_bind (m := callSpecial? (.ref x) (Str.ofString "__bool__")) (wpAny_bind (wpAny_bind (I.type.here ((PySem.W.looks_findIn X hb).here (wpAny_pure ?_)))))
  refine wpAny_bind (hsp ?_)
  show wpAny _ _ (if (some (Value.ref f)).isNone = true then _ else _) _ _ _
  rw [if_neg (by simp)]
  exact wpAny_bind (wpAny_mono key (fun r s' h' => by obtain ⟨n, t, rfl, hq⟩ := h'; exact wpAny_pure hq) fun _ _ e => e)
end
section
variable {X : Cx} {C f : Addr} {fd : FuncData} {ps : List Str} {sp : Sp} {k : Nat}
def rLenOwn (C : Addr) (sp : Sp) : List V → Hp → VK → Prop := fun xs H Q => ∃ (a dx : Addr) (fs : List (Str × V)), xs = [.ref a] ∧ H a = some (.ins C dx fs) ∧ sp [.ref a] H (fun v H' => ∃ n : Int, v = .int n ∧ 0 ≤ n ∧ n < 2 ^ 63 ∧ Q (.int n) H') E0
theorem call_lenOwn (F : FnOk X.prog X.w X.K X.mg X.base L2.CX0 k f fd ps sp) (hr : Room (k + 1) X.A) (hs : PySem.W.findIn X.K (.ref C) "__len__" = some (some (.ref f))) (hf : PySem.W.isFn X.K (.ref f) = true) (hb : Binds X.K fd ps []) : CallR X (.builtin "len") (rLenOwn C sp) := by
  intro pins s σ H xs us Q I r h
  obtain ⟨a, dx, fs, rfl, ea, h⟩ := h
  rw [Vals.ref1 r]
  obtain ⟨mA, O, _⟩ := ins_get I.hok ea
  obtain ⟨od, J, _⟩ := O.look
  obtain ⟨m, hF⟩ := I.fr
  have hl := F.len _ _ _ _ h
  refine PySem.W.len_K hF I.ok.mod.kin J hs hf (wpAny_call (codeAny_mono (F.run X.A.in1 X.stack s H ⟨[.ref a], []⟩ [.ref a] [.ref a] _ E0 hr.in1 I.env0.in1 (by
    have z := hb s [.ref a] I.kIn (by simpa using hl)
    simpa using z) (.cons rfl .nil) h) fun r s' hq => ?_))
  match r, hq with
  | .error e, hq => exact hq.elim
  | .ok (.ret u), hq =>
    obtain ⟨v, H', I', rv, n, ev, h0, h1, q⟩ := I.after hq
    rw [ev] at rv
    obtain ⟨t, rfl⟩ := (show ∃ t, u = Value.int n t from rv)
    exact ⟨⟨h0, h1⟩, .int n, H', I'.tok _, ⟨_, rfl⟩, q⟩
def rTruLen (C : Addr) (sp : Sp) : V → Hp → (Bool → Hp → Prop) → Prop := fun x H Q => ∃ (a dx : Addr) (fs : List (Str × V)), x = .ref a ∧ H a = some (.ins C dx fs) ∧ sp [.ref a] H (fun v H' => ∃ n : Int, v = .int n ∧ 0 ≤ n ∧ n < 2 ^ 63 ∧ Q (n != 0) H') E0
theorem tru_lenOwn (F : FnOk X.prog X.w X.K X.mg X.base L2.CX0 k f fd ps sp) (hr : Room (k + 1) X.A) (hs : PySem.W.findIn X.K (.ref C) "__len__" = some (some (.ref f))) (hbo : PySem.W.findIn X.K (.ref C) "__bool__" = some none) (hf : PySem.W.isFn X.K (.ref f) = true) (hb : Binds X.K fd ps []) : TruR X (rTruLen C sp) := by
  intro pins s σ H x v Q I r h
  obtain ⟨a, dx, fs, rfl, ea, h⟩ := h
  obtain rfl : v = Value.ref a := r
  obtain ⟨mA, O, _⟩ := ins_get I.hok ea
  obtain ⟨od, J, _⟩ := O.look
  have hl := F.len _ _ _ _ h
  refine lenO_truthy I.kIn J hs hbo hf (wpAny_call (codeAny_mono (F.run X.A.in1 X.stack s H ⟨[.ref a], []⟩ [.ref a] [.ref a] _ E0 hr.in1 I.env0.in1 (by
    have z := hb s [.ref a] I.kIn (by simpa using hl)
    simpa using z) (.cons rfl .nil) h) fun r s' hq => ?_))
  match r, hq with
  | .error e, hq => exact hq.elim
  | .ok (.ret u), hq =>
    obtain ⟨v, H', I', rv, n, ev, h0, h1, q⟩ := I.after hq
    rw [ev] at rv
    obtain ⟨t, rfl⟩ := (show ∃ t, u = Value.int n t from rv)
    exact ⟨⟨h0, h1⟩, n, _, rfl, H', I'.tok _, q⟩
def rTruBool (C : Addr) (sp : Sp) : V → Hp → (Bool → Hp → Prop) → Prop := fun x H Q => ∃ (a dx : Addr) (fs : List (Str × V)), x = .ref a ∧ H a = some (.ins C dx fs) ∧ sp [.ref a] H (fun v H' => ∃ b, v = .bl b ∧ Q b H') E0
theorem tru_boolOwn (F : FnOk X.prog X.w X.K X.mg X.base L2.CX0 k f fd ps sp) (hr : Room k X.A) (hs : PySem.W.findIn X.K (.ref C) "__bool__" = some (some (.ref f))) (hf : PySem.W.isFn X.K (.ref f) = true) (hb : Binds X.K fd ps []) : TruR X (rTruBool C sp) := by
  intro pins s σ H x v Q I r h
  obtain ⟨a, dx, fs, rfl, ea, h⟩ := h
  obtain rfl : v = Value.ref a := r
  obtain ⟨mA, O, _⟩ := ins_get I.hok ea
  obtain ⟨od, J, _⟩ := O.look
  obtain ⟨m, hF⟩ := I.fr
  have hl := F.len _ _ _ _ h
  refine PySem.W.truthy_K hF I.ok.mod.kin J hs hf (wpAny_call (codeAny_mono (F.run X.A X.stack s H ⟨[.ref a], []⟩ [.ref a] [.ref a] _ E0 hr I.env0 (by
    have z := hb s [.ref a] I.kIn (by simpa using hl)
    simpa using z) (.cons rfl .nil) h) fun r s' hq => ?_))
  match r, hq with
  | .error e, hq => exact hq.elim
  | .ok (.ret u), hq =>
    obtain ⟨v, H', I', rv, b, ev, q⟩ := I.after hq
    rw [ev] at rv
    obtain rfl : u = Value.bool b := rv
    exact ⟨H', I', q⟩
/-- not x, by a rule for the truth -/
theorem pe_notR {a : Expr} {ta : TE} {r : V → Hp → (Bool → Hp → Prop) → Prop} {pos : Pos} (ha : PE X a ta) (hr : TruR X r) : PE X (.UnaryOp .Not a pos) (fun σ H Q => ta σ H fun x H' => r x H' fun b H2 => Q (.bl (!b)) H2) := by
  refine ⟨fun pins s σ H Q I h => ?_⟩
  refine UnaryOp_ (thn (ha.run pins s σ H _ I h) fun v s1 ⟨x, H1, I1, r1, q1⟩ => ?_)
  exact not_of (thn (hr pins s1 σ H1 x v _ I1 r1 q1) fun c s2 ⟨H2, I2, q2⟩ => ⟨.bl (!c), H2, I2, rfl, q2⟩)
end
end L2.Tb
set_option Elab.async false
set_option linter.all false
set_option maxRecDepth 100000
set_option maxHeartbeats 4000000
/-! sorted(xs), xs a list of tuples (or of lists) of ints, each of any length -/
namespace L2.Tb
open PySem PySem.Spec PyProof.Rows PySem.W
theorem eachMap {α β : Type} {R : α → β → Prop} (f : β → α) : ∀ ks : List β, (∀ p ∈ ks, R (f p) p) → EachIs R (ks.map f) ks
  | [], _ => .nil
  | k :: ks, h => .cons (h k List.mem_cons_self) (eachMap f ks fun p hp => h p (List.mem_cons_of_mem _ hp))
theorem eachMap_back {α β : Type} {f : β → α} : ∀ {l : List α} {ks : List β}, EachIs (fun v p => v = f p) l ks → l = ks.map f
  | _, _, .nil => rfl
  | _, _, .cons h t => by rw [List.map_cons, ← eachMap_back t, h]
theorem readsAll_ints_of {h : Heap} : ∀ {vs : List Value} {ns : List Int}, IntsAre vs ns → ReadsAll h vs (ns.map .int) []
  | _, _, .nil => .nil
  | _, _, .cons n t r => .cons (as := []) (.int n t) (readsAll_ints_of r)
theorem readsAll_vals {h : Heap} : ∀ {ns : List Int} {vs : List Value}, Vals (ns.map V.int) vs → ReadsAll h vs (ns.map .int) []
  | [], _, r => by
    cases r
    exact .nil
  | n :: ns, _, r => by
    cases r with
    | cons a b =>
      obtain ⟨t, rfl⟩ := a
      exact .cons (as := []) (.int n t) (readsAll_vals b)
theorem alike_tup (xs ys : List Int) : alike (.tuple (xs.map .int)) (.tuple (ys.map .int)) = true := by
  simpa [alike] using alike_ints xs ys
theorem alike_lst (xs ys : List Int) : alike (.list (xs.map .int)) (.list (ys.map .int)) = true := by
  simpa [alike] using alike_ints xs ys
theorem dataLe_tups {β : Type} (x : β → List Int) : dataLe false (fun b => .tuple ((x b).map .int)) = fun p q => decide (x p ≤ x q) := by
  rw [← dataLe_rows]
  funext p q
  show (!dataLt (.tuple _) (.tuple _)) = (!dataLt (.list _) (.list _))
  rw [dataLt_list, dataLt_tuple]
section
variable {P : Program} {w : World} {A : Around} {s : Shared}
/-- all tuples, some may be empty: at most one -/
theorem sortsAt_one {vs : List Value} {ds : List PyData} (e : EachIs (fun v d => ∃ as, Reads s.heap v d as) vs ds) (hal : AllAlike ds) (ht : ∀ d ∈ ds, ∃ xs, d = .tuple xs) (one : vs.length ≤ 1) (hu : ∀ d, d ∈ ds → A.units + d.depth < cLine) : SortsAt P w A s (dataKind s.heap ds) vs := by
  have room : ∀ {d d' : PyData}, d ∈ ds → A.units + min d.depth d'.depth < cLine := fun {d d'} hd => Nat.lt_of_le_of_lt (Nat.add_le_add_left (Nat.min_le_left _ _) _) (hu d hd)
  refine ⟨fun v hv => ?_, tuples' false, ?_, fun h2 => absurd h2 (by omega)⟩
  · obtain ⟨d, hd, as, r⟩ := e.left v hv
    exact ⟨_, dataKind_some hal hd r⟩
  · intro E x y a b Q ha hb hq
    obtain ⟨d, as, hd, ra, rfl⟩ := dataKind_inv ha
    obtain ⟨d', as', hd', rb, rfl⟩ := dataKind_inv hb
    have hdd := hal d hd d' hd'
    have hroom := room (d' := d') hd
    obtain ⟨r1, rfl⟩ := ht d hd
    obtain ⟨r2, rfl⟩ := ht d' hd'
    have hq' : Q (dataLt (.tuple r1) (.tuple r2)) s := hq
    rw [dataLt_tuple] at hq'
    cases ra with
    | @tuple l o xs n _ _ h1 h2 h3 h4 =>
      cases rb with
      | @tuple l' o' xs' n' _ _ k1 k2 k3 k4 =>
        have n1 : xs.size = r1.length := by simpa using SeqAt.ReadsAll.length _ _ _ h4
        have n2 : xs'.size = r2.length := by simpa using SeqAt.ReadsAll.length _ _ _ k4
        refine kat_lt h1 h3 k1 k3 (katLex_alike r1 r2 0 _ _ _ _ h4 k4 (by simpa [alike] using hdd) (by have q := SeqAt.room_in hroom; omega) (fun hb => by cases hb) (by rw [n1, n2]) hq')
end
theorem depth_tup (xs : List Int) : (PyData.tuple (xs.map .int)).depth = 1 := by
  have := depth_ints xs
  simp [PyData.depth, this]
theorem depth_lst (xs : List Int) : (PyData.list (xs.map .int)).depth = 1 := by
  have := depth_ints xs
  simp [PyData.depth, this]
/-- by the lists' order -/
def byLe {α : Type} (p q : α × List Int) : Bool := decide (p.2 ≤ q.2)
def rSortR (K : PySem.W.Frag) : List V → Hp → VK → Prop := fun vs H Q => ∃ (a : Addr) (ks : List (Addr × List Int)), vs = [.ref a] ∧ SqL K H a (ks.map fun p => V.ref p.1) ∧ ks.length ≤ sizeLine ∧
  (((∀ p ∈ ks, SqT K H p.1 (p.2.map V.int)) ∧ (ks.length ≤ 1 ∨ ∀ p ∈ ks, p.2 ≠ [])) ∨ ∀ p ∈ ks, SqL K H p.1 (p.2.map V.int)) ∧
  ∀ (p : Addr), H p = none → Q (.ref p) (upd H p (.lst ((ks.mergeSort byLe).map fun q => V.ref q.1)))
theorem cr_sortR {X : Cx} (hu : X.A.units + 64 < cLine) : CallR X (.builtin "sorted") (rSortR X.K) := by
  intro pins s σ H vs us Q I r h
  obtain ⟨a, ks, rfl, hs, few, tp, q⟩ := h
  obtain ⟨its, rv, pl, _⟩ := I.list hs
  rw [Vals.ref1 r]
  have ei : its = ks.map fun p => Value.ref p.1 := refs_of_vals rv
  have fin : ∀ out : List Value, EachIs (fun v (p : Addr × List Int) => v = Value.ref p.1) out (ks.mergeSort byLe) → ∃ (v : V) (H' : Hp), Inv X pins σ H' { s with heap := sortedAll s.heap its out.toArray } ∧ RelV v (Value.ref (s.heap.objs.size + 1)) ∧ Q v H' := fun out e => by
    have e := eachMap_back e
    obtain ⟨ep, at_⟩ := PyProof.Rows.sortedAll_at s.heap its out.toArray
    refine ⟨.ref _, upd H (s.heap.objs.size + 1) (.lst ((ks.mergeSort byLe).map fun q => V.ref q.1)), I.laid (t' := s.toks) (fun _ _ => PyProof.Rows.sortedAll_old) (Nat.le_succ _) ⟨?_, out, ep, ?_, at_⟩, rfl, q _ (I.hok.fresh (Nat.le_succ _))⟩
    · rw [List.length_map, List.length_mergeSort]
      exact few
    · rw [e]
      exact vals_of_refs _
  have lk : ks.length ≤ sizeLine := few
  rcases tp with ⟨tp, ne⟩ | tp
  · have rd : ∀ p ∈ ks, ∃ as, Reads s.heap (.ref p.1) (.tuple (p.2.map .int)) as := fun p hp => by
      obtain ⟨b, items, e, ⟨ob, g1, g2, m, g3⟩, ia⟩ := tupI_raw I (tp p hp)
      injection e with e
      subst e
      exact ⟨_, .tuple g1 g2 g3 (readsAll_ints_of ia)⟩
    rcases ne with one | ne
    · have er : EachIs (fun v (b : Addr × List Int) => ∃ as, Reads (sortingHeap (copyHeap s.heap its) (s.heap.objs.size + 1) its) v (.tuple (b.2.map .int)) as) its ks := by
        rw [ei]
        refine eachMap _ ks fun p hp => ?_
        obtain ⟨as, z⟩ := rd p hp
        exact ⟨as, PyProof.Rows.Reads.keeps (fun _ _ => sorting_copy_old) z⟩
      have hal : AllAlike (ks.map fun b : Addr × List Int => PyData.tuple (b.2.map .int)) := AllAlike.of fun b b' => alike_tup b.2 b'.2
      refine sorted_vals (κ := dataKind (sortingHeap (copyHeap s.heap its) (s.heap.objs.size + 1) its) (ks.map fun b => PyData.tuple (b.2.map .int))) pl.isList (sortsAt_one (s := { s with heap := sortingHeap (copyHeap s.heap its) (s.heap.objs.size + 1) its }) (each_map (R := fun v d => ∃ as, Reads (sortingHeap (copyHeap s.heap its) (s.heap.objs.size + 1) its) v d as) (fun b : Addr × List Int => PyData.tuple (b.2.map .int)) er) hal (fun d hd => ?_) (by rw [ei, List.length_map]; exact one) fun d hd => ?_) (by rw [ei, List.length_map]; exact lk) (fin _ ?_)
      · obtain ⟨p, _, rfl⟩ := List.mem_map.mp hd
        exact ⟨_, rfl⟩
      · obtain ⟨p, _, rfl⟩ := List.mem_map.mp hd
        rw [depth_tup]
        show X.A.units + 1 + 1 + 1 < _
        omega
      · have z := sortVals_data (R := fun v (p : Addr × List Int) => v = Value.ref p.1) (enc := fun b : Addr × List Int => PyData.tuple (b.2.map .int)) false (by rw [ei]; exact eachMap _ ks fun _ _ => rfl) er hal
        rw [dataLe_tups] at z
        exact z
    · refine sorted_data (R := fun v (p : Addr × List Int) => v = Value.ref p.1) (bs := ks) (enc := fun b => PyData.tuple (b.2.map .int)) pl.isList (by rw [ei]; exact eachMap _ ks fun _ _ => rfl) (by rw [ei]; exact eachMap _ ks rd) (AllAlike.of fun b b' => alike_tup b.2 b'.2) (.inl fun d hd => ?_) lk (fun b _ => by rw [depth_tup]; omega) fun out _ e => ?_
      · obtain ⟨p, hp, rfl⟩ := List.mem_map.mp hd
        cases e : p.2 with
        | nil => exact absurd e (ne p hp)
        | cons x r => exact ⟨.int x, r.map .int, rfl⟩
      · rw [dataLe_tups] at e
        exact fin out e
  · have rd : ∀ p ∈ ks, ∃ as, Reads s.heap (.ref p.1) (.list (p.2.map .int)) as := fun p hp => by
      obtain ⟨its2, rv2, pl2, _⟩ := I.list (tp p hp)
      obtain ⟨o, g1, g2, m, g3⟩ := pl2.isList
      exact ⟨_, .list g1 g2 g3 (readsAll_vals rv2)⟩
    refine sorted_data (R := fun v (p : Addr × List Int) => v = Value.ref p.1) (bs := ks) (enc := fun b => PyData.list (b.2.map .int)) pl.isList (by rw [ei]; exact eachMap _ ks fun _ _ => rfl) (by rw [ei]; exact eachMap _ ks rd) (AllAlike.of fun b b' => alike_lst b.2 b'.2) (.inr fun d hd => ?_) lk (fun b _ => by rw [depth_lst]; omega) fun out _ e => ?_
    · obtain ⟨p, _, rfl⟩ := List.mem_map.mp hd
      exact ⟨nofun, nofun⟩
    · rw [dataLe_rows] at e
      exact fin out e
end L2.Tb
set_option Elab.async false
set_option linter.all false
set_option maxRecDepth 100000
set_option maxHeartbeats 4000000
/-! {x} in an f-string, x an instance with an own __str__; x in t, t a tuple of instances with an own __eq__; sorted of tuples (int, text) -/
namespace L2.Tb
open PySem PySem.Spec PyProof.Rows
theorem refs_of_valsG {α : Type} {g : α → Addr} : ∀ {ks : List α} {us : List Value}, Vals (ks.map fun p => V.ref (g p)) us → us = ks.map fun p => Value.ref (g p)
  | [], _, h => by cases h; rfl
  | k :: ks, _, h => by
    cases h with
    | @cons _ v _ _ r t =>
      obtain rfl : v = Value.ref (g k) := r
      rw [refs_of_valsG t]
      rfl
theorem vals_of_refsG {α : Type} (g : α → Addr) : ∀ ks : List α, Vals (ks.map fun p => V.ref (g p)) (ks.map fun p => Value.ref (g p))
  | [] => .nil
  | _ :: ks => .cons rfl (vals_of_refsG g ks)
section
variable {X : Cx} {C f : Addr} {fd : FuncData} {ps : List Str} {sp : Sp} {k : Nat}
def tFmtOwn (C : Addr) (sp : Sp) (te : TE) : TE := fun σ H Q => te σ H fun x H1 => ∃ (a dx : Addr) (fs : List (Str × V)), x = .ref a ∧ H1 a = some (.ins C dx fs) ∧ sp [.ref a] H1 (fun v H' => ∃ z, v = .str z ∧ Q (.str z) H') E0
theorem pe_fmtOwn {e : Expr} {te : TE} {pos : Pos} (F : FnOk X.prog X.w X.K X.mg X.base L2.CX0 k f fd ps sp) (hr : Room (k + 1) X.A) (hfm : PySem.W.findIn X.K (.ref C) "__format__" = some (some (.builtin "object.__format__"))) (hm : PySem.W.mroIn X.K C (.type "object") = some true)
    (hs : PySem.W.findIn X.K (.ref C) "__str__" = some (some (.ref f))) (hf : PySem.W.isFn X.K (.ref f) = true) (hb : Binds X.K fd ps []) (he : PE X e te) : PE X (.FormattedValue e (-1) none pos) (tFmtOwn C sp te) := by
  refine ⟨fun pins s σ H Q I h => ?_⟩
  refine wpAny_FormattedValue_plain (thn (he.run pins s σ H _ I h) fun v s1 hv => ?_)
  obtain ⟨x, H1, I1, r1, a, dx, fs, rfl, ea, h⟩ := hv
  obtain rfl : v = Value.ref a := r1
  have I2 : Inv X pins σ H1 { s1 with toks := s1.toks + 1 } := I1.tok _
  obtain ⟨mA, O, _⟩ := ins_get I1.hok ea
  obtain ⟨od, J, _⟩ := O.look
  have hl := F.len _ _ _ _ h
  refine PySem.W.kfo_fieldS (hr.in1.units0) I1.kIn J hfm hm hs hf (wpAny_call (codeAny_mono (F.run X.A.in1 X.stack _ H1 ⟨[.ref a], []⟩ [.ref a] [.ref a] _ E0 hr.in1 I2.env0.in1 (by
    have z := hb { s1 with toks := s1.toks + 1 } [.ref a] I2.kIn (by simpa using hl)
    simpa using z) (.cons rfl .nil) h) fun r s' hq => ?_))
  match r, hq with
  | .error e, hq => exact hq.elim
  | .ok (.ret u), hq =>
    obtain ⟨v, H', I', rv, z, ev, q⟩ := I2.after hq
    rw [ev] at rv
    obtain ⟨t, rfl⟩ := relV_str rv
    exact ⟨.str z, H', I', ⟨t, rfl⟩, q⟩
end
section
open PySem.SeqAt
open AutoSeq1 (wpAny_loadPart')
open MeetsSeq MeetsSeq2 MeetsSeq3 SeqRoads2
variable {prog : Program} {w : World} {A : Around} {R : Result → Shared → Prop}
theorem tuple_containsG (l : Addr) (items : Array Value) (n : Nat) (dd : Option Addr) (sl : Array (Option Value)) (x : Value) (e : Value → Bool) (J : Shared → Prop)
    (turn : ∀ y, y ∈ items → ∀ s, J s → wpAny (model prog w) A.in1 (eqBool y x) (fun r s' => r = e y ∧ J s') (fun e s' => R (.error e) s') s) (fin : ∀ s, J s → R (.ok (.ret (.bool (items.any e)))) s) {s : Shared}
    (hl : s.heap.get? l = some { cls := .type "tuple", dict := dd, data := .seq items n, slots := sl }) (h : J s) : wpAny (model prog w) A.in1 (Builtin.«tuple.__contains__» ⟨[.ref l, x], []⟩) (GQ.FinOf prog w A R) (fun e s' => R (.error e) s') s := by
  obtain ⟨hp, g, d, tk, os⟩ := s
  have h0 := h
  wp_walk using wpAny_loadPart' hl, wpAny_forIn_array _ (fun rest b s' => b.1 = none ∧ (∀ y, y ∈ rest → y ∈ items) ∧ (rest.any e = items.any e) ∧ J s') _
  case turn =>
    rintro y rest b s' ⟨hb, hmem, hR, hJ⟩
    refine wpAny_bind (wpAny_mono (turn y (hmem y (List.mem_cons_self ..)) s' hJ) (fun r s2 q2 => ?_) fun _ _ x => x)
    obtain ⟨hr, q2⟩ := q2
    subst hr
    rw [List.any_cons] at hR
    cases hy : e y with
    | true =>
      rw [hy, Bool.true_or] at hR
      wp_walk
      have := fin s2 q2
      rw [← hR] at this
      exact this
    | false =>
      rw [hy, Bool.false_or] at hR
      wp_walk
      exact ⟨rfl, fun z hz => hmem z (List.mem_cons_of_mem _ hz), hR, q2⟩
  case fin =>
    rintro ⟨b1, b2⟩ s' ⟨hb, -, hR, hJ⟩
    simp only at hb
    subst hb
    wp_walk
    have := fin s' hJ
    rw [← hR] at this
    exact this
  case h =>
    exact ⟨rfl, fun y hy => by simpa using hy, by simp, h0⟩
theorem in_tupleG {E : Value → Shared → Prop} {s : Shared} {l : Addr} {items : Array Value} {x : Value} {Q : Value → Shared → Prop} (e : Value → Bool) (J : Shared → Prop) (hl : s.heap.IsTuple l items)
    (turn : ∀ y, y ∈ items → ∀ s, J s → wpAny (model prog w) A.in1 (eqBool y x) (fun r s' => r = e y ∧ J s') E s) (fin : ∀ s, J s → Q (.bool (items.any e)) s) (h : J s) : wpAny (model prog w) A (compareOp .In x (.ref l)) Q E s := by
  obtain ⟨⟨cls, dd, data, sl⟩, ho, hc, n, hd⟩ := id hl
  simp only at hc hd
  subst hc hd
  show wpAny _ A (do return .bool (← contains (.ref l) x)) Q E s
  refine wpAny_bind (wpAny_contains_slot (T := "tuple") ⟨_, ho, rfl⟩ F.slot_tuple_contains (wpAny_mono (GQ.call_here F.slot_tuple_contains ⟨_, ho, rfl⟩ F.entry_tuple_contains (F.args_tuple_contains_2 _ _) (Q := fun v s' => ∃ b, v = .bool b ∧ Q (.bool b) s') (tuple_containsG (R := wants (fun v s' => ∃ b, v = .bool b ∧ Q (.bool b) s') E) l items n dd sl x e J turn (fun s' q => ⟨_, rfl, fin s' q⟩) ho h)) (fun v s' hv => ?_) fun _ _ e => e))
  obtain ⟨b, rfl, hq⟩ := hv
  exact wpAny_truthy_bool (wpAny_pure hq)
end
section
variable {X : Cx} {C f : Addr} {fd : FuncData} {ps : List Str} {sp : Sp} {k : Nat}
/-- x in t, t a tuple of instances of the class at C; e: which of them equal x -/
def rInOwnT (K : PySem.W.Frag) (C : Addr) (sp : Sp) : R2 := fun x y H Q => ∃ (a ax dx : Addr) (fx : List (Str × V)) (bs : List Addr) (e : Addr → Bool), y = .ref a ∧ SqT K H a (bs.map V.ref) ∧ x = .ref ax ∧ H ax = some (.ins C dx fx) ∧
  (∀ b ∈ bs, ∃ dz fz, H b = some (.ins C dz fz)) ∧ (ax ∈ bs → e ax = true) ∧ (∀ b ∈ bs, ∀ G, Same H G → sp [.ref b, .ref ax] G (fun v G' => v = .bl (e b) ∧ Same H G') E0) ∧ ∀ H', Same H H' → Q (.bl (bs.any e)) H'
theorem op_inOwnT (F : FnOk X.prog X.w X.K X.mg X.base L2.CX0 k f fd ps sp) (hr : Room (k + 1) X.A) (hs : PySem.W.findIn X.K (.ref C) "__eq__" = some (some (.ref f))) (hf : PySem.W.isFn X.K (.ref f) = true) (hb : Binds X.K fd ps []) : OpR X (compareOp .In) (rInOwnT X.K C sp) := by
  intro pins s σ H x y v u Q I rx ry h
  obtain ⟨a, ax, dx, fx, bs, e, rfl, hS, rfl, eax, hins, hsame, heq, q⟩ := h
  obtain rfl : v = Value.ref ax := rx
  obtain rfl : u = Value.ref a := ry
  obtain ⟨its, rv, ht, _⟩ := I.tuple hS
  have ei : its = bs.map Value.ref := refs_of_valsG (g := id) rv
  let e' : Value → Bool := fun z => match z with | .ref b => e b | _ => false
  refine in_tupleG e' (fun s' => ∃ H', Inv X pins σ H' s' ∧ Same H H') ht (fun y hy s' hJ => ?_) (fun s' hJ => ?_) ⟨H, I, Same.refl _⟩
  · obtain ⟨H1, I1, s1⟩ := hJ
    have hy2 : y ∈ its := by simpa using hy
    rw [ei] at hy2
    obtain ⟨b, hbm, rfl⟩ := List.mem_map.mp hy2
    by_cases c : b = ax
    · subst c
      exact SeqAt.EqAt.same (A := X.A.in1) (s := s') (.ref b) X.prog X.w X.xe _ ⟨(hsame hbm).symm, H1, I1, s1⟩
    · refine GQ.eqBool_refG c ?_
      obtain ⟨dz, fz, eb⟩ := hins b hbm
      obtain ⟨mA, O, _⟩ := ins_get I1.hok (s1 _ _ eb)
      obtain ⟨mB, O', _⟩ := ins_get I1.hok (s1 _ _ eax)
      obtain ⟨od, J, _⟩ := O.look
      obtain ⟨od', J', _⟩ := O'.look
      obtain ⟨m, hF⟩ := I1.fr
      have hsp := heq b hbm H1 s1
      have hl := F.len _ _ _ _ hsp
      refine PySem.W.cmp_K (op := .Eq) (tb := .ref C) (hr.in1.units0) hF I1.ok.mod.kin J J'.type (by simp [PySem.W.notFirst]) hs hf (wpAny_call (codeAny_mono (F.run X.A.in1 X.stack s' H1 ⟨[.ref b, .ref ax], []⟩ [.ref b, .ref ax] [.ref b, .ref ax] _ E0 hr.in1 I1.env0.in1 (by
        have z := hb s' [.ref b, .ref ax] I1.kIn (by simpa using hl)
        simpa using z) (.cons rfl (.cons rfl .nil)) hsp) fun r s2 hq => ?_))
      match r, hq with
      | .error e, hq => exact hq.elim
      | .ok (.ret u2), hq =>
        obtain ⟨v2, H', I', rv2, ev, sm⟩ := I1.after hq
        rw [ev] at rv2
        obtain rfl : u2 = Value.bool (e b) := rv2
        exact ⟨e b, rfl, rfl, H', I', sm⟩
  · obtain ⟨H1, I1, s1⟩ := hJ
    refine ⟨.bl (bs.any e), H1, I1, ?_, q H1 s1⟩
    show _ = _
    rw [← Array.any_toList, ei, List.any_map]
    rfl
end
/-! sorted of a list of tuples of an int and a text -/
section
open PySem.W
def isD (p : Int × Str) : PyData := .tuple [.int p.1, .str p.2]
def isLe (p q : Addr × Int × Str) : Bool := PySem.W.dataLe false (fun b : Addr × Int × Str => isD b.2) p q
def rSortIS (K : PySem.W.Frag) : List V → Hp → VK → Prop := fun vs H Q => ∃ (a : Addr) (ks : List (Addr × Int × Str)), vs = [.ref a] ∧ SqL K H a (ks.map fun p => V.ref p.1) ∧ ks.length ≤ sizeLine ∧
  (∀ p ∈ ks, SqT K H p.1 [.int p.2.1, .str p.2.2]) ∧ ∀ (p : Addr), H p = none → Q (.ref p) (upd H p (.lst ((ks.mergeSort isLe).map fun q => V.ref q.1)))
theorem alike_is (p q : Int × Str) : PySem.W.alike (isD p) (isD q) = true := by
  simp [isD, PySem.W.alike, PySem.W.alikeAll]
theorem call_sortIS {X : Cx} (hu : X.A.units + 64 < cLine) : CallR X (.builtin "sorted") (rSortIS X.K) := by
  intro pins s σ H vs us Q I r h
  obtain ⟨a, ks, rfl, hs, few, tp, q⟩ := h
  obtain ⟨its, rv, pl, _⟩ := I.list hs
  rw [Vals.ref1 r]
  have ei : its = ks.map fun p => Value.ref p.1 := refs_of_valsG rv
  have fin : ∀ out : List Value, EachIs (fun v (p : Addr × Int × Str) => v = Value.ref p.1) out (ks.mergeSort isLe) → ∃ (v : V) (H' : Hp), Inv X pins σ H' { s with heap := sortedAll s.heap its out.toArray } ∧ RelV v (Value.ref (s.heap.objs.size + 1)) ∧ Q v H' := fun out e => by
    have e := eachMap_back e
    obtain ⟨ep, at_⟩ := PyProof.Rows.sortedAll_at s.heap its out.toArray
    refine ⟨.ref _, upd H (s.heap.objs.size + 1) (.lst ((ks.mergeSort isLe).map fun q => V.ref q.1)), I.laid (t' := s.toks) (fun _ _ => PyProof.Rows.sortedAll_old) (Nat.le_succ _) ⟨?_, out, ep, ?_, at_⟩, rfl, q _ (I.hok.fresh (Nat.le_succ _))⟩
    · rw [List.length_map, List.length_mergeSort]
      exact few
    · rw [e]
      exact vals_of_refsG _ _
  have rd : ∀ p ∈ ks, ∃ as, Reads s.heap (.ref p.1) (isD p.2) as := fun p hp => by
    obtain ⟨its2, rv2, ⟨ob, g1, g2, m, g3⟩, _⟩ := I.tuple (tp p hp)
    cases rv2 with
    | @cons _ v1 _ _ r1 t1 =>
      cases t1 with
      | @cons _ v2 _ _ r2 t2 =>
        cases t2
        obtain ⟨t, rfl⟩ := (show ∃ t, v1 = Value.int p.2.1 t from r1)
        obtain ⟨t', rfl⟩ := (show ∃ t, v2 = Value.str p.2.2 t from r2)
        exact ⟨_, .tuple g1 g2 g3 (.cons (as := []) (.int _ _) (.cons (as := []) (.str _ _) .nil))⟩
  refine PySem.W.sorted_data (R := fun v (p : Addr × Int × Str) => v = Value.ref p.1) (bs := ks) (enc := fun b => isD b.2) pl.isList (by rw [ei]; exact eachMap _ ks fun _ _ => rfl) (by rw [ei]; exact eachMap _ ks rd) (PySem.W.AllAlike.of fun b b' => alike_is b.2 b'.2) (.inl fun d hd => ?_) few (fun b _ => ?_) fun out _ e => ?_
  · obtain ⟨p, hp, rfl⟩ := List.mem_map.mp hd
    exact ⟨_, _, rfl⟩
  · have : (isD b.2).depth ≤ 1 := by simp [isD, PyData.depth, PyData.depthAll]
    omega
  · exact fin out e
end
end L2.Tb
set_option Elab.async false
set_option linter.all false
set_option maxRecDepth 100000
set_option maxHeartbeats 8000000
namespace L2.K06
open PySem PySem.Spec PyProof.Rows L2.Tb
open SX (S)
/-! ### formulas -/
inductive Fm where
  | lt (n : List Nat)
  | op (s : Nat) (l r : Fm)
deriving DecidableEq
def sgL : Nat → List Nat
  | 0 => [42]
  | 1 => [47, 47]
  | _ => [62, 62]
theorem sgL_len (s : Nat) : (sgL s).length ≤ 2 := by
  unfold sgL
  split <;> decide
def Fm.txt : Fm → List Nat
  | .lt n => n
  | .op s l r => [40] ++ l.txt ++ [32] ++ sgL s ++ [32] ++ r.txt ++ [41]
def Fm.ops : Fm → Nat
  | .lt _ => 0
  | .op _ l r => l.ops + 1 + r.ops
def Fm.dep : Fm → Nat
  | .lt _ => 0
  | .op _ l r => max l.dep r.dep + 1
def Fm.sgs : Fm → List (List Nat)
  | .lt _ => []
  | .op s l r => l.sgs ++ [sgL s] ++ r.sgs
def Fm.ok : Fm → Bool
  | .lt n => nameB n
  | .op s l r => decide (s < 3) && (l.ok && r.ok)
theorem Fm.ok_op {s : Nat} {l r : Fm} (h : (Fm.op s l r).ok = true) : s < 3 ∧ l.ok = true ∧ r.ok = true := by
  simp only [Fm.ok, Bool.and_eq_true, decide_eq_true_eq] at h
  exact h
theorem Fm.ok_mk {s : Nat} {l r : Fm} (hs : s < 3) (h1 : l.ok = true) (h2 : r.ok = true) : (Fm.op s l r).ok = true := by
  simp only [Fm.ok, Bool.and_eq_true, decide_eq_true_eq]
  exact ⟨hs, h1, h2⟩
theorem Fm.sgs_len : ∀ f : Fm, f.sgs.length = f.ops
  | .lt _ => rfl
  | .op s l r => by
    have h1 := Fm.sgs_len l
    have h2 := Fm.sgs_len r
    simp only [Fm.sgs, Fm.ops, List.length_append, List.length_singleton, h1, h2]
theorem Fm.dep_ops : ∀ f : Fm, f.dep ≤ f.ops
  | .lt _ => Nat.le_refl _
  | .op s l r => by
    have h1 := Fm.dep_ops l
    have h2 := Fm.dep_ops r
    simp only [Fm.dep, Fm.ops]
    omega
theorem Fm.txt_len : ∀ f : Fm, f.ok = true → f.txt.length ≤ 8 * (f.ops + 1) + 6 * f.ops
  | .lt n, h => by
    have := (nameB_len h).2
    simp only [Fm.txt, Fm.ops]
    omega
  | .op s l r, h => by
    obtain ⟨_, hl, hr⟩ := Fm.ok_op h
    have h1 := Fm.txt_len l hl
    have h2 := Fm.txt_len r hr
    have h3 := sgL_len s
    simp only [Fm.txt, Fm.ops, List.length_append, List.length_singleton]
    omega
theorem Fm.txt_pos : ∀ f : Fm, f.ok = true → f.txt ≠ []
  | .lt n, h => fun e => by
    have h1 := (nameB_len h).1
    have e2 : n = [] := e
    rw [e2] at h1
    exact absurd h1 (by decide)
  | .op s l r, _ => by simp [Fm.txt]
/-- how often a sign stands in a text -/
def cnt (c : Nat) (l : List Nat) : Nat := l.countP (· == c)
theorem name_no40 {n : List Nat} (h : nameB n = true) : cnt 40 n = 0 := by
  unfold cnt
  rw [List.countP_eq_zero]
  intro c hc
  cases n with
  | nil => cases hc
  | cons a r =>
    simp only [nameB, lowB, Bool.and_eq_true, Nat.ble_eq] at h
    have key : 48 ≤ c := by
      rcases List.mem_cons.mp hc with rfl | hc
      · omega
      · have := List.all_eq_true.mp h.2.2 c hc
        simp only [signB, lowB, Bool.or_eq_true, Bool.and_eq_true, Nat.ble_eq] at this
        omega
    simp only [beq_iff_eq]
    omega
theorem Fm.cnt_ops : ∀ f : Fm, f.ok = true → cnt 40 f.txt = f.ops
  | .lt n, h => name_no40 h
  | .op s l r, h => by
    obtain ⟨hs, hl, hr⟩ := Fm.ok_op h
    have h1 := Fm.cnt_ops l hl
    have h2 := Fm.cnt_ops r hr
    have h3 : cnt 40 (sgL s) = 0 := by
      unfold sgL
      split <;> decide
    unfold cnt at h1 h2 h3 ⊢
    simp only [Fm.txt, Fm.ops, List.countP_append, h1, h2, h3]
    simp [List.countP_cons]
    omega
/-! each once by its text, in order -/
section
variable {α β : Type}
def insK (t : α → List Nat) (l : List α) (q : α) : List α := if (l.any fun x => decide (t x = t q)) = true then l.map (fun x => if t x = t q then q else x) else l ++ [q]
def ddK (t : α → List Nat) (z : List α) : List α := z.foldl (insK t) []
theorem insK_map {t : β → List Nat} {g : α → β} (l : List α) (q : α) : (insK (fun x => t (g x)) l q).map g = insK t (l.map g) (g q) := by
  unfold insK
  rw [List.any_map]
  by_cases c : (l.any fun x => decide (t (g x) = t (g q))) = true
  · rw [if_pos c, if_pos (show (l.any ((fun x => decide (t x = t (g q))) ∘ g)) = true from c), List.map_map, List.map_map]
    refine List.map_congr_left fun x _ => ?_
    simp only [Function.comp]
    by_cases e : t (g x) = t (g q)
    · rw [if_pos e, if_pos e]
    · rw [if_neg e, if_neg e]
  · rw [if_neg c, if_neg (show ¬ (l.any ((fun x => decide (t x = t (g q))) ∘ g)) = true from c), List.map_append]
    rfl
theorem ddK_map {t : β → List Nat} {g : α → β} (z : List α) : (ddK (fun x => t (g x)) z).map g = ddK t (z.map g) := by
  have go : ∀ (z l : List α), (z.foldl (insK fun x => t (g x)) l).map g = (z.map g).foldl (insK t) (l.map g) := by
    intro z
    induction z with
    | nil => intro l; rfl
    | cons q z ih =>
      intro l
      rw [List.foldl_cons, List.map_cons, List.foldl_cons, ih, insK_map]
  exact go z []
theorem mem_insK {t : α → List Nat} {l : List α} {q x : α} (h : x ∈ insK t l q) : x = q ∨ x ∈ l := by
  unfold insK at h
  split at h
  · obtain ⟨y, hy, rfl⟩ := List.mem_map.mp h
    by_cases e : t y = t q
    · exact .inl (if_pos e)
    · exact .inr (by rw [if_neg e]; exact hy)
  · rcases List.mem_append.mp h with h | h
    · exact .inr h
    · exact .inl (List.mem_singleton.mp h)
theorem txt_insK {t : α → List Nat} {l : List α} {q y : α} (h : y = q ∨ y ∈ l) : ∃ x ∈ insK t l q, t x = t y := by
  unfold insK
  by_cases c : (l.any fun x => decide (t x = t q)) = true
  · rw [if_pos c]
    have hq : ∃ x ∈ l.map (fun x => if t x = t q then q else x), t x = t q := by
      obtain ⟨x, hx, e⟩ := List.any_eq_true.mp c
      exact ⟨q, List.mem_map.mpr ⟨x, hx, if_pos (of_decide_eq_true e)⟩, rfl⟩
    rcases h with rfl | h
    · exact hq
    · by_cases e : t y = t q
      · obtain ⟨x, a, b⟩ := hq
        exact ⟨x, a, b.trans e.symm⟩
      · exact ⟨y, List.mem_map.mpr ⟨y, h, if_neg e⟩, rfl⟩
  · rw [if_neg c]
    rcases h with rfl | h
    · exact ⟨y, List.mem_append_right _ List.mem_cons_self, rfl⟩
    · exact ⟨y, List.mem_append_left _ h, rfl⟩
theorem nd_insK {t : α → List Nat} {l : List α} {q : α} (h : (l.map t).Nodup) : ((insK t l q).map t).Nodup := by
  unfold insK
  by_cases c : (l.any fun x => decide (t x = t q)) = true
  · rw [if_pos c, List.map_map]
    have e : (t ∘ fun x => if t x = t q then q else x) = t := by
      funext x
      simp only [Function.comp]
      by_cases e : t x = t q
      · rw [if_pos e, e]
      · rw [if_neg e]
    rw [e]
    exact h
  · rw [if_neg c, List.map_append]
    refine List.nodup_append.mpr ⟨h, by simp, fun a ha b hb => ?_⟩
    simp only [List.map_cons, List.map_nil, List.mem_singleton] at hb
    subst hb
    obtain ⟨x, hx, rfl⟩ := List.mem_map.mp ha
    exact fun e => c (List.any_eq_true.mpr ⟨x, hx, decide_eq_true e⟩)
theorem len_insK {t : α → List Nat} {l : List α} {q : α} : (insK t l q).length ≤ l.length + 1 := by
  unfold insK
  split
  · rw [List.length_map]
    omega
  · rw [List.length_append, List.length_singleton]
    exact Nat.le_refl _
theorem foldK {t : α → List Nat} : ∀ (z l : List α), (l.map t).Nodup → (((z.foldl (insK t) l).map t).Nodup ∧ (z.foldl (insK t) l).length ≤ l.length + z.length ∧ (∀ x ∈ z.foldl (insK t) l, x ∈ l ∨ x ∈ z) ∧ ∀ y, y ∈ l ∨ y ∈ z → ∃ x ∈ z.foldl (insK t) l, t x = t y)
  | [], l, h => ⟨h, Nat.le_refl _, fun x hx => .inl hx, fun y hy => ⟨y, hy.elim id (fun z => by cases z), rfl⟩⟩
  | q :: z, l, h => by
    obtain ⟨h1, h2, h3, h4⟩ := foldK z (insK t l q) (nd_insK h)
    refine ⟨h1, ?_, fun x hx => ?_, fun y hy => ?_⟩
    · have := len_insK (t := t) (l := l) (q := q)
      rw [List.foldl_cons, List.length_cons]
      omega
    · rcases h3 x hx with a | a
      · rcases mem_insK a with rfl | a
        · exact .inr List.mem_cons_self
        · exact .inl a
      · exact .inr (List.mem_cons_of_mem _ a)
    · rcases hy with hy | hy
      · obtain ⟨x, a, b⟩ := txt_insK (t := t) (q := q) (.inr hy)
        obtain ⟨x2, a2, b2⟩ := h4 x (.inl a)
        exact ⟨x2, a2, b2.trans b⟩
      · rcases List.mem_cons.mp hy with rfl | hy
        · obtain ⟨x, a, b⟩ := txt_insK (t := t) (l := l) (q := y) (.inl rfl)
          obtain ⟨x2, a2, b2⟩ := h4 x (.inl a)
          exact ⟨x2, a2, b2.trans b⟩
        · exact h4 y (.inr hy)
theorem ddK_nd (t : α → List Nat) (z : List α) : ((ddK t z).map t).Nodup := (foldK z [] List.nodup_nil).1
theorem ddK_len (t : α → List Nat) (z : List α) : (ddK t z).length ≤ z.length := by
  have := (foldK (t := t) z [] List.nodup_nil).2.1
  rw [List.length_nil, Nat.zero_add] at this
  exact this
theorem ddK_mem {t : α → List Nat} {z : List α} {x : α} (h : x ∈ ddK t z) : x ∈ z := ((foldK z [] List.nodup_nil).2.2.1 x h).elim (fun z => by cases z) id
theorem ddK_txt {t : α → List Nat} {z : List α} {y : α} (h : y ∈ z) : ∃ x ∈ ddK t z, t x = t y := (foldK z [] List.nodup_nil).2.2.2 y (.inr h)
theorem ddK_snoc (t : α → List Nat) (z : List α) (q : α) : ddK t (z ++ [q]) = insK t (ddK t z) q := by
  unfold ddK
  rw [List.foldl_append]
  rfl
end
def keyLe (p q : Int × Str) : Bool := PySem.W.dataLe false isD p q
def Fm.key (f : Fm) : Int × Str := ((f.ops : Int), S f.txt)
def fmLe (f g : Fm) : Bool := keyLe f.key g.key
def ordF (z : List Fm) : List Fm := (ddK Fm.txt z).mergeSort fmLe
def innF : Fm → List Fm
  | .lt _ => []
  | .op s l r => ordF ((innF l ++ [l]) ++ (innF r ++ [r]))
def partsF (f : Fm) : List Fm := innF f ++ [f]
/-- all formulas within a formula, as often as they are written -/
def subsF : Fm → List Fm
  | .lt n => [.lt n]
  | .op s l r => [.op s l r] ++ subsF l ++ subsF r
theorem ordF_mem {z : List Fm} {x : Fm} (h : x ∈ ordF z) : x ∈ z := ddK_mem ((List.mergeSort_perm _ _).mem_iff.mp h)
theorem ordF_txt {z : List Fm} {y : Fm} (h : y ∈ z) : ∃ x ∈ ordF z, x.txt = y.txt := by
  obtain ⟨x, a, b⟩ := ddK_txt (t := Fm.txt) h
  exact ⟨x, (List.mergeSort_perm _ _).mem_iff.mpr a, b⟩
theorem ordF_len (z : List Fm) : (ordF z).length ≤ z.length := by
  unfold ordF
  rw [List.length_mergeSort]
  exact ddK_len _ _
theorem innF_len : ∀ f : Fm, (innF f).length ≤ 2 * f.ops
  | .lt _ => Nat.le_refl _
  | .op s l r => by
    have h1 := innF_len l
    have h2 := innF_len r
    refine Nat.le_trans (ordF_len _) ?_
    simp only [List.length_append, List.length_singleton, Fm.ops]
    omega
theorem subsF_self (f : Fm) : f ∈ subsF f := by cases f <;> simp [subsF]
theorem partsF_subs : ∀ (f g : Fm), g ∈ partsF f → g ∈ subsF f
  | .lt n, g, h => by
    simp only [partsF, innF, List.nil_append, List.mem_singleton] at h
    rw [h]
    exact subsF_self _
  | .op s l r, g, h => by
    rcases List.mem_append.mp h with h | h
    · have := ordF_mem h
      simp only [subsF, List.mem_append]
      rcases List.mem_append.mp this with a | a
      · exact .inl (.inr (partsF_subs l g a))
      · exact .inr (partsF_subs r g a)
    · rw [List.mem_singleton.mp h]
      exact subsF_self _
theorem subs_parts : ∀ (f g : Fm), g ∈ subsF f → ∃ x ∈ partsF f, x.txt = g.txt
  | .lt n, g, h => by
    simp only [subsF, List.mem_singleton] at h
    exact ⟨.lt n, by simp [partsF], by rw [h]⟩
  | .op s l r, g, h => by
    simp only [subsF, List.mem_append, List.mem_singleton] at h
    have up : ∀ x ∈ partsF l ++ partsF r, x.txt = g.txt → ∃ x ∈ partsF (.op s l r), x.txt = g.txt := fun x hx e => by
      obtain ⟨y, a, b⟩ := ordF_txt hx
      exact ⟨y, List.mem_append_left _ a, b.trans e⟩
    rcases h with (h | h) | h
    · exact ⟨.op s l r, by simp [partsF], by rw [h]⟩
    · obtain ⟨x, a, b⟩ := subs_parts l g h
      exact up x (List.mem_append_left _ a) b
    · obtain ⟨x, a, b⟩ := subs_parts r g h
      exact up x (List.mem_append_right _ a) b
theorem subs_ok : ∀ (f g : Fm), f.ok = true → g ∈ subsF f → g.ok = true ∧ g.ops ≤ f.ops
  | .lt n, g, h, hg => by
    simp only [subsF, List.mem_singleton] at hg
    rw [hg]
    exact ⟨h, Nat.le_refl _⟩
  | .op s l r, g, h, hg => by
    obtain ⟨hs, hl, hr⟩ := Fm.ok_op h
    simp only [subsF, List.mem_append, List.mem_singleton] at hg
    rcases hg with (hg | hg) | hg
    · rw [hg]
      exact ⟨h, Nat.le_refl _⟩
    · obtain ⟨a, b⟩ := subs_ok l g hl hg
      exact ⟨a, by simp only [Fm.ops]; omega⟩
    · obtain ⟨a, b⟩ := subs_ok r g hr hg
      exact ⟨a, by simp only [Fm.ops]; omega⟩
theorem parts_ok {f g : Fm} (h : f.ok = true) (hg : g ∈ partsF f) : g.ok = true ∧ g.ops ≤ f.ops := subs_ok f g h (partsF_subs f g hg)
/-! put -/
def putW (w : List Nat) (g : Fm) : Fm → Fm
  | .lt n => if n = w then g else .lt n
  | .op s l r => .op s (putW w g l) (putW w g r)
theorem putW_ok {w : List Nat} {g : Fm} (hg : g.ok = true) : ∀ f : Fm, f.ok = true → (putW w g f).ok = true
  | .lt n, h => by
    unfold putW
    split
    · exact hg
    · exact h
  | .op s l r, h => by
    obtain ⟨hs, hl, hr⟩ := Fm.ok_op h
    exact Fm.ok_mk hs (putW_ok hg l hl) (putW_ok hg r hr)
theorem putW_subs {w : List Nat} {g : Fm} : ∀ f : Fm, putW w g f ≠ f → g ∈ subsF (putW w g f)
  | .lt n, h => by
    unfold putW at h ⊢
    split at h
    · rw [if_pos ‹_›]
      exact subsF_self _
    · exact absurd rfl h
  | .op s l r, h => by
    simp only [putW, subsF, List.mem_append]
    by_cases c : putW w g l = l
    · have : putW w g r ≠ r := fun e => h (by simp only [putW, c, e])
      exact .inr (putW_subs r this)
    · exact .inl (.inr (putW_subs l c))
theorem putW_dep {w : List Nat} {g : Fm} : ∀ f : Fm, (putW w g f).dep ≤ f.dep + g.dep
  | .lt n => by
    unfold putW
    split
    · simp only [Fm.dep]; omega
    · simp only [Fm.dep]; omega
  | .op s l r => by
    have h1 := putW_dep (w := w) (g := g) l
    have h2 := putW_dep (w := w) (g := g) r
    simp only [putW, Fm.dep]
    omega
end L2.K06
set_option Elab.async false
set_option linter.all false
set_option maxRecDepth 100000
set_option maxHeartbeats 8000000
namespace L2.K06
open PySem PySem.Spec PyProof.Rows L2.Tb
open SX (S)
abbrev s_fsign : Stmt := inClass (top 18) 2
abbrev N_fsign : List Str := ["self"]
theorem sc_fsign : FnScope N_fsign ["self"] (defScope s_fsign) := ⟨rfl, rfl, rfl, by decide +kernel, rfl, by decide +kernel, by decide +kernel⟩
abbrev s_fname : Stmt := inClass (top 18) 3
abbrev N_fname : List Str := ["self"]
theorem sc_fname : FnScope N_fname ["self"] (defScope s_fname) := ⟨rfl, rfl, rfl, by decide +kernel, rfl, by decide +kernel, by decide +kernel⟩
abbrev s_fleft : Stmt := inClass (top 18) 4
abbrev N_fleft : List Str := ["self"]
theorem sc_fleft : FnScope N_fleft ["self"] (defScope s_fleft) := ⟨rfl, rfl, rfl, by decide +kernel, rfl, by decide +kernel, by decide +kernel⟩
abbrev s_fright : Stmt := inClass (top 18) 5
abbrev N_fright : List Str := ["self"]
theorem sc_fright : FnScope N_fright ["self"] (defScope s_fright) := ⟨rfl, rfl, rfl, by decide +kernel, rfl, by decide +kernel, by decide +kernel⟩
abbrev s_fparts : Stmt := inClass (top 18) 7
abbrev N_fparts : List Str := ["self"]
theorem sc_fparts : FnScope N_fparts ["self"] (defScope s_fparts) := ⟨rfl, rfl, rfl, by decide +kernel, rfl, by decide +kernel, by decide +kernel⟩
abbrev s_flen : Stmt := inClass (top 18) 13
abbrev N_flen : List Str := ["self"]
theorem sc_flen : FnScope N_flen ["self"] (defScope s_flen) := ⟨rfl, rfl, rfl, by decide +kernel, rfl, by decide +kernel, by decide +kernel⟩
abbrev s_feq : Stmt := inClass (top 18) 15
abbrev N_feq : List Str := ["self", "other"]
theorem sc_feq : FnScope N_feq ["self", "other"] (defScope s_feq) := ⟨rfl, rfl, rfl, by decide +kernel, rfl, by decide +kernel, by decide +kernel⟩
abbrev s_fstr : Stmt := inClass (top 18) 16
abbrev N_fstr : List Str := ["self"]
theorem sc_fstr : FnScope N_fstr ["self"] (defScope s_fstr) := ⟨rfl, rfl, rfl, by decide +kernel, rfl, by decide +kernel, by decide +kernel⟩
abbrev s_fcont : Stmt := inClass (top 18) 12
abbrev N_fcont : List Str := ["self", "value"]
theorem sc_fcont : FnScope N_fcont ["self", "value"] (defScope s_fcont) := ⟨rfl, rfl, rfl, by decide +kernel, rfl, by decide +kernel, by decide +kernel⟩
/-! ### formulas in the heap -/
def fmF (sg : Str) (nm lv rv : V) (tx : Str) (sgs inn : Addr) : List (Str × V) := [("_sign", .str sg), ("_name", nm), ("_left", lv), ("_right", rv), ("_text", .str tx), ("_signs", .ref sgs), ("_inner", .ref inn)]
/-- a formula stands at a -/
inductive FmAt (FC : Addr) (H : Hp) : Addr → Fm → Prop where
  | lt {a dx sg inn : Addr} {n : List Nat} : H a = some (.ins FC dx (fmF (S []) (.str (S n)) .non .non (S n) sg inn)) → H sg = some (.tup []) → H inn = some (.tup []) → FmAt FC H a (.lt n)
  | op {a dx la ra sg inn : Addr} {s : Nat} {l r : Fm} {ps : List Addr} : H a = some (.ins FC dx (fmF (S (sgL s)) .non (.ref la) (.ref ra) (S (Fm.op s l r).txt) sg inn)) → FmAt FC H la l → FmAt FC H ra r → H sg = some (.tup ((Fm.op s l r).sgs.map nmV)) →
      H inn = some (.tup (ps.map V.ref)) → ps.length = (innF (.op s l r)).length → (∀ (i : Nat) (p : Addr) (g : Fm), ps[i]? = some p → (innF (.op s l r))[i]? = some g → FmAt FC H p g) → FmAt FC H a (.op s l r)
/-- what formulas are made of -/
def FoO (o : HO) : Prop := (∃ C dx fs, o = .ins C dx fs ∧ fs ≠ []) ∨ ∃ xs, o = .tup xs
theorem FmAt.mono {FC : Addr} {H H' : Hp} (k : ∀ b o, FoO o → H b = some o → H' b = some o) : ∀ {a : Addr} {f : Fm}, FmAt FC H a f → FmAt FC H' a f := by
  intro a f h
  have ki : ∀ {b C dx : Addr} {x : Str × V} {fs : List (Str × V)}, H b = some (.ins C dx (x :: fs)) → H' b = some (.ins C dx (x :: fs)) := fun e => k _ _ (.inl ⟨_, _, _, rfl, fun z => by cases z⟩) e
  have kt : ∀ {b : Addr} {xs : List V}, H b = some (.tup xs) → H' b = some (.tup xs) := fun e => k _ _ (.inr ⟨_, rfl⟩) e
  induction h with
  | lt e1 e2 e3 => exact .lt (ki e1) (kt e2) (kt e3)
  | op e1 _ _ e4 e5 e6 _ i1 i2 i3 => exact .op (ki e1) i1 i2 (kt e4) (kt e5) e6 i3
theorem FmAt.same {FC : Addr} {H H' : Hp} {a : Addr} {f : Fm} (h : FmAt FC H a f) (s : Same H H') : FmAt FC H' a f := h.mono fun b o _ e => s b o e
theorem foo_tbl {o : HO} (h : FoO o) : ∀ ps, o ≠ .tbl ps := by
  rcases h with ⟨_, _, _, rfl, _⟩ | ⟨_, rfl⟩ <;> exact fun ps z => by cases z
theorem FmAt.N {FC : Addr} {H H' : Hp} {a : Addr} {f : Fm} (h : FmAt FC H a f) (s : LamX.ExtN H H') : FmAt FC H' a f := h.mono fun b o n e => s b o e (foo_tbl n)
/-- all but the object at p, which is a list -/
theorem FmAt.B {FC : Addr} {H H' : Hp} {a p : Addr} {f : Fm} (h : FmAt FC H a f) (s : SameB p H H') (hp : ∃ xs, H p = some (.lst xs)) : FmAt FC H' a f := by
  obtain ⟨xs, ep⟩ := hp
  refine h.mono fun b o n e => s b o (fun z => ?_) e
  rw [z, ep] at e
  cases e
  rcases n with ⟨_, _, _, z, _⟩ | ⟨_, z⟩ <;> cases z
/-- all but the object at p, an instance without attributes -/
theorem FmAt.I {FC : Addr} {H H' : Hp} {a p : Addr} {f : Fm} (h : FmAt FC H a f) (s : ∀ b o, b ≠ p → H b = some o → H' b = some o) (hp : ∃ C dx, H p = some (.ins C dx [])) : FmAt FC H' a f := by
  obtain ⟨C, dx, ep⟩ := hp
  refine h.mono fun b o n e => s b o (fun z => ?_) e
  rw [z, ep] at e
  cases e
  rcases n with ⟨_, _, _, z, n⟩ | ⟨_, z⟩
  · cases z
    exact n rfl
  · cases z
/-- all but the object at p, an instance with few attributes -/
theorem FmAt.P {FC : Addr} {H H' : Hp} {a p : Addr} {f : Fm} (h : FmAt FC H a f) (s : ∀ b o, b ≠ p → H b = some o → H' b = some o) (hp : ∃ C dx fs, H p = some (.ins C dx fs) ∧ fs.length ≤ 6) : FmAt FC H' a f := by
  obtain ⟨C, dx, fs, ep, l6⟩ := hp
  have ki : ∀ {b C dx : Addr} {x : List (Str × V)}, x.length = 7 → H b = some (.ins C dx x) → H' b = some (.ins C dx x) := fun {b _ _ x} l7 e => s b _ (fun z => by
    rw [z, ep] at e
    cases e
    omega) e
  have kt : ∀ {b : Addr} {xs : List V}, H b = some (.tup xs) → H' b = some (.tup xs) := fun {b _} e => s b _ (fun z => by
    rw [z, ep] at e
    cases e) e
  induction h with
  | lt e1 e2 e3 => exact .lt (ki rfl e1) (kt e2) (kt e3)
  | op e1 _ _ e4 e5 e6 _ i1 i2 i3 => exact .op (ki rfl e1) i1 i2 (kt e4) (kt e5) e6 i3
def Fm.sg : Fm → Str
  | .lt _ => S []
  | .op s _ _ => S (sgL s)
def Fm.nm : Fm → V
  | .lt n => .str (S n)
  | .op _ _ _ => .non
/-- what a formula's object shows -/
structure FmO (FC : Addr) (H : Hp) (a : Addr) (f : Fm) : Prop where
  ex : ∃ (dx sg inn : Addr) (lv rv : V) (ps : List Addr), H a = some (.ins FC dx (fmF f.sg f.nm lv rv (S f.txt) sg inn)) ∧ H sg = some (.tup (f.sgs.map nmV)) ∧ H inn = some (.tup (ps.map V.ref)) ∧ Paired (FmAt FC H) ps (innF f) ∧
    (match f with | .lt _ => lv = .non ∧ rv = .non | .op _ l r => ∃ la ra, lv = .ref la ∧ rv = .ref ra ∧ FmAt FC H la l ∧ FmAt FC H ra r)
theorem paired_ix {α β : Type} {R : α → β → Prop} : ∀ {xs : List α} {ys : List β}, xs.length = ys.length → (∀ (i : Nat) x y, xs[i]? = some x → ys[i]? = some y → R x y) → Paired R xs ys
  | [], [], _, _ => .nil
  | x :: xs, y :: ys, h, k => .cons (k 0 x y rfl rfl) (paired_ix (by simpa using h) fun i a b h1 h2 => k (i + 1) a b (by simpa using h1) (by simpa using h2))
  | [], _ :: _, h, _ => by cases h
  | _ :: _, [], h, _ => by cases h
theorem paired_get2 {α β : Type} {R : α → β → Prop} : ∀ {xs : List α} {ys : List β}, Paired R xs ys → ∀ (i : Nat) x y, xs[i]? = some x → ys[i]? = some y → R x y
  | _, _, .nil, i, x, y, h, _ => by cases h
  | _, _, .cons a _, 0, x, y, h1, h2 => by
    cases h1
    cases h2
    exact a
  | _, _, .cons _ t, i + 1, x, y, h1, h2 => paired_get2 t i x y (by simpa using h1) (by simpa using h2)
theorem FmAt.o {FC : Addr} {H : Hp} {a : Addr} {f : Fm} (h : FmAt FC H a f) : FmO FC H a f := by
  cases h with
  | lt e1 e2 e3 => exact ⟨_, _, _, _, _, [], e1, e2, e3, .nil, rfl, rfl⟩
  | op e1 h1 h2 e4 e5 e6 e7 => exact ⟨_, _, _, _, _, _, e1, e4, e5, paired_ix e6 e7, _, _, rfl, rfl, h1, h2⟩
theorem FmAt.ins {FC : Addr} {H : Hp} {a : Addr} {f : Fm} (h : FmAt FC H a f) : ∃ dx fs, H a = some (.ins FC dx fs) := by
  obtain ⟨dx, sg, inn, lv, rv, ps, e, _⟩ := h.o.ex
  exact ⟨dx, _, e⟩
/-- the class Formula -/
structure FoF (K : PySem.W.Frag) (mg : Str → Option Value) (FC : Addr) : Prop where
  mgF : mg "Formula" = some (.ref FC)
  cls : Cls K FC
  n1 : NoAttr K FC "_sign"
  n2 : NoAttr K FC "_name"
  n3 : NoAttr K FC "_left"
  n4 : NoAttr K FC "_right"
  n5 : NoAttr K FC "_text"
  n6 : NoAttr K FC "_signs"
  n7 : NoAttr K FC "_inner"
  ex : InsC K FC
  self : PySem.W.kitOne K (.ref FC) (.ref FC) = some true
/-- what is no formula -/
def NoF (K : PySem.W.Frag) (FC : Addr) (H : Hp) (v : V) : Prop := ∃ t, TyX K H v t ∧ PySem.W.kitOne K t (.ref FC) = some false
theorem FmAt.ty {K : PySem.W.Frag} {mg : Str → Option Value} {FC : Addr} {H : Hp} {a : Addr} {f : Fm} (h : FmAt FC H a f) (FF : FoF K mg FC) : TyX K H (.ref a) (.ref FC) := by
  obtain ⟨dx, fs, e⟩ := h.ins
  exact .base (.ins e FF.cls FF.ex.ha FF.ex.hn FF.ex.ht FF.ex.hm)
/-! ### how methods stand -/
def PrpM (P : Program) (w : World) (K : PySem.W.Frag) (mg : Str → Option Value) (base : Heap) (C : Addr) (x : Str) (k : Nat) (sp : Sp) : Prop := ∃ p g fd, PropOf K C x p g ∧ FnOk P w K mg base L2.CX0 k g fd ["self"] sp ∧ Binds K fd ["self"] []
def SpcM (P : Program) (w : World) (K : PySem.W.Frag) (mg : Str → Option Value) (base : Heap) (CX : CXT) (C : Addr) (x : Str) (ps : List Str) (k : Nat) (sp : Sp) : Prop := ∃ f fd, PySem.W.findIn K (.ref C) x = some (some (.ref f)) ∧ PySem.W.isFn K (.ref f) = true ∧ FnOk P w K mg base CX k f fd ps sp ∧ Binds K fd ps []
/-! ### promises -/
def spFsign (FC : Addr) : Sp := fun vs H Q _ => ∃ (a : Addr) (f : Fm), vs = [.ref a] ∧ FmAt FC H a f ∧ Q (.str f.sg) H
def spFname (FC : Addr) : Sp := fun vs H Q _ => ∃ (a : Addr) (f : Fm), vs = [.ref a] ∧ FmAt FC H a f ∧ Q f.nm H
def spFleft (FC : Addr) : Sp := fun vs H Q _ => ∃ (a : Addr) (f : Fm), vs = [.ref a] ∧ FmAt FC H a f ∧ (match f with | .lt _ => Q .non H | .op _ l _ => ∀ b, FmAt FC H b l → Q (.ref b) H)
def spFright (FC : Addr) : Sp := fun vs H Q _ => ∃ (a : Addr) (f : Fm), vs = [.ref a] ∧ FmAt FC H a f ∧ (match f with | .lt _ => Q .non H | .op _ _ r => ∀ b, FmAt FC H b r → Q (.ref b) H)
def spFparts (FC : Addr) : Sp := fun vs H Q _ => ∃ (a : Addr) (f : Fm), vs = [.ref a] ∧ FmAt FC H a f ∧ f.ops ≤ 100 ∧ ∀ (T : Addr) (ps : List Addr) (H' : Hp), Same H H' → H' T = some (.tup (ps.map V.ref)) → Paired (FmAt FC H') ps (partsF f) → Q (.ref T) H'
def spFlen (FC : Addr) : Sp := fun vs H Q _ => ∃ (a : Addr) (f : Fm), vs = [.ref a] ∧ FmAt FC H a f ∧ Q (.int (f.ops : Nat)) H
def spFstr (FC : Addr) : Sp := fun vs H Q _ => ∃ (a : Addr) (f : Fm), vs = [.ref a] ∧ FmAt FC H a f ∧ Q (.str (S f.txt)) H
def spFeq (K : PySem.W.Frag) (FC : Addr) : Sp := fun vs H Q _ => ∃ (a : Addr) (f : Fm) (y : V), vs = [.ref a, y] ∧ FmAt FC H a f ∧ ((∃ (c : Addr) (g : Fm), y = .ref c ∧ FmAt FC H c g ∧ Q (.bl (decide (f.txt = g.txt))) H) ∨ (NoF K FC H y ∧ Q (.bl false) H))
def spFcont (K : PySem.W.Frag) (FC : Addr) : Sp := fun vs H Q _ => ∃ (a : Addr) (f : Fm) (y : V), vs = [.ref a, y] ∧ FmAt FC H a f ∧ f.ops ≤ 100 ∧ ((∃ (c : Addr) (g : Fm), y = .ref c ∧ FmAt FC H c g ∧ ∀ H', Same H H' → Q (.bl ((partsF f).any fun p => decide (p.txt = g.txt))) H') ∨ (NoF K FC H y ∧ Q (.bl false) H))
theorem dec_str {a b : List Nat} : decide (V.str (S a) = V.str (S b)) = decide (a = b) := decide_eq_decide.mpr ⟨fun h => SX.S_inj (by injection h), fun h => by rw [h]⟩
section
variable {P : Program} {w : World} {K : PySem.W.Frag} {mg : Str → Option Value} {base : Heap} {f : Addr} {fd : FuncData} {FC : Addr}
theorem c_fsign (FF : FoF K mg FC) (F : FunD K "sign" "Formula.sign" (defArgs s_fsign) (defBody s_fsign) (defScope s_fsign) [] [] f fd) : FnOk P w K mg base L2.CX0 1 f fd ["self"] (spFsign FC) := by
  have hnd := sc_fsign.nd
  refine F.ok sc_fsign (fun vs H Q E h => ?_) (fun cdv A outer s H vs Q E hr h => ?_)
  · obtain ⟨a, g, rfl, _⟩ := h
    rfl
  · obtain ⟨a, g, rfl, hg, q⟩ := h
    obtain ⟨dx, sg, inn, lv, rv, ps, e, _⟩ := hg.o.ex
    exact ⟨_, (pss_one (ps_ret (pe_fld (pv 0) (by rfl)))), _, rfl, a, FC, dx, _, _, rfl, e, FF.cls, FF.n1, rfl, q⟩
theorem c_fname (FF : FoF K mg FC) (F : FunD K "name" "Formula.name" (defArgs s_fname) (defBody s_fname) (defScope s_fname) [] [] f fd) : FnOk P w K mg base L2.CX0 1 f fd ["self"] (spFname FC) := by
  have hnd := sc_fname.nd
  refine F.ok sc_fname (fun vs H Q E h => ?_) (fun cdv A outer s H vs Q E hr h => ?_)
  · obtain ⟨a, g, rfl, _⟩ := h
    rfl
  · obtain ⟨a, g, rfl, hg, q⟩ := h
    obtain ⟨dx, sg, inn, lv, rv, ps, e, _⟩ := hg.o.ex
    exact ⟨_, (pss_one (ps_ret (pe_fld (pv 0) (by rfl)))), _, rfl, a, FC, dx, _, _, rfl, e, FF.cls, FF.n2, rfl, q⟩
theorem c_fleft (FF : FoF K mg FC) (F : FunD K "left" "Formula.left" (defArgs s_fleft) (defBody s_fleft) (defScope s_fleft) [] [] f fd) : FnOk P w K mg base L2.CX0 1 f fd ["self"] (spFleft FC) := by
  have hnd := sc_fleft.nd
  refine F.ok sc_fleft (fun vs H Q E h => ?_) (fun cdv A outer s H vs Q E hr h => ?_)
  · obtain ⟨a, g, rfl, _⟩ := h
    rfl
  · obtain ⟨a, g, rfl, hg, q⟩ := h
    cases hg with
    | lt e1 e2 e3 => exact ⟨_, (pss_one (ps_ret (pe_fld (pv 0) (by rfl)))), _, rfl, a, FC, _, _, _, rfl, e1, FF.cls, FF.n3, rfl, q⟩
    | op e1 h1 h2 e4 e5 e6 e7 => exact ⟨_, (pss_one (ps_ret (pe_fld (pv 0) (by rfl)))), _, rfl, a, FC, _, _, _, rfl, e1, FF.cls, FF.n3, rfl, q _ h1⟩
theorem c_fright (FF : FoF K mg FC) (F : FunD K "right" "Formula.right" (defArgs s_fright) (defBody s_fright) (defScope s_fright) [] [] f fd) : FnOk P w K mg base L2.CX0 1 f fd ["self"] (spFright FC) := by
  have hnd := sc_fright.nd
  refine F.ok sc_fright (fun vs H Q E h => ?_) (fun cdv A outer s H vs Q E hr h => ?_)
  · obtain ⟨a, g, rfl, _⟩ := h
    rfl
  · obtain ⟨a, g, rfl, hg, q⟩ := h
    cases hg with
    | lt e1 e2 e3 => exact ⟨_, (pss_one (ps_ret (pe_fld (pv 0) (by rfl)))), _, rfl, a, FC, _, _, _, rfl, e1, FF.cls, FF.n4, rfl, q⟩
    | op e1 h1 h2 e4 e5 e6 e7 => exact ⟨_, (pss_one (ps_ret (pe_fld (pv 0) (by rfl)))), _, rfl, a, FC, _, _, _, rfl, e1, FF.cls, FF.n4, rfl, q _ h2⟩
theorem c_fparts (FF : FoF K mg FC) (F : FunD K "parts" "Formula.parts" (defArgs s_fparts) (defBody s_fparts) (defScope s_fparts) [] [] f fd) : FnOk P w K mg base L2.CX0 1 f fd ["self"] (spFparts FC) := by
  have hnd := sc_fparts.nd
  refine F.ok sc_fparts (fun vs H Q E h => ?_) (fun cdv A outer s H vs Q E hr h => ?_)
  · obtain ⟨a, g, rfl, _⟩ := h
    rfl
  · obtain ⟨a, g, rfl, hg, l8, q⟩ := h
    obtain ⟨dx, sg, inn, lv, rv, ps, e, _, e3, pp, _⟩ := hg.o.ex
    refine ⟨_, (pss_one (ps_ret (pe_op (show OpR _ (binaryOp .Add) (rCatA K) from op_catA) (pe_fld (pv 0) (by rfl)) (pe_tup (pa_cons (pv 0) pa_nil))))), ?_⟩
    refine ⟨_, rfl, a, FC, dx, _, _, rfl, e, FF.cls, FF.n7, rfl, _, rfl, by show 1 ≤ sizeLine; decide, fun T nT => ?_⟩
    have s1 := same_new (o := .tup [V.ref a]) nT
    have lp : ps.length ≤ 200 := by
      have := innF_len g
      rw [pp.length]
      omega
    refine ⟨inn, T, ps.map V.ref, [.ref a], rfl, rfl, SqT.of (s1 _ _ e3), SqT.of upd_same, ?_, fun z => ?_, fun _ z => (by cases z), fun _ _ T2 nT2 => ?_⟩
    · rw [List.length_map, sizeLine_eq]
      simp only [List.length_singleton]
      omega
    · have z2 : ps = [] := List.map_eq_nil_iff.mp z
      subst z2
      refine q T [a] _ s1 upd_same ?_
      have e0 : innF g = [] := by
        cases hi : innF g with
        | nil => rfl
        | cons x y =>
          rw [hi] at pp
          cases pp
      unfold partsF
      rw [e0]
      exact .cons (hg.same s1) .nil
    · have s2 := s1.trans (same_new (o := .tup (ps.map V.ref ++ [.ref a])) nT2)
      refine q T2 (ps ++ [a]) _ s2 (by rw [upd_same, List.map_append]; rfl) ?_
      exact paired_app (paired_imp (fun _ _ z => FmAt.same z s2) pp) (.cons (hg.same s2) .nil)
theorem c_flen (T : Bt mg) (FF : FoF K mg FC) (F : FunD K "__len__" "Formula.__len__" (defArgs s_flen) (defBody s_flen) (defScope s_flen) [] [] f fd) : FnOk P w K mg base L2.CX0 1 f fd ["self"] (spFlen FC) := by
  have hnd := sc_flen.nd
  refine F.ok sc_flen (fun vs H Q E h => ?_) (fun cdv A outer s H vs Q E hr h => ?_)
  · obtain ⟨a, g, rfl, _⟩ := h
    rfl
  · obtain ⟨a, g, rfl, hg, q⟩ := h
    obtain ⟨dx, sg, inn, lv, rv, ps, e, e2, e3, pp, _⟩ := hg.o.ex
    refine ⟨_, (pss_one (ps_ret (pe_callB call_len_seq (by rfl) T.m_len (by decide +kernel) (pa_cons (pe_fld (pv 0) (by rfl)) pa_nil)))), _, rfl, a, FC, dx, _, _, rfl, e, FF.cls, FF.n6, rfl, sg, _, rfl, .inr (SqT.of e2), ?_⟩
    rw [List.length_map, Fm.sgs_len]
    exact q
theorem c_fstr (mstr : mg "str" = none) (FF : FoF K mg FC) (F : FunD K "__str__" "Formula.__str__" (defArgs s_fstr) (defBody s_fstr) (defScope s_fstr) [] [] f fd) : FnOk P w K mg base L2.CX0 1 f fd ["self"] (spFstr FC) := by
  have hnd := sc_fstr.nd
  refine F.ok sc_fstr (fun vs H Q E h => ?_) (fun cdv A outer s H vs Q E hr h => ?_)
  · obtain ⟨a, g, rfl, _⟩ := h
    rfl
  · obtain ⟨a, g, rfl, hg, q⟩ := h
    obtain ⟨dx, sg, inn, lv, rv, ps, e, e2, e3, pp, _⟩ := hg.o.ex
    exact ⟨_, (pss_one (ps_ret (pe_callTy SkE.call_str_str (by rfl) mstr (by decide +kernel) (pa_cons (pe_fld (pv 0) (by rfl)) pa_nil)))), _, rfl, a, FC, dx, _, _, rfl, e, FF.cls, FF.n5, rfl, _, rfl, q⟩
theorem c_feq (T : Bt mg) (FF : FoF K mg FC) (F : FunD K "__eq__" "Formula.__eq__" (defArgs s_feq) (defBody s_feq) (defScope s_feq) [] [] f fd) : FnOk P w K mg base L2.CX0 1 f fd ["self", "other"] (spFeq K FC) := by
  have hnd := sc_feq.nd
  refine F.ok sc_feq (fun vs H Q E h => ?_) (fun cdv A outer s H vs Q E hr h => ?_)
  · obtain ⟨a, g, y, rfl, _⟩ := h
    rfl
  · obtain ⟨a, g, y, rfl, hg, q⟩ := h
    obtain ⟨dx, sg, inn, lv, rv, ps, e, e2, e3, pp, _⟩ := hg.o.ex
    refine ⟨_, (pss_one (ps_ret (pe_and (pe_callB call_isi (by rfl) T.m_isinstance (by decide +kernel) (pa_cons (pv 1) (pa_cons (pe_glob (v := .ref FC) (by rfl) FF.mgF rfl) pa_nil))) (pe_one (pe_cmpR op_eq (pe_fld (pv 0) (by rfl)) (pe_fld (pv 1) (by rfl)) (nomark _)))))), ?_⟩
    rcases q with ⟨c, g2, rfl, hg2, q⟩ | ⟨⟨t, ty, kn⟩, q⟩
    · obtain ⟨dx2, sg2, inn2, lv2, rv2, ps2, k1, _⟩ := hg2.o.ex
      refine ⟨_, rfl, _, _, _, _, _, rfl, .own FC, hg2.ty FF, FF.self, true, rfl, iteT ?_⟩
      refine ⟨_, rfl, a, FC, dx, _, _, rfl, e, FF.cls, FF.n5, rfl, _, rfl, c, FC, dx2, _, _, rfl, k1, FF.cls, FF.n5, rfl, rfl, ?_⟩
      rw [dec_str]
      exact q
    · exact ⟨_, rfl, _, _, _, _, _, rfl, .own FC, ty, kn, false, rfl, iteF q⟩
theorem c_fcont (T : Bt mg) (FF : FoF K mg FC) (PP : PrpM P w K mg base FC "parts" 1 (spFparts FC)) (QQ : SpcM P w K mg base L2.CX0 FC "__eq__" ["self", "other"] 1 (spFeq K FC)) (F : FunD K "__contains__" "Formula.__contains__" (defArgs s_fcont) (defBody s_fcont) (defScope s_fcont) [] [] f fd) : FnOk P w K mg base L2.CX0 4 f fd ["self", "value"] (spFcont K FC) := by
  have hnd := sc_fcont.nd
  obtain ⟨p9, g9, fd9, PP9, FP9, BP9⟩ := PP
  obtain ⟨fe, fde, he, hef, Fe, Be⟩ := QQ
  refine F.ok sc_fcont (fun vs H Q E h => ?_) (fun cdv A outer s H vs Q E hr h => ?_)
  · obtain ⟨a, g, y, rfl, _⟩ := h
    rfl
  · obtain ⟨a, g, y, rfl, hg, l8, q⟩ := h
    obtain ⟨dx, fs, e⟩ := hg.ins
    refine ⟨_, (pss_one (ps_ret (pe_and (pe_callB call_isi (by rfl) T.m_isinstance (by decide +kernel) (pa_cons (pv 1) (pa_cons (pe_glob (v := .ref FC) (by rfl) FF.mgF rfl) pa_nil))) (pe_one (pe_cmpR (show OpR _ (compareOp .In) (rInOwnT K FC (spFeq K FC)) from op_inOwnT Fe (hr.mono (by omega)) he hef Be) (pv 1) (pe_prop (E := L2.E0) (pv 0) FF.cls PP9 FP9 (hr.mono (by omega)) BP9 .nil (fun _ _ _ _ _ _ _ h => h.elim) (by rfl)) (by rfl)))))), ?_⟩
    rcases q with ⟨c, g2, rfl, hg2, q⟩ | ⟨⟨t, ty, kn⟩, q⟩
    · refine ⟨_, rfl, _, _, _, _, _, rfl, .own FC, hg2.ty FF, FF.self, true, rfl, iteT ?_⟩
      refine ⟨_, rfl, _, rfl, a, dx, fs, rfl, e, a, g, rfl, hg, l8, fun T9 ps H1 s1 eT pp => ?_⟩
      obtain ⟨dc, fc, ec⟩ := (hg2.same s1).ins
      have at_ : ∀ b ∈ ps, ∃ x, x ∈ partsF g ∧ FmAt FC H1 b x := fun b hb => by
        obtain ⟨i, hi⟩ := List.getElem?_of_mem hb
        have li : i < ps.length := (List.getElem?_eq_some_iff.mp hi).1
        have li2 : i < (partsF g).length := by rw [← pp.length]; exact li
        exact ⟨_, List.getElem_mem li2, paired_get2 pp i b _ hi (List.getElem?_eq_getElem li2)⟩
      have hx : ∀ b : Addr, ∃ t : List Nat, ∀ x, FmAt FC H1 b x → x.txt = t := fun b => by
        by_cases c : ∃ x, FmAt FC H1 b x
        · obtain ⟨x, hx⟩ := c
          refine ⟨x.txt, fun y hy => ?_⟩
          obtain ⟨d1, _, _, _, _, _, k1, _⟩ := hx.o.ex
          obtain ⟨d2, _, _, _, _, _, k2, _⟩ := hy.o.ex
          rw [k1] at k2
          injection k2 with k2
          injection k2 with _ _ k2
          simp only [fmF, List.cons.injEq, Prod.mk.injEq, V.str.injEq, true_and, and_true] at k2
          exact (SX.S_inj k2.2.2.2.2.1).symm
        · exact ⟨[], fun x hx => absurd ⟨x, hx⟩ c⟩
      let tx : Addr → List Nat := fun b => (hx b).choose
      have htx : ∀ b x, FmAt FC H1 b x → x.txt = tx b := fun b => (hx b).choose_spec
      refine ⟨T9, c, dc, fc, ps, fun b => decide (tx b = g2.txt), rfl, SqT.of eT, rfl, ec, fun b hb => ?_, fun _ => ?_, fun b hb G sG => ?_, fun H' s' => ?_⟩
      · obtain ⟨x, _, hx⟩ := at_ b hb
        exact hx.ins
      · exact decide_eq_true (htx c g2 (hg2.same s1)).symm
      · obtain ⟨x, _, hx⟩ := at_ b hb
        refine ⟨b, x, .ref c, rfl, hx.same sG, .inl ⟨c, g2, rfl, (hg2.same s1).same sG, ?_, sG⟩⟩
        rw [htx b x hx]
      · have ea : (ps.any fun b => decide (tx b = g2.txt)) = (partsF g).any fun p => decide (p.txt = g2.txt) := by
          have go : ∀ {xs : List Addr} {ys : List Fm}, Paired (FmAt FC H1) xs ys → (xs.any fun b => decide (tx b = g2.txt)) = ys.any fun p => decide (p.txt = g2.txt) := fun {xs ys} p => by
            induction p with
            | nil => rfl
            | cons r _ ih => rw [List.any_cons, List.any_cons, ih, htx _ _ r]
          exact go pp
        rw [ea]
        exact q H' (s1.trans s')
    · exact ⟨_, rfl, _, _, _, _, _, rfl, .own FC, ty, kn, false, rfl, iteF q⟩
end
end L2.K06
set_option Elab.async false
set_option linter.all false
set_option maxRecDepth 100000
set_option maxHeartbeats 4000000
/-! name = {k: v for ..}, the name a local -/
namespace L2.Tb
open PySem PySem.Spec PyProof.Rows
section
variable {X : Cx}
theorem ps_setDc {i : Nat} {y : Str} {py : Pos} {kx vx tg iter : Expr} {ifs : List Expr} {scope : Scope} {own : List (Str × Nat)} {pos spos : Pos} {wi : TI} {g : TG} {tt : TT} {tk tv : TE} (hc : X.calm = true) (hN : X.N.Nodup) (hy : X.N[i]? = some y) (hyl : X.env.scope.names.lookup y = some .local)
    (hsw : swapsWith (.DictComp kx vx [⟨tg, iter, ifs, 0⟩] scope pos) (some (.Name y py)) spos.line X.env = pure true) (hi : PI X tg iter wi) (ok : BlkOk X.N X.env.scope scope own)
    (hg : ∀ (s : Shared) (H : Hp) (C : Addr) (cl : List (Str × Addr)) (fp : List Addr), PG (X.blk s H scope (compEnvC scope cl C X.env) fp) tg g) (ht : ∀ (s : Shared) (H : Hp) (C : Addr) (cl : List (Str × Addr)) (fp : List Addr), PTs (X.blk s H scope (compEnvC scope cl C X.env) fp) ifs tt)
    (hk : ∀ (s : Shared) (H : Hp) (C : Addr) (cl : List (Str × Addr)) (fp : List Addr), PE (X.blk s H scope (compEnvC scope cl C X.env) fp) kx tk)
    (he : ∀ (s : Shared) (H : Hp) (C : Addr) (cl : List (Str × Addr)) (fp : List Addr), PE (X.blk s H scope (compEnvC scope cl C X.env) fp) vx tv) (hs : ∀ x, foldedSetIterable iter X.env x = pure x := by intro _; rfl) :
    PS X (.Assign [.Name y py] (.DictComp kx vx [⟨tg, iter, ifs, 0⟩] scope pos) spos) (tAsg (tDc wi g tt tk tv (own.map (·.2))) (gName i)) := by
  refine ⟨fun pins s σ H D I h => ?_⟩
  rw [exec_Assign_Name_used _ _ _ _ hsw]
  refine wpAny_bind (wpAny_standAt (wpAny_bind ?_))
  show wpAny _ X.A (do let _ ← comprehension (.DictComp kx vx [⟨tg, iter, ifs, 0⟩] scope pos) scope X.env (firstIterPos [⟨tg, iter, ifs, 0⟩] pos) newDict false (eval iter X.env) (some (assign (.Name y py) X.env))) _ _ s
  have h : tDc wi g tt tk tv (own.map (·.2)) σ H (fun x H1 => gName i x σ H1 D.nx) := h
  refine wpAny_bind (thn (dc_core (Qf := fun _ s' => SP X pins D .next s') hc hN I hi ok hg ht hk he hs h fun L C s' m H' I' q hn f => ?_) fun _ s' hq => wpAny_pure (wpAny_pure hq))
  show wpAny _ _ (assign (.Name y py) X.env (.ref L)) _ _ _
  refine wpAny_assign_Name (store_ok2 (v := V.ref L) I' hN hy (.inl hyl) rfl (fun s2 I2 ⟨a, sb, ha⟩ => ?_) (.inr hyl))
  obtain ⟨f0, f1, f2, f3, f4, f5⟩ := f
  have haC : C ≠ a := by
    rcases ha with z | z
    · rw [z]; exact f1
    · exact fun e => f4 y a z e.symm
  refine ⟨m, hn.sameBut sb haC, fun h3 sb3 => ?_⟩
  exact ⟨_, H', I2.turned (t' := s2.toks) (fun b o hb e => (sb3.2 b hb).trans e) f0 f1 f3 f4 f5, q⟩
theorem sw_trueD {kx vx : Expr} {gs : List Comprehension} {scope : Scope} {pos py : Pos} {y : Str} {l : Nat} {env : Env} (hk : env.scope.kind = .function) (hy : env.scope.names.lookup y = some .local) (hl : (py.line == pos.line) = true)
    (ha : (scope.names.any fun (n, k) => n == y && (k == .local || k == .cell)) = false) : swapsWith (.DictComp kx vx gs scope pos) (some (.Name y py)) l env = pure true := by
  have ky : env.kindOf y = some .local := hy
  have hb : env.blockKind = .function := by unfold Env.blockKind; rw [hk]; rfl
  unfold swapsWith
  simp only [hb, ky, ha, Expr.pos, hl]
  rfl
end
end L2.Tb
set_option Elab.async false
set_option linter.all false
set_option maxRecDepth 100000
set_option maxHeartbeats 4000000
/-! == of two tuples of three dicts each; sorted of a dict with int keys, any number of them -/
namespace L2.Tb
open PySem PySem.Spec PyProof.Rows
open PySem.SeqAt PySem.AutoSeq1
section
variable {prog : Program} {w : World}
/-- two tuples, item by item -/
theorem tupEq_in (l b : Addr) (xs ys : Array Value) (n n2 : Nat) (dd dd2 : Option Addr) (sl sl2 : Array (Option Value)) (e : Nat → Bool) :
    MeetsIn prog w (Builtin.«tuple.__eq__» ⟨[.ref l, .ref b], []⟩)
      (fun A R s => (s.heap.get? l = some { cls := .type "tuple", dict := dd, data := .seq xs n, slots := sl } ∧ s.heap.get? b = some { cls := .type "tuple", dict := dd2, data := .seq ys n2, slots := sl2 }) ∧
        (∀ j (h1 : j < xs.size) (h2 : j < ys.size), EqP prog w A.in1 s xs[j] ys[j] (e j)) ∧ R (.ok (.ret (.bool ((List.range (min xs.size ys.size)).all e && xs.size == ys.size)))) s) := by
  rintro A R ⟨hp, g, d, tk, os⟩ ⟨⟨ha, hb⟩, he, fin⟩
  have sub := AutoSeq1.sub_tuple_tuple
  have len : (xs.toList.zip ys.toList).length = min xs.size ys.size := by simp
  wp_walk using wpAny_loadPart' ha, wpAny_loadPart' hb,
    wpAny_forIn_list _ (fun left got s' => (got.1 = none ∧ s' = ⟨hp, g, d, tk, os⟩) ∧ ∃ at_, left = (xs.toList.zip ys.toList).drop at_ ∧ R (.ok (.ret (.bool (((List.range (min xs.size ys.size)).drop at_).all e && xs.size == ys.size)))) ⟨hp, g, d, tk, os⟩) _
  case h => exact ⟨⟨rfl, rfl⟩, 0, rfl, by simpa using fin⟩
  case turn =>
    rintro ⟨u, v⟩ left got s' ⟨⟨g1, rfl⟩, at_, hleft, q⟩
    have lt : at_ < min xs.size ys.size := by
      rw [← len]
      refine Nat.lt_of_not_le fun ge => ?_
      rw [List.drop_of_length_le ge] at hleft
      cases hleft
    have ltz : at_ < (xs.toList.zip ys.toList).length := by rw [len]; exact lt
    have lx : at_ < xs.size := by omega
    have ly : at_ < ys.size := by omega
    rw [List.drop_eq_getElem_cons ltz] at hleft
    obtain ⟨huv, hrest⟩ := List.cons.inj hleft
    obtain rfl : u = xs[at_] := by simpa using congrArg Prod.fst huv
    obtain rfl : v = ys[at_] := by simpa using congrArg Prod.snd huv
    have cut : (List.range (min xs.size ys.size)).drop at_ = at_ :: (List.range (min xs.size ys.size)).drop (at_ + 1) := by
      simp [List.drop_eq_getElem_cons, lt]
    rw [cut, List.all_cons] at q
    refine wpAny_bind (he at_ lx ly _ _ ?_)
    cases c : e at_ with
    | false =>
      rw [c] at q
      wp_walk
      simpa using q
    | true =>
      rw [c] at q
      wp_walk
      exact ⟨⟨rfl, rfl⟩, at_ + 1, hrest, by simpa using q⟩
  case fin =>
    rintro ⟨g1, g2⟩ s' ⟨⟨hg, rfl⟩, at_, hleft, q⟩
    obtain rfl : g1 = none := hg
    have ge : min xs.size ys.size ≤ at_ := by
      rw [← len]
      refine Nat.le_of_not_lt fun lt => ?_
      rw [List.drop_eq_getElem_cons lt] at hleft
      cases hleft
    rw [List.drop_of_length_le (by simpa using ge)] at q
    wp_walk
    simpa [Builtin.Tuple.tupleCompareSizes] using q
/-- two tuples, whatever their items say here -/
theorem tupEq_run {A : Around} {s : Shared} {l b : Addr} {xs ys : Array Value} {e : Nat → Bool} (hl : s.heap.IsTuple l xs) (hb : s.heap.IsTuple b ys) (hu : A.units < cLine)
    (he : ∀ j (h1 : j < xs.size) (h2 : j < ys.size), EqP prog w A.in1 s xs[j] ys[j] (e j)) (E Q : Value → Shared → Prop) (h : Q (.bool ((List.range (min xs.size ys.size)).all e && xs.size == ys.size)) s) : wpAny (model prog w) A (richCompare .Eq (.ref l) (.ref b)) Q E s := by
  obtain ⟨⟨_, dd, _, sl⟩, ho, hc, n, hd⟩ := hl
  obtain ⟨⟨_, dd2, _, sl2⟩, ho2, hc2, n2, hd2⟩ := hb
  simp only at hc hd hc2 hd2
  subst hc hd hc2 hd2
  refine wpAny_richCompare_same_room (op := .Eq) ⟨_, ho, rfl⟩ ⟨_, ho2, rfl⟩ F.slot_tuple_eq ?_ hu
  exact call_meetsIn F.slot_tuple_eq ⟨_, ho, rfl⟩ F.entry_tuple_eq (F.args_tuple_eq_2 _ _) (tupEq_in l b xs ys n n2 dd dd2 sl sl2 e) ⟨⟨ho, ho2⟩, he, (fun x => nomatch x), h⟩
end
/-- equal dicts: as many keys, and each key of the one is there with the same value -/
def dEq (ks ls : List (Key × V)) : Bool := ks.length == ls.length && ks.all fun p => decide (valV ls p.1 = some p.2)
/-- all values ints -/
def IntVals (ks : List (Key × V)) : Prop := ∀ p ∈ ks, ∃ i : Int, p.2 = .int i
section
variable {X : Cx} {pins : List (Addr × Obj)} {σ : L2.St} {H : Hp} {s : Shared}
theorem dHits {P : Program} {A : Around} {w : World} {ls : List (Key × V)} {vb : List (Key × Value)} (rb : KV ls vb) (il : IntVals ls) : ∀ {ks : List (Key × V)} {va : List (Key × Value)}, KV ks va → IntVals ks → PySem.W.KeqHitsP P w A s vb va (ks.all fun p => decide (valV ls p.1 = some p.2)) := by
  intro ks va ra
  unfold KV at ra
  induction ra with
  | nil => exact fun _ => .nil
  | @cons p q ps qs h t ih =>
    intro ik
    obtain ⟨h1, h2⟩ := h
    obtain ⟨key, v⟩ := q
    obtain rfl : p.1 = key := h1
    obtain ⟨i, hi⟩ := ik p List.mem_cons_self
    have rest := ih fun p' hm => ik p' (List.mem_cons_of_mem _ hm)
    rw [List.all_cons]
    have ro := rb.val p.1
    cases e : valV ls p.1 with
    | none =>
      rw [e] at ro
      have hn : valueAt vb p.1 = none := by
        cases c : valueAt vb p.1 with
        | none => rfl
        | some y => rw [c] at ro; exact ro.elim
      rw [decide_eq_false (by simp), Bool.false_and]
      exact .miss hn
    | some u =>
      rw [e] at ro
      obtain ⟨y, hy, ry⟩ := RelO.some_of ro
      have hu : ∃ j : Int, u = .int j := by
        have : ∀ {ls : List (Key × V)}, IntVals ls → valV ls p.1 = some u → ∃ j : Int, u = .int j := by
          intro ls
          induction ls with
          | nil => intro _ e; cases e
          | cons x r ih =>
            intro hl e
            by_cases c : x.1 = p.1
            · obtain ⟨k, v⟩ := x
              obtain rfl : k = p.1 := c
              rw [valV_pos rfl] at e
              cases e
              exact hl _ List.mem_cons_self
            · obtain ⟨k, v⟩ := x
              rw [valV_neg c] at e
              exact ih (fun p' hm => hl p' (List.mem_cons_of_mem _ hm)) e
        exact this il e
      obtain ⟨j, rfl⟩ := hu
      rw [hi] at h2 ⊢
      obtain ⟨t1, rfl⟩ := h2
      obtain ⟨t2, rfl⟩ := ry
      have hd : decide ((some (V.int j)) = some (V.int i)) = (i == j) := by
        by_cases c : i = j
        · subst c; simp
        · simp [c, Ne.symm c]
      rw [hd]
      exact .hit hy (EqAt.int_int i t1 j t2).eqP rest
/-- two tuples of three dicts, keys of one model, values ints -/
def rEqT3 : R2 := fun x y H Q => ∃ (a b a0 a1 a2 b0 b1 b2 : Addr) (k0 k1 k2 l0 l1 l2 : List (Key × V)), x = .ref a ∧ y = .ref b ∧ H a = some (.tup [.ref a0, .ref a1, .ref a2]) ∧ H b = some (.tup [.ref b0, .ref b1, .ref b2]) ∧
  (H a0 = some (.dK k0) ∧ H a1 = some (.dK k1) ∧ H a2 = some (.dK k2)) ∧ (H b0 = some (.dK l0) ∧ H b1 = some (.dK l1) ∧ H b2 = some (.dK l2)) ∧ (IntVals k0 ∧ IntVals k1 ∧ IntVals k2) ∧ (IntVals l0 ∧ IntVals l1 ∧ IntVals l2) ∧
  (dEq k0 k0 = true ∧ dEq k1 k1 = true ∧ dEq k2 k2 = true) ∧ Q (.bl (dEq k0 l0 && (dEq k1 l1 && dEq k2 l2))) H
theorem dict_eqP (I : Inv X pins σ H s) {A : Around} (hu : A.units < cLine) {a b : Addr} {ks ls : List (Key × V)} (ha : H a = some (.dK ks)) (hb : H b = some (.dK ls)) (ik : IntVals ks) (il : IntVals ls) (self : dEq ks ks = true) : EqP X.prog X.w A s (.ref a) (.ref b) (dEq ks ls) := by
  by_cases hab : a = b
  · subst hab
    rw [ha] at hb
    cases hb
    rw [self]
    exact (EqAt.same _).eqP
  · refine eqP_refs hab fun E Q q => ?_
    obtain ⟨_, ya, va, ra, da⟩ := (show ObjOk X.prog X.w H s.heap a (.dK ks) from I.hok a _ ha)
    obtain ⟨_, yb, vb, rb, db⟩ := (show ObjOk X.prog X.w H s.heap b (.dK ls) from I.hok b _ hb)
    refine PySem.W.rcP_dicts (knd := mixKind X.prog X.w) ya yb da db hu (fun _ => dHits rb il ra ik) E Q ?_
    rw [← ra.length, ← rb.length]
    exact q
theorem refs3 {a b c : Addr} : ∀ {us : List Value}, Vals [V.ref a, .ref b, .ref c] us → us = [.ref a, .ref b, .ref c]
  | _, .cons h0 (.cons h1 (.cons h2 .nil)) => by
    cases (show _ = Value.ref a from h0)
    cases (show _ = Value.ref b from h1)
    cases (show _ = Value.ref c from h2)
    rfl
theorem op_eqT3 (hu : X.A.units + 64 < cLine) : OpR X (compareOp .Eq) rEqT3 := by
  intro pins s σ H x y v u Q I rx ry h
  obtain ⟨a, b, a0, a1, a2, b0, b1, b2, k0, k1, k2, l0, l1, l2, rfl, rfl, ea, eb, ⟨d0, d1, d2⟩, ⟨e0, e1, e2⟩, ⟨i0, i1, i2⟩, ⟨j0, j1, j2⟩, ⟨s0, s1, s2⟩, q⟩ := h
  cases (show v = Value.ref a from rx)
  cases (show u = Value.ref b from ry)
  obtain ⟨us, r1, p1, _⟩ := I.tuple (SqT.of ea)
  obtain ⟨ws, r2, p2, _⟩ := I.tuple (SqT.of eb)
  have eu : us = [.ref a0, .ref a1, .ref a2] := refs3 r1
  have ew : ws = [.ref b0, .ref b1, .ref b2] := refs3 r2
  subst eu
  subst ew
  have hin : X.A.in1.units < cLine := by
    show X.A.units + 1 < cLine
    omega
  refine tupEq_run (e := fun j => match j with | 0 => dEq k0 l0 | 1 => dEq k1 l1 | _ => dEq k2 l2) p1 p2 (by omega) (fun j h1 h2 => ?_) _ _ ⟨.bl (dEq k0 l0 && (dEq k1 l1 && dEq k2 l2)), H, I, ?_, q⟩
  · match j, h1 with
    | 0, _ => exact dict_eqP I hin d0 e0 i0 j0 s0
    | 1, _ => exact dict_eqP I hin d1 e1 i1 j1 s1
    | 2, _ => exact dict_eqP I hin d2 e2 i2 j2 s2
    | j + 3, h => exact absurd h (by show ¬ (j + 3 < 3); omega)
  · show Value.bool _ = Value.bool _
    congr 1
    show ((List.range 3).all _ && true) = _
    rw [Bool.and_true]
    show (dEq k0 l0 && (dEq k1 l1 && (dEq k2 l2 && true))) = _
    rw [Bool.and_true]
/-- sorted(d), d a dict with int keys, any number of them -/
def rSortDI : List V → Hp → VK → Prop := fun xs H Q => ∃ (a : Addr) (kvs : List (Key × V)) (ks : List Int), xs = [.ref a] ∧ Rd H a (.dK kvs) ∧ kvs.map (·.1) = ks.map Sum.inl ∧ ks.length ≤ 100000 ∧
  ∀ (ys : List Int) (p : Addr), ys.Perm ks → ys.Pairwise (· ≤ ·) → H p = none → Q (.ref p) (upd H p (.lst (ys.map V.int)))
theorem intsEach : ∀ {vs : List Value} {ns : List Int}, vs.length = ns.length → (∀ (j : Nat) (v : Value), vs[j]? = some v → ∃ (x : Int) (t : Tok), ns[j]? = some x ∧ v = .int x t) → IntsAre vs ns
  | [], [], _, _ => .nil
  | v :: vs, n :: ns, hl, h => by
    obtain ⟨x, t, e1, e2⟩ := h 0 v rfl
    obtain rfl : n = x := Option.some.inj e1
    subst e2
    refine .cons _ _ (intsEach (by simpa using hl) fun j u e => ?_)
    obtain ⟨x, t, a, b⟩ := h (j + 1) u (by simpa using e)
    exact ⟨x, t, by simpa using a, b⟩
  | [], _ :: _, hl, _ => by simp at hl
  | _ :: _, [], hl, _ => by simp at hl
theorem call_sortDI (hcalm : X.calm = true) : CallR X (.builtin "sorted") rSortDI := by
  intro pins s σ H xs us Q I r q
  obtain ⟨a, kvs, ks, rfl, hd, hks, few, q⟩ := q
  rw [Vals.ref1 r]
  obtain ⟨z, lo, vs, rel, dd⟩ := dk_rd I.hok hd
  obtain ⟨ep, hat⟩ := dd.dictAt
  have keys : vs.map (·.1) = ks.map Sum.inl := rel.keys.symm.trans hks
  have hl : vs.length = ks.length := by simpa using congrArg List.length keys
  have fit : vs.length ≤ sizeLine := by rw [hl, sizeLine_eq]; omega
  refine Calls.call_function_entry PyProof.Rows.kind_sorted PyProof.Rows.plain_sorted PyProof.Rows.entry_sorted (PyProof.Rows.args_sorted1 _) (show wpAny _ _ (Builtin.«sorted» _) _ _ _ from ?_)
  unfold Builtin.«sorted»
  refine wpAny_bind (m := checkCount "sorted" 1 1 _) (wpAny_pure (wpAny_bind ?_))
  refine (PySem.W.kdu_collect (A := X.A.in1) (PySem.W.kdl_dict (knd := mixKind X.prog X.w) (kvs := vs) (ep := ep) lo) (I.ok.hd hcalm) hat fit fun h1 tk acc keep got => ?_)
  have hal : acc.toList.length = ks.length := by rw [Array.length_toList, got.1, hl]
  have ia9 : IntsAre acc.toList ks := intsEach hal fun j v e => by
    obtain ⟨k, x, e1, e2⟩ := got.2 j v (by rw [← Array.getElem?_toList]; exact e)
    have e3 : (ks.map Sum.inl)[j]? = some k := by
      rw [← keys, List.getElem?_map, e1]
      rfl
    rw [List.getElem?_map] at e3
    obtain ⟨y, e4, rfl⟩ := Option.map_eq_some_iff.mp e3
    rcases keyIs_shape (show keyIs (Sum.inl y) v = true from e2) with ⟨i, t, ek, ev⟩ | ⟨z, t, ek, ev⟩
    · cases ek
      exact ⟨y, t, e4, ev⟩
    · cases ek
  have I1 : Inv X pins σ H { s with heap := h1, toks := tk } := I.kept keep
  refine wpAny_bind (wpAny_newList ?_ (by rw [hal, sizeLine_eq]; omega))
  have hoL : (h1.push (seqObj "list" acc.toList.toArray 0)).get? h1.objs.size = some (seqObj "list" acc.toList.toArray 0) := Heap.get?_push_size _ rfl
  show wpAny _ _ _ _ _ { s with heap := h1.push (seqObj "list" acc.toList.toArray 0), toks := tk }
  refine wpAny_bind (wpAny_holding (wpAny_call_entry PyProof.Rows.slot_list_sort ⟨_, hoL, rfl⟩ PyProof.Rows.entry_list_sort
    (SrtO.list_sort_ord (s := { s with heap := h1.push (seqObj "list" acc.toList.toArray 0), toks := tk }) SrtO.swo_int hoL (by rw [hal, sizeLine_eq]; omega) (fun h2 => SrtO.ints_sortable ia9 h2) fun out g1 g2 => ⟨_, rfl, ?_⟩) (PyProof.Rows.args_list_sort _)))
  obtain ⟨k1, k2, k3⟩ := SrtO.ints_out ia9 g1 g2
  obtain ⟨e', he'⟩ := PyProof.Rows.sortedHeap_at (vs := acc.toList) (out := out.toArray) hoL
  have hlen : ((out.map SrtO.iv).map V.int).length ≤ sizeLine := by
    rw [List.length_map, k2.length_eq, sizeLine_eq]
    omega
  refine wpAny_pure ⟨_, rfl, .ref h1.objs.size, upd H h1.objs.size (.lst ((out.map SrtO.iv).map V.int)), I1.laid (t' := tk) (fun b u e => ?_) (Nat.le_refl _) ⟨hlen, out, e', vals_of_ints k1, he'⟩, rfl, q _ _ k2 k3 (I1.hok.fresh (Nat.le_refl _))⟩
  have hb : b < h1.objs.size := Heap.lt_size e
  have old := PyProof.Rows.sortedHeap_old (a := h1.objs.size) (vs := acc.toList) (out := out.toArray) (Nat.ne_of_lt hb) (show b < (h1.push (seqObj "list" acc.toList.toArray 0)).objs.size by rw [size_push']; exact Nat.lt_succ_of_lt hb)
  exact old.trans (Heap.get?_push_of_some _ e)
end
end L2.Tb
set_option Elab.async false
set_option linter.all false
set_option maxRecDepth 100000
set_option maxHeartbeats 8000000
namespace L2.K06
open PySem PySem.Spec PyProof.Rows L2.Tb
open SX (S)
abbrev s_in_order : Stmt := top 21
abbrev N_in_order : List Str := ["parts", "part", "by_text", "text", "order", "_"]
theorem sc_in_order : FnScope N_in_order ["parts"] (defScope s_in_order) := ⟨rfl, rfl, rfl, by decide +kernel, rfl, by decide +kernel, by decide +kernel⟩
/-! ### each once, in order -/
def qtx (q : Addr × Fm) : List Nat := q.2.txt
def entK (q : Addr × Fm) : Key × V := (Sum.inr (S q.2.txt), V.ref q.1)
theorem key_dec {a b : List Nat} : decide ((Sum.inr (S a) : Key) = Sum.inr (S b)) = decide (a = b) := decide_eq_decide.mpr ⟨fun h => SX.S_inj (by injection h), fun h => by rw [h]⟩
theorem putK_ent (l : List (Addr × Fm)) (q : Addr × Fm) : putK (l.map entK) (Sum.inr (S q.2.txt)) (.ref q.1) = (insK qtx l q).map entK := by
  unfold putK insK
  have e : ((l.map entK).any fun kv => decide (kv.1 = (Sum.inr (S q.2.txt) : Key))) = l.any fun x => decide (qtx x = qtx q) := by
    rw [List.any_map]
    exact congrArg (fun f => l.any f) (funext fun x => key_dec)
  rw [e]
  by_cases c : (l.any fun x => decide (qtx x = qtx q)) = true
  · rw [if_pos c, if_pos c, List.map_map, List.map_map]
    refine List.map_congr_left fun x _ => ?_
    simp only [Function.comp]
    by_cases e : qtx x = qtx q
    · rw [if_pos e, if_pos (show (entK x).1 = (Sum.inr (S q.2.txt) : Key) from by unfold entK; rw [show x.2.txt = q.2.txt from e])]
      unfold entK
      rw [show x.2.txt = q.2.txt from e]
    · rw [if_neg e, if_neg (show ¬ ((entK x).1 = (Sum.inr (S q.2.txt) : Key)) from fun z => e (of_decide_eq_true ((key_dec (a := x.2.txt) (b := q.2.txt)).symm.trans (decide_eq_true z))))]
  · rw [if_neg c, if_neg c, List.map_append]
    rfl
theorem val_ent : ∀ {l : List (Addr × Fm)}, (l.map qtx).Nodup → ∀ q ∈ l, valV (l.map entK) (Sum.inr (S q.2.txt)) = some (.ref q.1)
  | [], _, q, h => by cases h
  | x :: l, nd, q, h => by
    obtain ⟨n1, n2⟩ := List.nodup_cons.mp nd
    have ih := fun hq => val_ent n2 q hq
    unfold valV at ih ⊢
    rw [List.map_cons, List.find?_cons]
    by_cases e : x.2.txt = q.2.txt
    · rw [show decide ((entK x).1 = (Sum.inr (S q.2.txt) : Key)) = true from decide_eq_true (by unfold entK; rw [e])]
      rcases List.mem_cons.mp h with rfl | h
      · rfl
      · exact absurd (List.mem_map.mpr ⟨q, h, e.symm⟩) n1
    · rw [show decide ((entK x).1 = (Sum.inr (S q.2.txt) : Key)) = false from (key_dec (a := x.2.txt) (b := q.2.txt)).trans (decide_eq_false e)]
      rcases List.mem_cons.mp h with rfl | h
      · exact absurd rfl e
      · exact ih h
def spOrder (FC : Addr) : Sp := fun vs H Q _ => ∃ (T : Addr) (ps : List Addr) (fs : List Fm), vs = [.ref T] ∧ H T = some (.tup (ps.map V.ref)) ∧ Paired (FmAt FC H) ps fs ∧ fs.length ≤ 1000 ∧ (∀ g ∈ fs, g.ops ≤ 1000) ∧
  ∀ (R : Addr) (qs : List Addr) (H' : Hp), Same H H' → H' R = some (.tup (qs.map V.ref)) → Paired (FmAt FC H') qs (ordF fs) → Q (.ref R) H'
theorem get_take {α : Type} {l : List α} {i : Nat} {x : α} (h : l[i]? = some x) : l.take (i + 1) = l.take i ++ [x] := by rw [List.take_add_one, h]; rfl
theorem paired_zipQ {α β : Type} {R : α → β → Prop} : ∀ {xs : List α} {ys : List β}, Paired R xs ys → (∀ q ∈ xs.zip ys, R q.1 q.2) ∧ (xs.zip ys).map (·.1) = xs ∧ (xs.zip ys).map (·.2) = ys ∧ (xs.zip ys).length = xs.length
  | _, _, .nil => ⟨fun q h => (by cases h), rfl, rfl, rfl⟩
  | _, _, .cons a t => by
    obtain ⟨h1, h2, h3, h4⟩ := paired_zipQ t
    refine ⟨fun q hq => ?_, by simp [h2], by simp [h3], by simp [h4]⟩
    rcases List.mem_cons.mp hq with rfl | hq
    · exact a
    · exact h1 q hq
section
variable {P : Program} {w : World} {K : PySem.W.Frag} {mg : Str → Option Value} {base : Heap} {f : Addr} {fd : FuncData} {FC : Addr}
theorem c_in_order (T : Bt mg) (mstr : mg "str" = none) (FF : FoF K mg FC) (SS : SpcM P w K mg base L2.CX0 FC "__str__" ["self"] 1 (spFstr FC)) (LL : SpcM P w K mg base L2.CX0 FC "__len__" ["self"] 1 (spFlen FC)) (F : FnP K "_in_order" s_in_order f fd) (hm : mg "_in_order" = some (.ref f)) : Cal P w K mg base 4 "_in_order" (spOrder FC) := by
  have hnd := sc_in_order.nd
  obtain ⟨fs_, fds, hs, hsf, Fs, Bs⟩ := SS
  obtain ⟨fl_, fdl, hl, hlf, Fl, Bl⟩ := LL
  refine cal_mk F hm sc_in_order (fun _ _ _ _ _ _ us hl => match us, hl with | [_], _ => rfl) (fun vs H Q E h => ?_) (fun cdv A outer s H vs Q E hr h => ?_)
  · obtain ⟨T0, ps, fs, rfl, _⟩ := h
    rfl
  · obtain ⟨T0, ps, fs, rfl, eT, pp, few, ops9, q⟩ := h
    obtain ⟨zR, z1, z2, zl⟩ := paired_zipQ pp
    have lps : ps.length = fs.length := pp.length
    generalize hz : ps.zip fs = z at zR z1 z2 zl
    refine ⟨_, (pss_cons (ps_set (i := 2) hnd rfl (by first | exact Or.inl rfl | exact Or.inr rfl) (pe_dc (own := [("part", 1)]) (g := gName 1) (tt := tYes) (by rfl) hnd (pi_tup (pv 0)) (blkOk_by (own := [("part", 1)]) (N := N_in_order) (sc := defScope s_in_order) (by decide +kernel)) (fun _ _ _ _ _ => (pg_name (i := 1) hnd rfl (by first | exact Or.inl rfl | exact Or.inr rfl))) (fun _ _ _ _ _ => pts_nil) (fun _ _ _ _ _ => (pe_callTy (show CallR _ (.type "str") (rStrOwn FC (spFstr FC)) from call_strOwn Fs (hr.mono (by omega)) hs hsf Bs) (by rfl) mstr (by decide +kernel) (pa_cons (pv 1) pa_nil))) (fun _ _ _ _ _ => pv 1)))
      (pss_cons (ps_set (i := 4) hnd rfl (by first | exact Or.inl rfl | exact Or.inr rfl) (pe_callB (show CallR _ (.builtin "sorted") (rSortIS K) from call_sortIS (Nat.lt_of_le_of_lt (Nat.add_le_add_left (by decide) _) hr.units)) (by rfl) T.m_sorted (by decide +kernel) (pa_cons (pe_lock (pe_lc (own := [("text", 3), ("part", 1)]) (tt := tYes) (g := (gTup K 2 (gCons (gName 3) (gCons (gName 1) gNil)))) (by rfl) hnd (pi_items (pv 2)) (blkOk_by (own := [("text", 3), ("part", 1)]) (N := N_in_order) (sc := defScope s_in_order) (by decide +kernel)) (fun _ _ _ _ _ => (pg_tup (by rfl) (pgs_cons (pg_name (i := 3) hnd rfl (by first | exact Or.inl rfl | exact Or.inr rfl)) (pgs_cons (pg_name (i := 1) hnd rfl (by first | exact Or.inl rfl | exact Or.inr rfl)) pgs_nil)))) (fun _ _ _ _ _ => pts_nil) (fun _ _ _ _ _ => (pe_tup (pa_cons (pe_callB (show CallR _ (.builtin "len") (rLenOwn FC (spFlen FC)) from call_lenOwn Fl (hr.mono (by omega)) hl hlf Bl) (by rfl) T.m_len (by decide +kernel) (pa_cons (pv 1) pa_nil)) (pa_cons (pv 3) pa_nil)))))) pa_nil)))
      (pss_one (ps_ret (pe_callTy call_tuple_of (by rfl) T.m_tuple (by decide +kernel) (pa_cons (pe_lc (own := [("_", 5), ("text", 3)]) (tt := tYes) (g := (gTup K 2 (gCons (gName 5) (gCons (gName 3) gNil)))) (by rfl) hnd (pi_list (pv 4)) (blkOk_by (own := [("_", 5), ("text", 3)]) (N := N_in_order) (sc := defScope s_in_order) (by decide +kernel)) (fun _ _ _ _ _ => (pg_tup (by rfl) (pgs_cons (pg_name (i := 5) hnd rfl (by first | exact Or.inl rfl | exact Or.inr rfl)) (pgs_cons (pg_name (i := 3) hnd rfl (by first | exact Or.inl rfl | exact Or.inr rfl)) pgs_nil)))) (fun _ _ _ _ _ => pts_nil) (fun _ _ _ _ _ => (pe_dget (Nat.lt_of_le_of_lt (Nat.add_le_add_left (by decide) _) hr.units) (pv 2) (pv 3) (fun _ _ => rfl)))) pa_nil)))))), ?_⟩
    refine ⟨_, rfl, T0, rfl, ⟨_, SqT.of eT⟩, fun D nD => dc_tup (xs := ps.map V.ref) (fun i G => Same H G ∧ G D = some (.dK ((ddK qtx (z.take i)).map entK))) ⟨same_new nD, upd_same⟩ (fun i G _ h => SqT.of (h.1 _ _ eT)) ?_ ?_⟩
    · rintro i x G hi ⟨sG, eG⟩
      rw [← z1, List.map_map, List.getElem?_map] at hi
      obtain ⟨qq, hq, rfl⟩ : ∃ qq, z[i]? = some qq ∧ x = V.ref qq.1 := by
        cases e : z[i]? with
        | none => rw [e] at hi; cases hi
        | some qq => rw [e] at hi; exact ⟨qq, rfl, (Option.some.inj hi).symm⟩
      have hf := (zR qq (List.mem_of_getElem? hq)).same sG
      obtain ⟨dx, fs2, e2⟩ := hf.ins
      refine ⟨rfl, ?_⟩
      unfold tYes
      dsimp only
      rw [if_pos rfl]
      refine ⟨_, rfl, qq.1, dx, fs2, rfl, e2, qq.1, qq.2, rfl, hf, _, rfl, ?_⟩
      refine ⟨_, rfl, _, Sum.inr (S qq.2.txt), rfl, eG, ?_, same_pt nD sG, ?_⟩
      · rw [List.length_map, sizeLine_eq]
        have h1 := ddK_len qtx (z.take i)
        have h2 : (z.take i).length ≤ z.length := by rw [List.length_take]; omega
        omega
      · rw [upd_same, putK_ent, get_take hq, ddK_snoc]
    · rintro H1 ⟨s1, e1⟩
      have lz : z.length ≤ 1000 := by omega
      rw [List.length_map, lps, show fs.length = z.length by omega, List.take_length] at e1
      have ndd := ddK_nd qtx z
      have memd : ∀ q' ∈ ddK qtx z, q' ∈ z := fun q' h => ddK_mem h
      have ldd : (ddK qtx z).length ≤ 1000 := Nat.le_trans (ddK_len _ _) lz
      have hmap : (ddK qtx z).map (·.2) = ddK Fm.txt fs := by
        rw [← z2]
        exact ddK_map (t := Fm.txt) (g := fun q : Addr × Fm => q.2) z
      generalize hd : ddK qtx z = dd at e1 ndd memd ldd hmap
      -- the pairs of lengths and texts
      refine gname_go ?_
      try dsimp only
      refine ⟨D, _, e1, trivial, fun od => ?_⟩
      have eF : (upd H1 D (.frz od (.dK (dd.map entK)))) D = some (.frz od (.dK (dd.map entK))) := upd_same
      have sF : ∀ b o, b ≠ D → H1 b = some o → (upd H1 D (.frz od (.dK (dd.map entK)))) b = some o := fun b o n e => by rw [upd_ne n]; exact e
      have nHD : ∀ b o, H b = some o → b ≠ D := fun b o e => ne_of_none e nD
      generalize upd H1 D (.frz od (.dK (dd.map entK))) = H2 at eF sF
      refine ⟨_, rfl, D, od, _, rfl, eF, fun L nL => ?_⟩
      have nLD : D ≠ L := ne_of_none eF nL
      refine lc_it (walk_items (d := D) (o := od) (kvs := dd.map entK)) (fun i G => ∃ ts : List Addr, Same H2 G ∧ G L = some (.lst (ts.map V.ref)) ∧ Paired (fun t (q' : Addr × Fm) => G t = some (.tup [.int (q'.2.ops : Nat), .str (S q'.2.txt)])) ts (dd.take i))
        ⟨[], same_new nL, upd_same, .nil⟩ (fun i G _ ⟨ts, sG, _, _⟩ => sG _ _ eF) ?_ ?_
      · rintro i x G1 G2 hi ⟨ts, sG, eL, pt⟩ ⟨T', u, v, rfl, nT, rfl, hu, hv⟩
        rw [List.length_map] at hi
        have hq : dd[i]? = some dd[i] := List.getElem?_eq_getElem hi
        generalize dd[i] = q' at hq
        dsimp only at hu hv
        rw [List.getElem?_map, hq] at hu hv
        obtain rfl : V.str (S q'.2.txt) = u := Option.some.inj hu
        obtain rfl : V.ref q'.1 = v := Option.some.inj hv
        have sT := same_new (o := .tup [V.str (S q'.2.txt), V.ref q'.1]) nT
        have hf : FmAt FC (upd G1 T' (.tup [V.str (S q'.2.txt), V.ref q'.1])) q'.1 q'.2 := (zR q' (memd q' (List.mem_of_getElem? hq))).mono fun b o _ e => sT _ _ (sG _ _ (sF _ _ (nHD _ _ e) (s1 _ _ e)))
        obtain ⟨dx, fs2, e2⟩ := hf.ins
        refine ⟨T', _, rfl, SqT.of upd_same, rfl, _, _, rfl, _, _, rfl, rfl, rfl, ?_⟩
        unfold tYes
        dsimp only
        rw [if_pos rfl]
        refine ⟨_, rfl, q'.1, dx, fs2, rfl, e2, q'.1, q'.2, rfl, hf, (q'.2.ops : Nat), rfl, Int.natCast_nonneg _, ?_, _, rfl, by show 2 ≤ sizeLine; decide, fun T2 nT2 => ?_⟩
        · have := ops9 q'.2 (by rw [← z2]; exact List.mem_map.mpr ⟨q', memd q' (List.mem_of_getElem? hq), rfl⟩)
          omega
        · have sT2 := sT.trans (same_new (o := .tup [.int (q'.2.ops : Nat), .str (S q'.2.txt)]) nT2)
          have nTL : T2 ≠ L := fun z => by
            rw [z, sT _ _ eL] at nT2
            cases nT2
          refine ⟨_, sT2 _ _ eL, by rw [List.length_map, pt.length, List.length_take, sizeLine_eq]; omega, ts ++ [T2], same_pt nL (sG.trans sT2), by rw [upd_same, List.map_append]; rfl, ?_⟩
          rw [get_take hq]
          refine paired_app (paired_imp (fun t q2 e => ?_) pt) (.cons (by rw [upd_ne nTL]; exact upd_same) .nil)
          rw [upd_ne (ne_of e eL (by intro z; cases z))]
          exact sT2 _ _ e
      · rintro G ⟨ts, sG, eL, pt⟩
        rw [List.length_map, List.take_length] at pt
        refine ⟨sG _ _ eF, ?_⟩
        have lts : ts.length = dd.length := pt.length
        obtain ⟨yR, y1, y2, yl⟩ := paired_zipQ pt
        generalize ts.zip dd = zs at yR y1 y2 yl
        have sH : Same H (upd G D (.dK (dd.map entK))) := fun b o e => by
          rw [upd_ne (nHD _ _ e)]
          exact sG _ _ (sF _ _ (nHD _ _ e) (s1 _ _ e))
        have eL2 : (upd G D (.dK (dd.map entK))) L = some (.lst (ts.map V.ref)) := by
          rw [upd_ne (Ne.symm nLD)]
          exact eL
        have eT2 : ∀ p ∈ zs, (upd G D (.dK (dd.map entK))) p.1 = some (.tup [.int (p.2.2.ops : Nat), .str (S p.2.2.txt)]) := fun p hp => by
          rw [upd_ne (ne_of (yR p hp) (sG _ _ eF) (by intro z; cases z))]
          exact yR p hp
        have eD2 : (upd G D (.dK (dd.map entK))) D = some (.dK (dd.map entK)) := upd_same
        generalize upd G D (.dK (dd.map entK)) = G2 at sH eL2 eT2 eD2
        have kse : (zs.map fun p => (p.1, p.2.2.key)).map (fun p => V.ref p.1) = ts.map V.ref := by rw [List.map_map, ← y1, List.map_map]; rfl
        refine ⟨L, zs.map fun p => (p.1, p.2.2.key), rfl, ?_, ?_, fun p hp => ?_, fun R0 nR0 => gname_go ?_⟩
        · rw [kse]
          exact SqL.of eL2
        · rw [List.length_map, yl, lts, sizeLine_eq]
          omega
        · obtain ⟨p', hp', rfl⟩ := List.mem_map.mp hp
          exact SqT.of (eT2 p' hp')
        try dsimp only
        have srt : (zs.map fun p => (p.1, p.2.2.key)).mergeSort isLe = (zs.mergeSort fun a b => fmLe a.2.2 b.2.2).map fun p => (p.1, p.2.2.key) := (List.map_mergeSort (r := fun a b => fmLe a.2.2 b.2.2) (s := isLe) (f := fun p : Addr × Addr × Fm => (p.1, p.2.2.key)) fun a _ b _ => rfl).symm
        rw [srt, List.map_map]
        have srt2 : (zs.mergeSort fun a b => fmLe a.2.2 b.2.2).map (·.2.2) = ordF fs := by
          rw [List.map_mergeSort (s := fmLe) (fun a _ b _ => rfl)]
          unfold ordF
          rw [← hmap, ← y2, List.map_map]
          rfl
        have mw : ∀ p ∈ zs.mergeSort (fun a b => fmLe a.2.2 b.2.2), p ∈ zs := fun p hp => (List.mergeSort_perm _ _).mem_iff.mp hp
        have lw : (zs.mergeSort fun a b => fmLe a.2.2 b.2.2).length = zs.length := List.length_mergeSort _
        generalize zs.mergeSort (fun a b => fmLe a.2.2 b.2.2) = W at srt2 mw lw
        have sR := same_new (o := .lst (W.map ((fun q => V.ref q.1) ∘ fun p => (p.1, p.2.2.key)))) nR0
        have eR := upd_same (H := G2) (a := R0) (o := .lst (W.map ((fun q => V.ref q.1) ∘ fun p => (p.1, p.2.2.key))))
        generalize upd G2 R0 (.lst (W.map ((fun q => V.ref q.1) ∘ fun p => (p.1, p.2.2.key)))) = G3 at sR eR
        -- the parts in this order
        refine ⟨_, rfl, R0, rfl, ⟨_, SqL.of eR⟩, fun L2 nL2 => ?_⟩
        refine lc_it (walk_list (K := K) (a := R0) (xs := W.map ((fun q => V.ref q.1) ∘ fun p => (p.1, p.2.2.key)))) (fun i X => Same G3 X ∧ X L2 = some (.lst ((W.take i).map fun p => V.ref p.2.1))) ⟨same_new nL2, upd_same⟩ (fun i X _ h => SqL.of (h.1 _ _ eR)) ?_ ?_
        · rintro i x X1 X2 hi ⟨sX, eX⟩ ⟨rfl, hx⟩
          rw [List.length_map] at hi
          have hq : W[i]? = some W[i] := List.getElem?_eq_getElem hi
          generalize W[i] = p at hq
          rw [List.getElem?_map, hq] at hx
          obtain rfl : V.ref p.1 = x := Option.some.inj hx
          have hp := mw p (List.mem_of_getElem? hq)
          have pd : p.2 ∈ dd := by rw [← y2]; exact List.mem_map.mpr ⟨p, hp, rfl⟩
          refine ⟨p.1, _, rfl, SqT.of (sX _ _ (sR _ _ (eT2 p hp))), rfl, _, _, rfl, _, _, rfl, rfl, rfl, ?_⟩
          unfold tYes
          dsimp only
          rw [if_pos rfl]
          refine ⟨_, rfl, _, rfl, D, .ref p.2.1, rfl, ?_, ?_⟩
          · have := DGet.k (k := Sum.inr (S p.2.2.txt)) (sX _ _ (sR _ _ eD2))
            rw [val_ent ndd p.2 pd] at this
            exact this
          · exact ⟨_, eX, by rw [List.length_map, List.length_take, sizeLine_eq]; omega, same_pt nL2 sX, by rw [upd_same, get_take hq, List.map_append]; rfl⟩
        · rintro X ⟨sX, eX⟩
          rw [List.length_map, List.take_length] at eX
          refine ⟨L2, _, rfl, .inl ⟨SqL.of eX, fun R nR => ?_⟩⟩
          have sE := ((sH.trans sR).trans sX).trans (same_new (o := .tup (W.map fun p => V.ref p.2.1)) nR)
          refine q R (W.map (·.2.1)) _ sE (by rw [upd_same, List.map_map]; rfl) ?_
          rw [← srt2]
          have go : ∀ l : List (Addr × Addr × Fm), (∀ p ∈ l, p ∈ W) → Paired (FmAt FC (upd X R (.tup (W.map fun p => V.ref p.2.1)))) (l.map (·.2.1)) (l.map (·.2.2)) := fun l => by
            induction l with
            | nil => exact fun _ => .nil
            | cons p l ih =>
              intro hl
              refine .cons ?_ (ih fun p hp => hl p (List.mem_cons_of_mem _ hp))
              have hp := mw p (hl p List.mem_cons_self)
              have pd : p.2 ∈ dd := by rw [← y2]; exact List.mem_map.mpr ⟨p, hp, rfl⟩
              exact (zR p.2 (memd p.2 pd)).same sE
          exact go W fun _ h => h
end
end L2.K06
set_option Elab.async false
set_option linter.all false
set_option maxRecDepth 100000
set_option maxHeartbeats 8000000
namespace L2.K06
open PySem PySem.Spec PyProof.Rows L2.Tb
open SX (S)
abbrev s_finit : Stmt := inClass (top 18) 0
abbrev N_finit : List Str := ["self", "sign", "name", "left", "right"]
theorem sc_finit : FnScope N_finit ["self", "sign", "name", "left", "right"] (defScope s_finit) := ⟨rfl, rfl, rfl, by decide +kernel, rfl, by decide +kernel, by decide +kernel⟩
theorem catA_go {K : PySem.W.Frag} {H : Hp} {a b : Addr} {xs ys : List V} {Q : VK} (ha : H a = some (.tup xs)) (hb : H b = some (.tup ys)) (hl : xs.length + ys.length ≤ 100000) (q : ∀ R H', Same H H' → H' R = some (.tup (xs ++ ys)) → Q (.ref R) H') : rCatA K (.ref a) (.ref b) H Q := by
  refine ⟨a, b, xs, ys, rfl, rfl, SqT.of ha, SqT.of hb, by rw [sizeLine_eq]; omega, fun e => ?_, fun _ e => ?_, fun _ _ p np => ?_⟩
  · subst e
    exact q b H (Same.refl _) hb
  · subst e
    exact q a H (Same.refl _) (by rw [List.append_nil]; exact ha)
  · exact q p _ (same_new np) upd_same
theorem hp_go {σ : St} {H : Hp} {R : St → Hp → Prop} (Pv : Hp → Prop) (h : Pv H) (k : ∀ G, Pv G → R σ G) : R σ H := k H h
/-- all but the object at p -/
def Off (p : Addr) (H H' : Hp) : Prop := ∀ b o, b ≠ p → H b = some o → H' b = some o
theorem Off.set {p : Addr} {H H' : Hp} {o : HO} (s : Off p H H') : Off p H (upd H' p o) := fun b u n e => by rw [upd_ne n]; exact s b u n e
theorem Off.then {p : Addr} {H H1 H' : Hp} (s : Off p H H1) (t : Same H1 H') : Off p H H' := fun b u n e => t _ _ (s b u n e)
def spFinit (FC : Addr) : Sp := fun vs H Q _ => ∃ (a dx : Addr) (sg : Str) (nm lv rv : V), vs = [.ref a, .str sg, nm, lv, rv] ∧ H a = some (.ins FC dx []) ∧
  ((∃ n, sg = S [] ∧ nm = .str (S n) ∧ lv = .non ∧ rv = .non ∧ ∀ H', Off a H H' → FmAt FC H' a (.lt n) → Q .non H') ∨
   (∃ (s : Nat) (l r : Fm) (la ra : Addr), sg = S (sgL s) ∧ nm = .non ∧ lv = .ref la ∧ rv = .ref ra ∧ FmAt FC H la l ∧ FmAt FC H ra r ∧ l.ok = true ∧ r.ok = true ∧ l.ops + r.ops ≤ 90 ∧ ∀ H', Off a H H' → FmAt FC H' a (.op s l r) → Q .non H'))
theorem paired_ge {α β : Type} {R : α → β → Prop} {xs : List α} {ys : List β} (h : Paired R xs ys) : xs.length = ys.length := h.length
theorem parts_lenF (f : Fm) : (partsF f).length ≤ 2 * f.ops + 1 := by
  have := innF_len f
  unfold partsF
  rw [List.length_append, List.length_singleton]
  omega
section
variable {P : Program} {w : World} {K : PySem.W.Frag} {mg : Str → Option Value} {base : Heap} {f : Addr} {fd : FuncData} {FC : Addr}
theorem c_finit (T : Bt mg) (FF : FoF K mg FC) (hfm : PySem.W.findIn K (.ref FC) "__format__" = some (some (.builtin "object.__format__"))) (SS : SpcM P w K mg base L2.CX0 FC "__str__" ["self"] 1 (spFstr FC)) (PP : PrpM P w K mg base FC "parts" 1 (spFparts FC)) (k_in_order : Cal P w K mg base 4 "_in_order" (spOrder FC))
    (F : FunD K "__init__" "Formula.__init__" (defArgs s_finit) (defBody s_finit) (defScope s_finit) [] [] f fd) : FnOk P w K mg base L2.CX0 6 f fd ["self", "sign", "name", "left", "right"] (spFinit FC) := by
  have hnd := sc_finit.nd
  obtain ⟨fs_, fds, hs, hsf, Fs, Bs⟩ := SS
  obtain ⟨p9, g9, fd9, PP9, FP9, BP9⟩ := PP
  have hmo := FF.ex.hm
  refine F.ok sc_finit (fun vs H Q E h => ?_) (fun cdv A outer s H vs Q E hr h => ?_)
  · obtain ⟨a, dx, sg, nm, lv, rv, rfl, _⟩ := h
    rfl
  · obtain ⟨a, dx, sg, nm, lv, rv, rfl, ea, h⟩ := h
    refine ⟨_, (pss_cons (ps_fld (pv 0) (pv 1) (by rfl))
      (pss_cons (ps_fld (pv 0) (pv 2) (by rfl))
      (pss_cons (ps_fld (pv 0) (pv 3) (by rfl))
      (pss_cons (ps_fld (pv 0) (pv 4) (by rfl))
      (pss_cons (ps_fld (pv 0) (pe_ifExp (pt_cmpR op_isN (pv 3) pe_non (nomark _)) (pv 2) (pe_joined (.cons pe_str (.cons (pe_fmtOwn Fs (hr.mono (by omega)) hfm hmo hs hsf Bs (pv 3)) (.cons pe_str (.cons (pe_fmt (pv 1)) (.cons pe_str (.cons (pe_fmtOwn Fs (hr.mono (by omega)) hfm hmo hs hsf Bs (pv 4)) (.cons pe_str .nil))))))))) (by rfl))
      (pss_cons (ps_fld (pv 0) (pe_ifExp (pt_cmpR op_isN (pv 3) pe_non (nomark _)) (pe_tup pa_nil) (pe_op (show OpR _ (binaryOp .Add) (rCatA K) from op_catA) (pe_op (show OpR _ (binaryOp .Add) (rCatA K) from op_catA) (pe_fld (pv 3) (by rfl)) (pe_tup (pa_cons (pv 1) pa_nil))) (pe_fld (pv 4) (by rfl)))) (by rfl))
      (pss_one (ps_fld (pv 0) (pe_ifExp (pt_cmpR op_isN (pv 3) pe_non (nomark _)) (pe_tup pa_nil) (pe_cal k_in_order hr (by omega) (by rfl) (pa_cons (pe_op (show OpR _ (binaryOp .Add) (rCatA K) from op_catA) (pe_prop (E := L2.E0) (pv 3) FF.cls PP9 FP9 (hr.mono (by omega)) BP9 .nil (fun _ _ _ _ _ _ _ h => h.elim) (by rfl)) (pe_prop (E := L2.E0) (pv 4) FF.cls PP9 FP9 (hr.mono (by omega)) BP9 .nil (fun _ _ _ _ _ _ _ h => h.elim) (by rfl))) pa_nil))) (by rfl))))))))), ?_⟩
    refine ⟨_, rfl, _, rfl, a, FC, dx, [], rfl, ea, FF.cls, FF.n1, by decide, ?_⟩
    refine ⟨_, rfl, _, rfl, a, FC, dx, _, rfl, upd_same, FF.cls, FF.n2, Nat.le_of_ble_eq_true rfl, ?_⟩
    refine ⟨_, rfl, _, rfl, a, FC, dx, _, rfl, upd_same, FF.cls, FF.n3, Nat.le_of_ble_eq_true rfl, ?_⟩
    refine ⟨_, rfl, _, rfl, a, FC, dx, _, rfl, upd_same, FF.cls, FF.n4, Nat.le_of_ble_eq_true rfl, ?_⟩
    refine hp_go (fun G => Off a H G ∧ G a = some (.ins FC dx [("_sign", .str sg), ("_name", nm), ("_left", lv), ("_right", rv)])) ⟨fun b o n e => by rw [upd_ne n, upd_ne n, upd_ne n, upd_ne n]; exact e, upd_same⟩ fun G ⟨of0, e0⟩ => ?_
    rcases h with ⟨n, rfl, rfl, rfl, rfl, q⟩ | ⟨s0, l, r, la, ra, rfl, rfl, rfl, rfl, hla, hra, okl, okr, lops, q⟩
    · refine ⟨_, rfl, rfl, _, rfl, iteT2 (decide_eq_true rfl) ⟨_, rfl, _, rfl, a, FC, dx, _, rfl, e0, FF.cls, FF.n5, Nat.le_of_ble_eq_true rfl, ?_⟩⟩
      refine hp_go (fun G => Off a H G ∧ G a = some (.ins FC dx [("_sign", .str (S [])), ("_name", .str (S n)), ("_left", .non), ("_right", .non), ("_text", .str (S n))])) ⟨of0.set, upd_same⟩ fun G1 ⟨of1, e1⟩ => ?_
      refine ⟨_, rfl, rfl, _, rfl, iteT2 (decide_eq_true rfl) ⟨Nat.zero_le _, fun sgA nsg => ⟨_, rfl, a, FC, dx, _, rfl, same_new nsg _ _ e1, FF.cls, FF.n6, Nat.le_of_ble_eq_true rfl, ?_⟩⟩⟩
      have nsa : a ≠ sgA := ne_of_none e1 nsg
      refine hp_go (fun G => Off a H G ∧ G sgA = some (.tup []) ∧ G a = some (.ins FC dx [("_sign", .str (S [])), ("_name", .str (S n)), ("_left", .non), ("_right", .non), ("_text", .str (S n)), ("_signs", .ref sgA)])) ⟨(of1.then (same_new nsg)).set, by rw [upd_ne (Ne.symm nsa)]; exact upd_same, upd_same⟩ fun G2 ⟨of2, eS, e2⟩ => ?_
      refine ⟨_, rfl, rfl, _, rfl, iteT2 (decide_eq_true rfl) ⟨Nat.zero_le _, fun inA nin => ⟨_, rfl, a, FC, dx, _, rfl, same_new nin _ _ e2, FF.cls, FF.n7, Nat.le_of_ble_eq_true rfl, ?_⟩⟩⟩
      have nia : a ≠ inA := ne_of_none e2 nin
      refine q _ (of2.then (same_new nin)).set (.lt upd_same ?_ ?_)
      · rw [upd_ne (Ne.symm nsa)]
        exact same_new nin _ _ eS
      · rw [upd_ne (Ne.symm nia)]
        exact upd_same
    · have nd : decide (V.ref la = V.non) = false := decide_eq_false fun z => by cases z
      have up : ∀ {G : Hp} {x : Addr} {g : Fm}, Off a H G → FmAt FC H x g → FmAt FC G x g := fun o h => h.I o ⟨FC, dx, ea⟩
      have tl := Fm.txt_len l okl
      have tr := Fm.txt_len r okr
      have sl := sgL_len s0
      have Ll : (S l.txt).length ≤ 2000 := by rw [SX.S_len]; omega
      have Lr : (S r.txt).length ≤ 2000 := by rw [SX.S_len]; omega
      have Ls : (S (sgL s0)).length ≤ 2 := by rw [SX.S_len]; exact sl
      have c1 : (Str.ofString "(") = S [40] := by decide +kernel
      have c2 : (Str.ofString " ") = S [32] := by decide +kernel
      have c3 : (Str.ofString ")") = S [41] := by decide +kernel
      have c0 : Str.empty = S [] := by decide +kernel
      obtain ⟨dl, fl_, el⟩ := (up of0 hla).ins
      obtain ⟨dr, fr_, er⟩ := (up of0 hra).ins
      have szL : ∀ x : List Nat, x.length ≤ 5000 → (S x).length ≤ sizeLine := fun x hx => by rw [SX.S_len, sizeLine_eq]; omega
      refine ⟨_, rfl, rfl, _, rfl, iteN2 nd ?_⟩
      refine ⟨_, rfl, ?_, ?_⟩
      · rw [c0, c1, SX.S_cat]
        exact szL _ (by simp)
      rw [c0, c1, SX.S_cat]
      refine ⟨_, rfl, la, dl, fl_, rfl, el, la, l, rfl, up of0 hla, _, rfl, _, rfl, ?_, ?_⟩
      · rw [SX.S_cat]
        exact szL _ (by simp only [List.length_append, List.length_singleton, List.length_nil]; omega)
      rw [SX.S_cat]
      refine ⟨_, rfl, ?_, ?_⟩
      · rw [c2, SX.S_cat]
        exact szL _ (by simp only [List.length_append, List.length_singleton, List.length_nil]; omega)
      rw [c2, SX.S_cat]
      refine ⟨_, rfl, .inl ⟨_, rfl, szL _ (by omega), _, rfl, ?_, ?_⟩⟩
      · rw [SX.S_cat]
        exact szL _ (by simp only [List.length_append, List.length_singleton, List.length_nil]; omega)
      rw [SX.S_cat]
      refine ⟨_, rfl, ?_, ?_⟩
      · rw [SX.S_cat]
        exact szL _ (by simp only [List.length_append, List.length_singleton, List.length_nil]; omega)
      rw [SX.S_cat]
      refine ⟨_, rfl, ra, dr, fr_, rfl, er, ra, r, rfl, up of0 hra, _, rfl, _, rfl, ?_, ?_⟩
      · rw [SX.S_cat]
        exact szL _ (by simp only [List.length_append, List.length_singleton, List.length_nil]; omega)
      rw [SX.S_cat]
      refine ⟨_, rfl, ?_, ?_⟩
      · rw [c3, SX.S_cat]
        exact szL _ (by simp only [List.length_append, List.length_singleton, List.length_nil]; omega)
      rw [c3, SX.S_cat]
      refine ⟨_, rfl, a, FC, dx, _, rfl, e0, FF.cls, FF.n5, Nat.le_of_ble_eq_true rfl, ?_⟩
      refine hp_go (fun G => Off a H G ∧ G a = some (.ins FC dx [("_sign", .str (S (sgL s0))), ("_name", .non), ("_left", .ref la), ("_right", .ref ra), ("_text", .str (S (Fm.op s0 l r).txt))])) ⟨of0.set, upd_same⟩ fun G1 ⟨of1, e1⟩ => ?_
      -- the signs
      obtain ⟨dl1, sgl, inl, lvl, rvl, psl, el1, esl, _⟩ := (up of1 hla).o.ex
      refine ⟨_, rfl, rfl, _, rfl, iteN2 nd ?_⟩
      refine ⟨_, rfl, la, FC, dl1, _, _, rfl, el1, FF.cls, FF.n6, rfl, _, rfl, by show 1 ≤ sizeLine; decide, fun T1 nT1 => ?_⟩
      have s1 := same_new (o := .tup [.str (S (sgL s0))]) nT1
      refine catA_go (xs := l.sgs.map nmV) (ys := [nmV (sgL s0)]) (s1 _ _ esl) upd_same ?_ fun R1 H1 sR1 eR1 => ?_
      · rw [List.length_map, Fm.sgs_len, List.length_singleton]
        omega
      obtain ⟨dr1, sgr, inr_, lvr, rvr, psr, er1, esr, _⟩ := (up ((of1.then s1).then sR1) hra).o.ex
      refine ⟨_, rfl, ra, FC, dr1, _, _, rfl, er1, FF.cls, FF.n6, rfl, ?_⟩
      refine catA_go eR1 esr ?_ fun R2 H2 sR2 eR2 => ?_
      · rw [List.length_append, List.length_map, List.length_map, Fm.sgs_len, Fm.sgs_len, List.length_singleton]
        omega
      have e2' := sR2 _ _ (sR1 _ _ (s1 _ _ e1))
      refine ⟨_, rfl, a, FC, dx, _, rfl, e2', FF.cls, FF.n6, Nat.le_of_ble_eq_true rfl, ?_⟩
      have n2a : a ≠ R2 := ne_of e2' eR2 (by intro z; cases z)
      refine hp_go (fun G => Off a H G ∧ G R2 = some (.tup ((Fm.op s0 l r).sgs.map nmV)) ∧ G a = some (.ins FC dx [("_sign", .str (S (sgL s0))), ("_name", .non), ("_left", .ref la), ("_right", .ref ra), ("_text", .str (S (Fm.op s0 l r).txt)), ("_signs", .ref R2)])) ⟨(((of1.then s1).then sR1).then sR2).set, ?_, upd_same⟩ fun G2 ⟨of2, eS, e2⟩ => ?_
      · rw [upd_ne (Ne.symm n2a), eR2]
        simp only [Fm.sgs, List.map_append, List.map_cons, List.map_nil]
      -- the parts
      obtain ⟨dl2, fl2, el2⟩ := (up of2 hla).ins
      refine ⟨_, rfl, rfl, _, rfl, iteN2 nd ?_⟩
      refine ⟨_, rfl, la, dl2, fl2, rfl, el2, la, l, rfl, up of2 hla, by omega, fun TL pl H3 s3 eL pl_ => ?_⟩
      have of3 := of2.then s3
      obtain ⟨dr2, fr2, er2⟩ := (up of3 hra).ins
      refine ⟨_, rfl, ra, dr2, fr2, rfl, er2, ra, r, rfl, up of3 hra, by omega, fun TR pr H4 s4 eR pr_ => ?_⟩
      have lpl := parts_lenF l
      have lpr := parts_lenF r
      have kl := paired_ge pl_
      have kr := paired_ge pr_
      refine catA_go (s4 _ _ eL) eR (by rw [List.length_map, List.length_map]; omega) fun T5 H5 s5 e5 => ?_
      have pall := paired_app (paired_imp (fun _ _ z => (FmAt.same z s4).same s5) pl_) (paired_imp (fun _ _ z => FmAt.same z s5) pr_)
      refine ⟨T5, pl ++ pr, partsF l ++ partsF r, rfl, by rw [e5, List.map_append], pall, by rw [List.length_append]; omega, fun g hg => ?_, fun R6 qs H6 s6 e6 pq => ?_⟩
      · rcases List.mem_append.mp hg with hg | hg
        · have := (parts_ok okl hg).2
          omega
        · have := (parts_ok okr hg).2
          omega
      have e7 := s6 _ _ (s5 _ _ (s4 _ _ (s3 _ _ e2)))
      refine ⟨_, rfl, a, FC, dx, _, rfl, e7, FF.cls, FF.n7, Nat.le_of_ble_eq_true rfl, ?_⟩
      have n6a : a ≠ R6 := ne_of e7 e6 (by intro z; cases z)
      have of6 := (((of2.then s3).then s4).then s5).then s6
      have fin : ∀ {x g}, FmAt FC H6 x g → x ≠ a → True := fun _ _ => trivial
      have upI : ∀ {o : HO} {x : Addr} {g : Fm}, FmAt FC H x g → FmAt FC (upd H6 a o) x g := fun h => up of6.set h
      refine q _ of6.set (.op (ps := qs) upd_same (upI hla) (upI hra) ?_ ?_ (paired_ge pq) fun i p g hp hg => ?_)
      · rw [upd_ne (Ne.symm n2a)]
        exact s6 _ _ (s5 _ _ (s4 _ _ (s3 _ _ eS)))
      · rw [upd_ne (Ne.symm n6a)]
        exact e6
      · have hx := paired_get2 pq i p g hp hg
        refine FmAt.P hx (p := a) (fun b o n e => by rw [upd_ne n]; exact e) ⟨FC, dx, _, e7, Nat.le_of_ble_eq_true rfl⟩
end
end L2.K06
set_option Elab.async false
set_option linter.all false
set_option maxRecDepth 100000
set_option maxHeartbeats 4000000
/-! x op y by the own method of x's class, y of a built-in type, what is raised passes -/
namespace L2.Tb
open PySem PySem.Spec PyProof.Rows PySem.W
/-- what the built-in type says of the operator -/
structure Rgt (K : PySem.W.Frag) (C : Addr) (op : Operator) (T : String) : Prop where
  own : ∃ o, findIn K (.type T) (PySem.dunder op.info.2) = some o
  ref : ∃ o, findIn K (.type T) (dunderR op.info.2) = some o
  sub : subIn K (.type T) (.ref C) = some false
section
variable {prog : Program} {w : World} {A : Around} {E : Value → Shared → Prop} {s : Shared} {K : Frag} {x C L f : Addr} {hp : Heap} {m : Str → Option Value} {ox : Obj} {od : Option Obj} {T : String} {op : Operator} {y : Value} {Q : Value → Shared → Prop}
theorem bin_left (F : Fr hp L s.heap m) (hK : K.In hp) (J : InstAt s.heap x ox C od) (ty : Looks (model prog w) s.heap (typeOf y) (.type T)) (sf : selfFirst K C = true) (hs : findIn K (.ref C) (PySem.dunder op.info.2) = some (some (.ref f)))
    (hf : isFn K (.ref f) = true) (hr : findIn K (.ref C) (dunderR op.info.2) = some none) (R : Rgt K C op T) (h : wpAny (model prog w) A (call (.ref f) [.ref x, y]) (PySem.W.CmpBack Q) E s) : wpAny (model prog w) A (binaryOp op (.ref x) y) Q E s := by
  have kin := hK.keeps F.keep
  obtain ⟨cd, tl, e1, e2⟩ := ksp_first sf
  obtain ⟨o1, t1⟩ := R.own
  obtain ⟨o2, t2⟩ := R.ref
  have t3 := R.sub
  rcases ei : op.info with ⟨sg, nm⟩
  rw [ei] at hs hr t1 t2
  dsimp only at hs hr t1 t2
  have go := ksp_try kin J hs hf h
  obtain ⟨hh, gn, dr, tk, os⟩ := s
  have a1 : Looks (model prog w) hh (typeOf (.ref x)) (.ref C) := J.type
  have a3 : Looks (model prog w) hh (fillsNumberSlot (.ref C) nm) true := fills_K kin e1 e2 hs
  have a4 := ksp_fillsT (M := model prog w) kin t1 t2
  have a5 : Looks (model prog w) hh (isSubtype (.type T) (.ref C)) false := looks_subIn kin t3
  have a6 : Looks (model prog w) hh (numberSlotInPython (.ref C) nm) true := ksp_inPy kin hs hr (.inl rfl)
  have a7 : Looks (model prog w) hh (numberSlotInPython (.type T) nm) false := Looks.of_pure rfl
  have a8 : Looks (model prog w) hh (typeLookup (.type T) (dunderR nm)) o2 := looks_findIn kin t2
  generalize ((o1.isSome && !isSeqSlot o1) || (o2.isSome && !isSeqSlot o2)) = rt at a4
  have ne : (Value.ref C == Value.type T) = false := by
    cases hq : (Value.ref C == Value.type T) with
    | false => rfl
    | true => cases beq_iff_eq.mp hq
  simp only [binaryOp, ei]
  refine wpAny_holding (wpAny_bind ?_)
  unfold binaryOp1
  refine wpAny_bind (a1.at (wpAny_bind (ty.at (wpAny_bind (a3.at ?_)))))
  simp only [ne, Bool.false_eq_true, if_false]
  cases rt
  all_goals
    ksp_lk
    refine wpAny_mono go (fun r s2 hv => ?_) fun _ _ e => e
    obtain ⟨v, rfl, qv⟩ := hv
    ksp_lk
    exact qv
end
section
variable {X : Cx} {CX : CXT} {C f : Addr} {fd : FuncData} {ps : List Str} {sp : Sp} {k : Nat} {op : Operator} {E : XK}
def rOwnBinX (K : PySem.W.Frag) (C : Addr) (op : Operator) (sp : Sp) (E : XK) : R2 := fun x y H Q => ∃ (a dx : Addr) (fs : List (Str × V)) (T : String), x = .ref a ∧ H a = some (.ins C dx fs) ∧ TyX K H y (.type T) ∧ Rgt K C op T ∧ sp [.ref a, y] H Q E
theorem op_ownBinX (F : FnOk X.prog X.w X.K X.mg X.base CX k f fd ps sp) (hr : Room k X.A) (sf : selfFirst X.K C = true) (hs : findIn X.K (.ref C) (PySem.dunder op.info.2) = some (some (.ref f))) (hf : isFn X.K (.ref f) = true)
    (hrr : findIn X.K (.ref C) (dunderR op.info.2) = some none) (hb : Binds X.K fd ps []) (hx : Passes CX X E) : OpR X (binaryOp op) (rOwnBinX X.K C op sp E) := by
  intro pins s σ H x y v u Q I rx ry h
  obtain ⟨a, dx, fs, T, rfl, ea, ty, R, h⟩ := h
  obtain rfl : v = Value.ref a := rx
  obtain ⟨mA, O, _⟩ := ins_get I.hok ea
  obtain ⟨od, J, _⟩ := O.look
  obtain ⟨m, hF⟩ := I.fr
  obtain ⟨Pt, kt, pt, _⟩ := kit_of I ry ty
  have hl := F.len _ _ _ _ h
  refine bin_left hF I.ok.mod.kin J (kt.ty _ _ I.kIn pt) sf hs hf hrr R (wpAny_call (codeAny_mono (F.run X.A X.stack s H ⟨[.ref a, u], []⟩ [.ref a, u] [.ref a, y] _ E hr I.env0 (by
    have z := hb s [.ref a, u] I.kIn (by simpa using hl)
    simpa using z) (.cons rfl (.cons ry .nil)) h) fun r s' hq => ?_))
  match r, hq with
  | .error e, hq => exact hx pins σ H s e s' I hq
  | .ok (.ret u2), hq =>
    obtain ⟨v2, H', I', rv, q⟩ := I.after hq
    exact cmp_back rv ⟨v2, H', I', rv, q⟩
end
end L2.Tb
set_option Elab.async false
set_option linter.all false
set_option maxRecDepth 100000
set_option maxHeartbeats 4000000
/-! x op y by the own method of x's class, y an instance of another class that has the operator too, what is raised passes -/
namespace L2.Tb
open PySem PySem.Spec PyProof.Rows PySem.W
/-- what y's class says of the operator -/
structure RgtC (K : PySem.W.Frag) (C : Addr) (op : Operator) (D : Addr) : Prop where
  sf : selfFirst K D = true
  own : ∃ g : Addr, findIn K (.ref D) (PySem.dunder op.info.2) = some (some (.ref g))
  ref : findIn K (.ref D) (dunderR op.info.2) = some none
  sub : subIn K (.ref D) (.ref C) = some false
  ne : C ≠ D
section
variable {prog : Program} {w : World} {A : Around} {E : Value → Shared → Prop} {s : Shared} {K : Frag} {x C D L f : Addr} {hp : Heap} {m : Str → Option Value} {ox : Obj} {od : Option Obj} {op : Operator} {y : Value} {Q : Value → Shared → Prop}
theorem bin_leftC (F : Fr hp L s.heap m) (hK : K.In hp) (J : InstAt s.heap x ox C od) (ty : Looks (model prog w) s.heap (typeOf y) (.ref D)) (sf : selfFirst K C = true) (hs : findIn K (.ref C) (PySem.dunder op.info.2) = some (some (.ref f)))
    (hf : isFn K (.ref f) = true) (hr : findIn K (.ref C) (dunderR op.info.2) = some none) (R : RgtC K C op D) (h : wpAny (model prog w) A (call (.ref f) [.ref x, y]) (PySem.W.CmpBack Q) E s) : wpAny (model prog w) A (binaryOp op (.ref x) y) Q E s := by
  have kin := hK.keeps F.keep
  obtain ⟨cd, tl, e1, e2⟩ := ksp_first sf
  obtain ⟨cd', tl', e1', e2'⟩ := ksp_first R.sf
  obtain ⟨g1, t1⟩ := R.own
  have t2 := R.ref
  have t3 := R.sub
  have nCD := R.ne
  rcases ei : op.info with ⟨sg, nm⟩
  rw [ei] at hs hr t1 t2
  dsimp only at hs hr t1 t2
  have go := ksp_try kin J hs hf h
  obtain ⟨hh, gn, dr, tk, os⟩ := s
  have a1 : Looks (model prog w) hh (typeOf (.ref x)) (.ref C) := J.type
  have a3 : Looks (model prog w) hh (fillsNumberSlot (.ref C) nm) true := fills_K kin e1 e2 hs
  have a4 : Looks (model prog w) hh (fillsNumberSlot (.ref D) nm) true := fills_K kin e1' e2' t1
  have a5 : Looks (model prog w) hh (isSubtype (.ref D) (.ref C)) false := looks_subIn kin t3
  have a6 : Looks (model prog w) hh (numberSlotInPython (.ref C) nm) true := ksp_inPy kin hs hr (.inl rfl)
  have a7 : Looks (model prog w) hh (numberSlotInPython (.ref D) nm) true := ksp_inPy kin t1 t2 (.inl rfl)
  have ne : (Value.ref C == Value.ref D) = false := by
    cases hq : (Value.ref C == Value.ref D) with
    | false => rfl
    | true =>
      have := beq_iff_eq.mp hq
      injection this with this
      exact absurd this nCD
  simp only [binaryOp, ei]
  refine wpAny_holding (wpAny_bind ?_)
  unfold binaryOp1
  refine wpAny_bind (a1.at (wpAny_bind (ty.at (wpAny_bind (a3.at ?_)))))
  simp only [ne, Bool.false_eq_true, if_false]
  ksp_lk
  refine wpAny_mono go (fun r s2 hv => ?_) fun _ _ e => e
  obtain ⟨v, rfl, qv⟩ := hv
  ksp_lk
  exact qv
end
section
variable {X : Cx} {CX : CXT} {C f : Addr} {fd : FuncData} {ps : List Str} {sp : Sp} {k : Nat} {op : Operator} {E : XK}
/-- y of a built-in type, of x's own class, or of another class with the operator -/
def rOwnBinA (K : PySem.W.Frag) (C : Addr) (op : Operator) (sp : Sp) (E : XK) : R2 := fun x y H Q => ∃ (a dx : Addr) (fs : List (Str × V)) (t : Value), x = .ref a ∧ H a = some (.ins C dx fs) ∧ TyX K H y t ∧ ((∃ T, t = .type T ∧ Rgt K C op T) ∨ t = .ref C ∨ ∃ D, t = .ref D ∧ RgtC K C op D) ∧ sp [.ref a, y] H Q E
theorem op_ownBinA (F : FnOk X.prog X.w X.K X.mg X.base CX k f fd ps sp) (hr : Room k X.A) (sf : selfFirst X.K C = true) (hs : findIn X.K (.ref C) (PySem.dunder op.info.2) = some (some (.ref f))) (hf : isFn X.K (.ref f) = true)
    (hrr : findIn X.K (.ref C) (dunderR op.info.2) = some none) (hb : Binds X.K fd ps []) (hx : Passes CX X E) : OpR X (binaryOp op) (rOwnBinA X.K C op sp E) := by
  intro pins s σ H x y v u Q I rx ry h
  obtain ⟨a, dx, fs, t, rfl, ea, ty, R, h⟩ := h
  obtain rfl : v = Value.ref a := rx
  obtain ⟨mA, O, _⟩ := ins_get I.hok ea
  obtain ⟨od, J, _⟩ := O.look
  obtain ⟨m, hF⟩ := I.fr
  obtain ⟨Pt, kt, pt, _⟩ := kit_of I ry ty
  have hl := F.len _ _ _ _ h
  have run : wpAny (model X.prog X.w) X.A (call (.ref f) [.ref a, u]) (PySem.W.CmpBack (EP X pins σ Q)) X.xe s := (wpAny_call (codeAny_mono (F.run X.A X.stack s H ⟨[.ref a, u], []⟩ [.ref a, u] [.ref a, y] _ E hr I.env0 (by
    have z := hb s [.ref a, u] I.kIn (by simpa using hl)
    simpa using z) (.cons rfl (.cons ry .nil)) h) fun r s' hq => by
      match r, hq with
      | .error e, hq => exact hx pins σ H s e s' I hq
      | .ok (.ret u2), hq =>
        obtain ⟨v2, H', I', rv, q⟩ := I.after hq
        exact cmp_back rv ⟨v2, H', I', rv, q⟩))
  rcases R with ⟨T, rfl, R⟩ | rfl | ⟨D, rfl, R⟩
  · exact bin_left hF I.ok.mod.kin J (kt.ty _ _ I.kIn pt) sf hs hf hrr R run
  · exact PySem.W.binop_K hF I.ok.mod.kin J (kt.ty _ _ I.kIn pt) sf hs hf run
  · exact bin_leftC hF I.ok.mod.kin J (kt.ty _ _ I.kIn pt) sf hs hf hrr R run
end
end L2.Tb
set_option Elab.async false
set_option linter.all false
set_option maxRecDepth 100000
set_option maxHeartbeats 4000000
/-! x op= y by the own method of x op y, y of the same class; a def of the module that may raise, called by keywords alone -/
namespace L2.Tb
open PySem PySem.Spec PyProof.Rows PySem.W
/-- a class without the operator's own in-place method, right below object -/
structure NoIp (K : PySem.W.Frag) (C : Addr) (op : Operator) : Prop where
  mro : ∃ cd, clsIn K C = some cd ∧ cd.mro = [.ref C, .type "object"]
  own : findIn K (.ref C) (dunderI op.info.2) = some none
  obj : findIn K (.type "object") (dunderI op.info.2) = some none
section
variable {M : Model} {prog : Program} {w : World} {A : Around} {E : Value → Shared → Prop} {s : Shared} {K : Frag} {x C L f : Addr} {hp : Heap} {m : Str → Option Value} {ox : Obj} {od : Option Obj} {op : Operator} {b : Value}
theorem fills_no {h : Heap} {add : Bool} (X : K.In h) (N : NoIp K C op) : Looks M h (fillsInplaceSlot (.ref C) op.info.2 add) false := by
  intro A Q E s k q
  obtain ⟨cd, hc, hm⟩ := N.mro
  have Lm : Looks M h (mroOf (.ref C)) cd.mro := (looks_clsIn X hc).andThen (f := fun cd => pure cd.mro) .now
  have Lm' := Lm.keeps k
  obtain ⟨hh, g, d, tt, os⟩ := s
  have X' : K.In hh := X.keeps k
  have L1 : Looks M hh (typeLookup (.ref C) (dunderI op.info.2)) none := looks_findIn X' N.own
  have L2 : Looks M hh (typeLookup (.type "object") (dunderI op.info.2)) none := looks_findIn X' N.obj
  unfold fillsInplaceSlot
  refine wpAny_bind (Lm'.at ?_)
  rw [hm, List.anyM_cons]
  refine wpAny_bind ?_
  repeat lk
  exact q
theorem inpl_same {Q : Value → Shared → Prop} (F : Fr hp L s.heap m) (X₀ : K.In hp) (I : InstAt s.heap x ox C od) (hb : Looks (model prog w) s.heap (typeOf b) (.ref C)) (hc : selfFirst K C = true) (N : NoIp K C op)
    (hs : findIn K (.ref C) (PySem.dunder op.info.2) = some (some (.ref f))) (hf : isFn K (.ref f) = true)
    (h : wpAny (model prog w) A (call (.ref f) [.ref x, b]) (PySem.W.CmpBack Q) E s) : wpAny (model prog w) A (inplaceOp op (.ref x) b) Q E s := by
  have X := X₀.keeps F.keep
  obtain ⟨cd, rest, hcd, hm⟩ := ksp_first hc
  unfold inplaceOp
  refine wpAny_holding ?_
  refine wpAny_bind (I.type.here ?_)
  refine wpAny_bind ((fills_no X N).here ?_)
  simp only [Bool.false_eq_true, if_false]
  refine wpAny_bind ?_
  unfold binaryOp1
  refine wpAny_bind (I.type.here (wpAny_bind (hb.here (wpAny_bind ((fills_K X hcd hm hs).here ?_)))))
  simp only [beq_self_eq_true, if_true]
  refine wpAny_bind (wpAny_pure ?_)
  simp only [Bool.and_false, Bool.false_eq_true, if_false, Bool.false_and]
  refine wpAny_bind (wpAny_pure ?_)
  simp only [Bool.false_eq_true, if_false]
  refine wpAny_bind (m := tryMethod (.ref x) _ b) ?_
  unfold tryMethod
  refine wpAny_bind (special_fn X I hs (beq_iff_eq.mp hf) (wpAny_mono h (fun v s' hv => ?_) fun _ _ e => e))
  cases v <;> first | exact hv.elim | exact wpAny_pure (wpAny_pure (wpAny_pure hv))
end
section
variable {X : Cx} {CX : CXT} {C f : Addr} {fd : FuncData} {ps : List Str} {sp : Sp} {k : Nat} {op : Operator} {E : XK}
def ipOwn (C : Addr) (sp : Sp) (E : XK) : TIp := fun x y H Q => ∃ (a dx : Addr) (fs : List (Str × V)) (c dy : Addr) (gs : List (Str × V)), x = .ref a ∧ y = .ref c ∧ H a = some (.ins C dx fs) ∧ H c = some (.ins C dy gs) ∧ sp [.ref a, .ref c] H Q E
theorem ip_own (F : FnOk X.prog X.w X.K X.mg X.base CX k f fd ps sp) (hr : Room k X.A) (hc : PySem.W.selfFirst X.K C = true) (N : NoIp X.K C op) (hs : PySem.W.findIn X.K (.ref C) (PySem.dunder op.info.2) = some (some (.ref f))) (hf : PySem.W.isFn X.K (.ref f) = true) (hb : Binds X.K fd ps []) (hx : Passes CX X E) :
    PIp X op (ipOwn C sp E) := by
  intro pins s σ H x y v u Q I rx ry h
  obtain ⟨a, dx, fs, c, dy, gs, rfl, rfl, ea, ec, h⟩ := h
  obtain rfl : v = Value.ref a := rx
  obtain rfl : u = Value.ref c := ry
  obtain ⟨mA, O, _⟩ := ins_get I.hok ea
  obtain ⟨od, J, _⟩ := O.look
  obtain ⟨mC, O2, _⟩ := ins_get I.hok ec
  obtain ⟨od2, J2, _⟩ := O2.look
  obtain ⟨m, hF⟩ := I.fr
  have hl := F.len _ _ _ _ h
  refine inpl_same hF I.ok.mod.kin J J2.type hc N hs hf (wpAny_call (codeAny_mono (F.run X.A X.stack s H ⟨[.ref a, .ref c], []⟩ [.ref a, .ref c] [.ref a, .ref c] _ E hr I.env0 (by
    have z := hb s [.ref a, .ref c] I.kIn (by simpa using hl)
    simpa using z) (.cons rfl (.cons rfl .nil)) h) fun r s' hq => ?_))
  match r, hq with
  | .error e, hq => exact hx pins σ H s e s' I hq
  | .ok (.ret u2), hq =>
    obtain ⟨v2, H', I', rv, q⟩ := I.after hq
    exact cmp_back rv ⟨v2, H', I', rv, q⟩
end
/-! ### by keywords alone -/
structure CalXK (P : Program) (w : World) (K : PySem.W.Frag) (mg : Str → Option Value) (base : Heap) (k : Nat) (x : Str) (ks : List Str) (sp : Sp) : Prop where
  ex : ∃ (f : Addr) (fd : FuncData) (ps : List Str), FnOk P w K mg base (L2.CX P w) k f fd ps sp ∧ mg x = some (.ref f) ∧ PySem.W.keepIn K (.ref f) = true ∧ ps.length = ks.length ∧ ∀ (sh : Shared) (zs : List Value), zs.length = ks.length → BindsTo sh fd ⟨[], ks.zip zs⟩ (ps.zip zs)
section
variable {P : Program} {w : World} {K : PySem.W.Frag} {mg : Str → Option Value} {base : Heap} {x p : Str} {st : Stmt} {f : Addr} {fd : FuncData} {k : Nat} {sp : Sp}
theorem calXK_of (F : FnP K x st f fd) (hm : mg x = some (.ref f)) (hb : ∀ (kV doc pm : Value) (an : Option Addr) (cdv ct u : Value), bindArgs (PySem.W.fnOf x x (defArgs st) (defBody st) (defScope st) .none kV doc pm an cdv ct) ⟨[], [(p, u)]⟩ = pure [(p, u)])
    (h : FnOk P w K mg base (L2.CX P w) k f fd [p] sp) : CalXK P w K mg base k x [p] sp := by
  refine ⟨f, fd, [p], h, hm, F.kp, rfl, fun sh zs hl => ?_⟩
  obtain ⟨oc, od, dV, kV, doc, pm, an, cdv, ct, osl, rfl, lk, hcd, hD, hK⟩ := F.ex
  match zs, hl with
  | [v], _ =>
    rcases hD with ⟨_, rfl⟩ | ⟨e, _⟩
    · exact .of_eq (hb kV doc pm an cdv ct v)
    · exact absurd rfl e
end
section
variable {X : Cx} {k j : Nat} {x : Str} {ks : List Str} {sp : Sp} {p pos : Pos} {kws : List Keyword} {tk : TA} {E : XK}
def tCallKW (sp : Sp) (E : XK) (n : Nat) (tk : TA) : TE := fun σ H Q => tk σ H fun zs H2 => zs.length = n ∧ sp zs H2 Q E
theorem pe_calXK (c : CalXK X.prog X.w X.K X.mg X.base k x ks sp) (hr : Room j X.A) (hk : k ≤ j) (hg : Gl X x) (hx : Passes (L2.CX X.prog X.w) X E) (hkw : PK X kws tk)
    (hall : (backToKw pos (keywordEach kws X.env)).all (·.1.isSome) = true := by rfl) (hks : (backToKw pos (keywordEach kws X.env)).filterMap (·.1) = ks := by rfl)
    (hdb : (x == ("__debug__" : Str)) = false := by decide)
    (hpl : ((backTo pos (starEach [] X.env)).any (·.1) || (backToKw pos (keywordEach kws X.env)).any (·.1.isNone)) = false := by rfl) :
    PE X (.Call (.Name x p) [] kws pos) (tCallKW sp E ks.length tk) := by
  obtain ⟨f, fd, ps, F, hm, kp, hpl2, hb⟩ := c.ex
  refine ⟨fun pins s σ H Q I h => ?_⟩
  refine wpAny_Call_Name_kw (ld_glob I hg hm ?_ hdb)
  refine PySem.W.callWith_KW0 (h₀ := X.base) (first := []) I.ok.mod.kin kp hall (thn (hkw.run pos pins s σ H _ I h) fun ws s2 hh => ?_) hpl
  obtain ⟨zs, H2, I2, rz, hzl, q2⟩ := hh
  refine ⟨I2.kIn, ?_⟩
  rw [hks]
  have hw : ws.length = ks.length := by rw [← rz.length]; exact hzl
  refine wpAny_call (codeAny_mono (F.run X.A X.stack s2 H2 ⟨[], ks.zip ws⟩ ws zs Q E (hr.mono hk) I2.env0 (hb s2 ws hw) rz q2) fun r s3 z => ?_)
  match r, z with
  | .error e, z => exact hx pins σ H2 s2 e s3 I2 z
  | .ok (.ret u2), z => exact I2.after z
end
end L2.Tb
set_option Elab.async false
set_option linter.all false
set_option maxRecDepth 100000
set_option maxHeartbeats 8000000
namespace L2.K06
open PySem PySem.Spec PyProof.Rows L2.Tb
open SX (S)
abbrev s_letter : Stmt := top 17
abbrev N_letter : List Str := ["name"]
theorem sc_letter : FnScope N_letter ["name"] (defScope s_letter) := ⟨rfl, rfl, rfl, by decide +kernel, rfl, by decide +kernel, by decide +kernel⟩
abbrev s_check_formula : Stmt := top 19
abbrev N_check_formula : List Str := ["formula"]
theorem sc_check_formula : FnScope N_check_formula ["formula"] (defScope s_check_formula) := ⟨rfl, rfl, rfl, by decide +kernel, rfl, by decide +kernel, by decide +kernel⟩
abbrev s_signed : Stmt := top 20
abbrev N_signed : List Str := ["sign", "left", "right"]
theorem sc_signed : FnScope N_signed ["sign", "left", "right"] (defScope s_signed) := ⟨rfl, rfl, rfl, by decide +kernel, rfl, by decide +kernel, by decide +kernel⟩
abbrev s_fmul : Stmt := inClass (top 18) 9
abbrev N_fmul : List Str := ["self", "other"]
theorem sc_fmul : FnScope N_fmul ["self", "other"] (defScope s_fmul) := ⟨rfl, rfl, rfl, by decide +kernel, rfl, by decide +kernel, by decide +kernel⟩
abbrev s_ffdiv : Stmt := inClass (top 18) 10
abbrev N_ffdiv : List Str := ["self", "other"]
theorem sc_ffdiv : FnScope N_ffdiv ["self", "other"] (defScope s_ffdiv) := ⟨rfl, rfl, rfl, by decide +kernel, rfl, by decide +kernel, by decide +kernel⟩
abbrev s_frsh : Stmt := inClass (top 18) 11
abbrev N_frsh : List Str := ["self", "other"]
theorem sc_frsh : FnScope N_frsh ["self", "other"] (defScope s_frsh) := ⟨rfl, rfl, rfl, by decide +kernel, rfl, by decide +kernel, by decide +kernel⟩
/-- an error of the class at C with this attribute leaves -/
def ErrW (H : Hp) (C : Addr) (E : XK) (at_ : Str) (v : V) : Prop := ∀ d H', Same H H' → H d = none → H' d = some (.xd [(at_, v)]) → E (.ref C) (some d) H'
theorem ErrW.same {H H1 : Hp} {C : Addr} {E : XK} {at_ : Str} {v : V} (h : ErrW H C E at_ v) (s : Same H H1) : ErrW H1 C E at_ v := fun d H' s2 n e => h d H' (s.trans s2) (none_back s n) e
def BadN (K : PySem.W.Frag) (H : Hp) (v : V) : Prop := (∃ n : List Nat, v = .str (S n) ∧ n.length ≤ 10000 ∧ nameB n = false) ∨ NoS K H v
def spLetter (K : PySem.W.Frag) (FC CN : Addr) : Sp := fun vs H Q E => ∃ v : V, vs = [v] ∧ ((∃ n, v = .str (S n) ∧ nameB n = true ∧ ∀ x H', Same H H' → FmAt FC H' x (.lt n) → Q (.ref x) H') ∨ (BadN K H v ∧ ErrW H CN E "given" v))
def spCheckF (K : PySem.W.Frag) (FC CF : Addr) : Sp := fun vs H Q E => ∃ v : V, vs = [v] ∧ ((∃ a f, v = .ref a ∧ FmAt FC H a f ∧ Q .non H) ∨ (NoF K FC H v ∧ ErrW H CF E "given" v))
def spSigned (K : PySem.W.Frag) (FC CF CM : Addr) : Sp := fun vs H Q E => ∃ (s : Nat) (a : Addr) (y : V) (l : Fm), vs = [.str (S (sgL s)), .ref a, y] ∧ s < 3 ∧ FmAt FC H a l ∧ l.ok = true ∧ l.ops ≤ 40 ∧
  ((∃ b r, y = .ref b ∧ FmAt FC H b r ∧ r.ok = true ∧ r.ops ≤ 40 ∧ ((l.ops + 1 + r.ops ≤ 8 ∧ ∀ x H', Same H H' → FmAt FC H' x (.op s l r) → Q (.ref x) H') ∨ (8 < l.ops + 1 + r.ops ∧ ErrW H CM E "limit" (.int 8)))) ∨ (NoF K FC H y ∧ ErrW H CF E "given" y))
def spFop (s : Nat) (K : PySem.W.Frag) (FC CF CM : Addr) : Sp := fun vs H Q E => vs.length = 2 ∧ spSigned K FC CF CM (.str (S (sgL s)) :: vs) H Q E
theorem tyx_same {K : PySem.W.Frag} {H H' : Hp} {x : V} {t : Value} (s : Same H H') (h : TyX K H x t) : TyX K H' x t := by
  cases h with
  | base b =>
    refine .base ?_
    cases b with
    | non => exact .non
    | bl x => exact .bl x
    | int x => exact .int x
    | str x => exact .str x
    | flt x => exact .flt x
    | lst e => exact .lst (s _ _ e)
    | frz e => exact .frz (s _ _ e)
    | tup e => exact .tup (s _ _ e)
    | dK e => exact .dK (s _ _ e)
    | dT e => exact .dT (s _ _ e)
    | ins e a b c d f => exact .ins (s _ _ e) a b c d f
  | byt b => exact .byt b
  | set e => exact .set (s _ _ e)
  | kList e c => exact .kList e c
  | kTuple e c => exact .kTuple e c
  | kDict e c => exact .kDict e c
  | fTuple e => exact .fTuple (s _ _ e)
  | fDict e => exact .fDict (s _ _ e)
theorem NoF.same {K : PySem.W.Frag} {FC : Addr} {H H' : Hp} {v : V} (h : NoF K FC H v) (s : Same H H') : NoF K FC H' v := let ⟨t, a, b⟩ := h; ⟨t, tyx_same s a, b⟩
theorem BadN.same {K : PySem.W.Frag} {H H' : Hp} {v : V} (h : BadN K H v) (s : Same H H') : BadN K H' v := h.elim .inl fun h => .inr (let ⟨t, a, b⟩ := NoS.ex h; ⟨t, tyx_same s a, b⟩)
/-- a new formula -/
theorem new_off {FC x dx : Addr} {G H' : Hp} (nx : G x = none) (ndx : G dx = none) (h : Off x (upd (upd G dx (.own x)) x (.ins FC dx [])) H') : Same G H' := fun b o e => h b o (ne_of_none e nx) (by rw [upd_ne (ne_of_none e nx), upd_ne (ne_of_none e ndx)]; exact e)
theorem new_same {FC x dx : Addr} {G : Hp} (nx : G x = none) (ndx : G dx = none) : Same G (upd (upd G dx (.own x)) x (.ins FC dx [])) := fun b o e => by rw [upd_ne (ne_of_none e nx), upd_ne (ne_of_none e ndx)]; exact e
theorem cons_S : Str.ofString "" = S [] := by decide +kernel
section
variable {P : Program} {w : World} {K : PySem.W.Frag} {mg : Str → Option Value} {base : Heap} {f fi : Addr} {fd fdi : FuncData} {FC CInvalidName CNotAFormula CTooMany : Addr}
theorem c_letterF (T : Bt mg) (FF : FoF K mg FC) (k_is_name : Cal P w K mg base 1 "is_name" (spIsName K)) (FM : Mk K FC fi) (FiF : FnOk P w K mg base L2.CX0 6 fi fdi ["self", "sign", "name", "left", "right"] (spFinit FC)) (BiF : Binds K fdi ["self", "sign", "name", "left", "right"] [])
    (eInvalidName : ErC P w K mg base "InvalidName" "given" bVE CInvalidName) (tyInvalidName : PySem.W.typeIn K (.ref CInvalidName) = some (.type "type")) (F : FnP K "letter" s_letter f fd) : FnOk P w K mg base (L2.CX P w) 8 f fd ["name"] (spLetter K FC CInvalidName) := by
  have hnd := sc_letter.nd
  refine F.ok sc_letter (fun vs H Q E h => ?_) (fun cdv A outer s H vs Q E hr h => ?_)
  · obtain ⟨v, rfl, _⟩ := h
    rfl
  · obtain ⟨v, rfl, h⟩ := h
    refine ⟨_, (pss_cons (ps_if (pt_not (pt_val (pe_cal k_is_name hr (by omega) (by rfl) (pa_cons (pv 0) pa_nil))))
      (pss_one (ps_raise (by rfl) (takes_of rfl rfl rfl rfl) (pmk_er eInvalidName tyInvalidName hr (by omega) (by rfl) (pv 0))))
      pss_nil)
      (pss_one (ps_ret (pe_make FM FiF (hr.mono (by omega)) (by rfl) FF.mgF BiF .nil pass0 (pa_cons pe_str (pa_cons (pv 0) (pa_cons pe_non (pa_cons pe_non pa_nil)))))))), ?_⟩
    rcases h with ⟨n, rfl, hn, q⟩ | ⟨hb, q⟩
    · refine ⟨_, rfl, .str (S n), rfl, .inl ⟨n, rfl, ?_, fun H1 s1 => ?_⟩⟩
      · have := (nameB_len hn).2
        omega
      · rw [hn]
        refine ⟨_, rfl, iteF ?_⟩
        refine ⟨_, rfl, fun x dx nx ndx nex => ?_⟩
        exact ⟨x, dx, _, _, _, _, rfl, upd_same, .inl ⟨n, cons_S, rfl, rfl, rfl, fun H' of hf => ⟨rfl, q x H' (s1.trans (new_off nx ndx of)) hf⟩⟩⟩
    · refine ⟨_, rfl, v, rfl, ?_⟩
      rcases hb with ⟨n, rfl, l4, hn⟩ | hb
      · refine .inl ⟨n, rfl, l4, fun H1 s1 => ?_⟩
        rw [hn]
        exact ⟨_, rfl, iteT ⟨_, rfl, fun d H' s nd x => q d H' (s1.trans s) (none_back s1 nd) x⟩⟩
      · exact .inr ⟨hb, _, rfl, iteT ⟨_, rfl, fun d H' s nd x => q d H' s nd x⟩⟩
theorem c_letter (T : Bt mg) (FF : FoF K mg FC) (k_is_name : Cal P w K mg base 1 "is_name" (spIsName K)) (FM : Mk K FC fi) (FiF : FnOk P w K mg base L2.CX0 6 fi fdi ["self", "sign", "name", "left", "right"] (spFinit FC)) (BiF : Binds K fdi ["self", "sign", "name", "left", "right"] [])
    (eInvalidName : ErC P w K mg base "InvalidName" "given" bVE CInvalidName) (tyInvalidName : PySem.W.typeIn K (.ref CInvalidName) = some (.type "type")) (F : FnP K "letter" s_letter f fd) (hm : mg "letter" = some (.ref f)) : CalX P w K mg base 8 "letter" (spLetter K FC CInvalidName) :=
  calX_of F hm (fun _ _ _ _ _ _ us hl => match us, hl with | [_], _ => rfl) (c_letterF T FF k_is_name FM FiF BiF eInvalidName tyInvalidName F)
theorem c_letterK (T : Bt mg) (FF : FoF K mg FC) (k_is_name : Cal P w K mg base 1 "is_name" (spIsName K)) (FM : Mk K FC fi) (FiF : FnOk P w K mg base L2.CX0 6 fi fdi ["self", "sign", "name", "left", "right"] (spFinit FC)) (BiF : Binds K fdi ["self", "sign", "name", "left", "right"] [])
    (eInvalidName : ErC P w K mg base "InvalidName" "given" bVE CInvalidName) (tyInvalidName : PySem.W.typeIn K (.ref CInvalidName) = some (.type "type")) (F : FnP K "letter" s_letter f fd) (hm : mg "letter" = some (.ref f)) : CalXK P w K mg base 8 "letter" ["name"] (spLetter K FC CInvalidName) :=
  calXK_of F hm (fun _ _ _ _ _ _ _ => rfl) (c_letterF T FF k_is_name FM FiF BiF eInvalidName tyInvalidName F)
theorem c_check_formula (T : Bt mg) (FF : FoF K mg FC) (eNotAFormula : ErC P w K mg base "NotAFormula" "given" bVE CNotAFormula) (tyNotAFormula : PySem.W.typeIn K (.ref CNotAFormula) = some (.type "type")) (F : FnP K "check_formula" s_check_formula f fd) (hm : mg "check_formula" = some (.ref f)) :
    CalX P w K mg base 3 "check_formula" (spCheckF K FC CNotAFormula) := by
  have hnd := sc_check_formula.nd
  refine calX_of F hm (fun _ _ _ _ _ _ us hl => match us, hl with | [_], _ => rfl) (F.ok sc_check_formula (fun vs H Q E h => ?_) (fun cdv A outer s H vs Q E hr h => ?_))
  · obtain ⟨v, rfl, _⟩ := h
    rfl
  · obtain ⟨v, rfl, h⟩ := h
    refine ⟨_, (pss_one (ps_if (pt_not (pt_val (pe_callB call_isi (by rfl) T.m_isinstance (by decide +kernel) (pa_cons (pv 0) (pa_cons (pe_glob (v := .ref FC) (by rfl) FF.mgF rfl) pa_nil)))))
      (pss_one (ps_raise (by rfl) (takes_of rfl rfl rfl rfl) (pmk_er eNotAFormula tyNotAFormula hr (by omega) (by rfl) (pv 0))))
      pss_nil)), ?_⟩
    rcases h with ⟨a, g, rfl, hg, q⟩ | ⟨⟨t, ty, kn⟩, q⟩
    · exact ⟨_, rfl, _, _, _, _, _, rfl, .own FC, hg.ty FF, FF.self, true, rfl, iteF q⟩
    · exact ⟨_, rfl, _, _, _, _, _, rfl, .own FC, ty, kn, false, rfl, iteT ⟨_, rfl, q⟩⟩
theorem c_signed (T : Bt mg) (FF : FoF K mg FC) (mo : ∃ t, mg "MOST_OPERATIONS" = some (.int 8 t)) (LL : SpcM P w K mg base L2.CX0 FC "__len__" ["self"] 1 (spFlen FC)) (FM : Mk K FC fi) (FiF : FnOk P w K mg base L2.CX0 6 fi fdi ["self", "sign", "name", "left", "right"] (spFinit FC)) (BiF : Binds K fdi ["self", "sign", "name", "left", "right"] [])
    (x_check_formula : CalX P w K mg base 3 "check_formula" (spCheckF K FC CNotAFormula)) (eTooMany : ErC P w K mg base "TooMany" "limit" bAE CTooMany) (tyTooMany : PySem.W.typeIn K (.ref CTooMany) = some (.type "type")) (F : FnP K "_signed" s_signed f fd) (hm : mg "_signed" = some (.ref f)) :
    CalX P w K mg base 8 "_signed" (spSigned K FC CNotAFormula CTooMany) := by
  have hnd := sc_signed.nd
  obtain ⟨tmo, hmo⟩ := mo
  obtain ⟨fl_, fdl, hl, hlf, Fl, Bl⟩ := LL
  refine calX_of F hm (fun _ _ _ _ _ _ us hl => match us, hl with | [_, _, _], _ => rfl) (F.ok sc_signed (fun vs H Q E h => ?_) (fun cdv A outer s H vs Q E hr h => ?_))
  · obtain ⟨s0, a, y, l, rfl, _⟩ := h
    rfl
  · obtain ⟨s0, a, y, l, rfl, hs0, hl_, okl, l40, h⟩ := h
    refine ⟨_, (pss_cons (ps_expr (pe_calX x_check_formula hr (by omega) (by rfl) (passes_call (takes_of rfl rfl rfl rfl) (fun _ _ _ _ h => h)) (pa_cons (pv 2) pa_nil)))
      (pss_cons (ps_if (pt_cmpR op_gt (pe_op op_add (pe_op op_add (pe_callB (show CallR _ (.builtin "len") (rLenOwn FC (spFlen FC)) from call_lenOwn Fl (hr.mono (by omega)) hl hlf Bl) (by rfl) T.m_len (by decide +kernel) (pa_cons (pv 1) pa_nil)) pe_int) (pe_callB (show CallR _ (.builtin "len") (rLenOwn FC (spFlen FC)) from call_lenOwn Fl (hr.mono (by omega)) hl hlf Bl) (by rfl) T.m_len (by decide +kernel) (pa_cons (pv 2) pa_nil))) (pe_glob (v := .int 8) (by rfl) hmo ⟨_, rfl⟩) (nomark _))
      (pss_one (ps_raise (by rfl) (takes_of rfl rfl rfl rfl) (pmk_er eTooMany tyTooMany hr (by omega) (by rfl) (pe_glob (v := .int 8) (by rfl) hmo ⟨_, rfl⟩))))
      pss_nil)
      (pss_one (ps_ret (pe_make FM FiF (hr.mono (by omega)) (by rfl) FF.mgF BiF .nil pass0 (pa_cons (pv 0) (pa_cons pe_non (pa_cons (pv 1) (pa_cons (pv 2) pa_nil))))))))), ?_⟩
    rcases h with ⟨b, r, rfl, hr_, okr, r40, h⟩ | ⟨hn, q⟩
    · refine ⟨_, rfl, _, rfl, .inl ⟨b, r, rfl, hr_, ?_⟩⟩
      obtain ⟨d1, f1, e1⟩ := hl_.ins
      obtain ⟨d2, f2, e2⟩ := hr_.ins
      refine ⟨_, rfl, a, d1, f1, rfl, e1, a, l, rfl, hl_, (l.ops : Nat), rfl, Int.natCast_nonneg _, by omega, _, _, rfl, rfl, _, rfl, b, d2, f2, rfl, e2, b, r, rfl, hr_, (r.ops : Nat), rfl, Int.natCast_nonneg _, by omega, _, _, rfl, rfl, _, _, rfl, rfl, _, rfl, ?_⟩
      rcases h with ⟨h8, q⟩ | ⟨h8, q⟩
      · refine iteN2 (decide_eq_false (by omega)) ?_
        refine ⟨_, rfl, _, rfl, _, rfl, fun x dx nx ndx nex => ?_⟩
        have sx := new_same (FC := FC) nx ndx
        exact ⟨x, dx, _, _, _, _, rfl, upd_same, .inr ⟨s0, l, r, a, b, rfl, rfl, rfl, rfl, hl_.same sx, hr_.same sx, okl, okr, by omega, fun H' of hf => ⟨rfl, q x H' (new_off nx ndx of) hf⟩⟩⟩
      · exact iteT2 (decide_eq_true (by omega)) fun d H' s nd x => q d H' s nd x
    · exact ⟨_, rfl, _, rfl, .inr ⟨hn, fun d H' s nd x => q d H' s nd x⟩⟩
theorem c_fmul (x_signed : CalX P w K mg base 8 "_signed" (spSigned K FC CNotAFormula CTooMany)) (F : FunD K "__mul__" "Formula.__mul__" (defArgs s_fmul) (defBody s_fmul) (defScope s_fmul) [] [] f fd) : FnOk P w K mg base (L2.CX P w) 9 f fd ["self", "other"] (spFop 0 K FC CNotAFormula CTooMany) := by
  have hnd := sc_fmul.nd
  refine F.ok sc_fmul (fun vs H Q E h => h.1) (fun cdv A outer s H vs Q E hr h => ?_)
  obtain ⟨l2, h⟩ := h
  obtain ⟨x, y, rfl⟩ : ∃ x y, vs = [x, y] := by
    match vs, l2 with
    | [x, y], _ => exact ⟨x, y, rfl⟩
  refine ⟨_, (pss_one (ps_ret (pe_calX x_signed hr (by omega) (by rfl) (passes_call (takes_of rfl rfl rfl rfl) (fun _ _ _ _ h => h)) (pa_cons pe_str (pa_cons (pv 0) (pa_cons (pv 1) pa_nil)))))), ?_⟩
  refine ⟨_, rfl, _, rfl, ?_⟩
  have e : (Str.ofString "*") = S (sgL 0) := by decide +kernel
  rw [← e] at h
  exact h
theorem c_ffdiv (x_signed : CalX P w K mg base 8 "_signed" (spSigned K FC CNotAFormula CTooMany)) (F : FunD K "__floordiv__" "Formula.__floordiv__" (defArgs s_ffdiv) (defBody s_ffdiv) (defScope s_ffdiv) [] [] f fd) : FnOk P w K mg base (L2.CX P w) 9 f fd ["self", "other"] (spFop 1 K FC CNotAFormula CTooMany) := by
  have hnd := sc_ffdiv.nd
  refine F.ok sc_ffdiv (fun vs H Q E h => h.1) (fun cdv A outer s H vs Q E hr h => ?_)
  obtain ⟨l2, h⟩ := h
  obtain ⟨x, y, rfl⟩ : ∃ x y, vs = [x, y] := by
    match vs, l2 with
    | [x, y], _ => exact ⟨x, y, rfl⟩
  refine ⟨_, (pss_one (ps_ret (pe_calX x_signed hr (by omega) (by rfl) (passes_call (takes_of rfl rfl rfl rfl) (fun _ _ _ _ h => h)) (pa_cons pe_str (pa_cons (pv 0) (pa_cons (pv 1) pa_nil)))))), ?_⟩
  refine ⟨_, rfl, _, rfl, ?_⟩
  have e : (Str.ofString "//") = S (sgL 1) := by decide +kernel
  rw [← e] at h
  exact h
theorem c_frsh (x_signed : CalX P w K mg base 8 "_signed" (spSigned K FC CNotAFormula CTooMany)) (F : FunD K "__rshift__" "Formula.__rshift__" (defArgs s_frsh) (defBody s_frsh) (defScope s_frsh) [] [] f fd) : FnOk P w K mg base (L2.CX P w) 9 f fd ["self", "other"] (spFop 2 K FC CNotAFormula CTooMany) := by
  have hnd := sc_frsh.nd
  refine F.ok sc_frsh (fun vs H Q E h => h.1) (fun cdv A outer s H vs Q E hr h => ?_)
  obtain ⟨l2, h⟩ := h
  obtain ⟨x, y, rfl⟩ : ∃ x y, vs = [x, y] := by
    match vs, l2 with
    | [x, y], _ => exact ⟨x, y, rfl⟩
  refine ⟨_, (pss_one (ps_ret (pe_calX x_signed hr (by omega) (by rfl) (passes_call (takes_of rfl rfl rfl rfl) (fun _ _ _ _ h => h)) (pa_cons pe_str (pa_cons (pv 0) (pa_cons (pv 1) pa_nil)))))), ?_⟩
  refine ⟨_, rfl, _, rfl, ?_⟩
  have e : (Str.ofString ">>") = S (sgL 2) := by decide +kernel
  rw [← e] at h
  exact h
end
end L2.K06
set_option Elab.async false
set_option linter.all false
set_option maxRecDepth 100000
set_option maxHeartbeats 8000000
namespace L2.K06
open PySem PySem.Spec PyProof.Rows L2.Tb
open SX (S)
def errsB (K : PySem.W.Frag) (xs : List Str) : Bool := xs.all (fun x => ercB K bVE x "given" && (decide (PySem.W.typeIn K (.ref (He.ga K x)) = some (.type "type")) && (xfB K (He.ga K x) && (He.Fa.noat x "given").ok K))) &&
  xs.all fun x => xs.all fun y => decide (PySem.W.exmOne K (.ref (He.ga K x)) (.ref (He.ga K y)) = some (x == y))
theorem errsB_ok {K : PySem.W.Frag} {xs : List Str} (h : errsB K xs = true) : (∀ x ∈ xs, ercB K bVE x "given" = true ∧ PySem.W.typeIn K (.ref (He.ga K x)) = some (.type "type") ∧ XfC K (He.ga K x) ∧ PySem.W.findIn K (.ref (He.ga K x)) "given" = some none) ∧
    ∀ x ∈ xs, ∀ y ∈ xs, PySem.W.exmOne K (.ref (He.ga K x)) (.ref (He.ga K y)) = some (x == y) := by
  obtain ⟨h1, h2⟩ := He.ba h
  refine ⟨fun x hx => ?_, fun x hx y hy => of_decide_eq_true (List.all_eq_true.mp (List.all_eq_true.mp h2 x hx) y hy)⟩
  obtain ⟨a, q⟩ := He.ba (List.all_eq_true.mp h1 x hx)
  obtain ⟨b, q⟩ := He.ba q
  obtain ⟨c, d⟩ := He.ba q
  exact ⟨a, of_decide_eq_true b, xfB_ok c, He.noat_ok d⟩
abbrev FunK (K : PySem.W.Frag) (x q : Str) (st : Stmt) (kws : List (Str × V)) (f : Addr) (fd : FuncData) : Prop := FunD K x q (defArgs st) (defBody st) (defScope st) [] kws f fd
def tmB (K : PySem.W.Frag) : Bool := ercB K bAE "TooMany" "limit" && (decide (PySem.W.typeIn K (.ref (He.ga K "TooMany")) = some (.type "type")) && (xfB K (He.ga K "TooMany") && decide (PySem.W.exmOne K (.ref (He.ga K "TooMany")) (.ref (He.ga K "TooMany")) = some true)))
end L2.K06
set_option Elab.async false
set_option linter.all false
set_option maxRecDepth 100000
set_option maxHeartbeats 0
namespace L2.K06
open PySem PySem.Spec PyProof.Rows L2.Tb
/-! ### the head -/
def frees : List Str := [("len" : Str), ("int" : Str), ("abs" : Str), ("divmod" : Str), ("isinstance" : Str), ("tuple" : Str), ("list" : Str), ("bool" : Str), ("all" : Str), ("zip" : Str), ("range" : Str), ("max" : Str), ("min" : Str), ("enumerate" : Str), ("repr" : Str), ("sorted" : Str), ("ValueError" : Str), ("LookupError" : Str), ("ArithmeticError" : Str), ("str" : Str)]
def gloL : List Str := [("InvalidName" : Str), ("NotAFormula" : Str), ("InvalidText" : Str), ("TooMany" : Str), ("Formula" : Str), ("SIGNS" : Str), ("is_name" : Str), ("letter" : Str), ("check_formula" : Str), ("_signed" : Str), ("_in_order" : Str), ("_parsed" : Str), ("_closed" : Str), ("_law_cell" : Str), ("_law_purse" : Str), ("_law_draw" : Str), ("_law_alike" : Str), ("_law_odd" : Str), ("_law_name" : Str), ("_law_names" : Str), ("_law_is_name" : Str), ("_law_tree" : Str), ("_law_text" : Str), ("_law_many" : Str)] ++ [("_law_made" : Str), ("_law_sign" : Str), ("_law_bent" : Str), ("_law_found" : Str), ("_law_read" : Str), ("_law_told" : Str), ("_law_line_right" : Str), ("_law_deep_right" : Str), ("_law_right" : Str), ("law" : Str)]
def errL : List Str := ["InvalidName", "NotAFormula", "InvalidText"]

def factB (K : PySem.W.Frag) : Bool := gloL.all (fun x => (He.Fa.glo x).ok K) && (frees.all (fun x => (He.Fa.free x).ok K) && (errsB K errL && (tmB K && ((He.Fa.str "_LETTERS" "abcdefghijklmnopqrstuvwxyz").ok K && ((He.Fa.str "_DIGITS" "0123456789").ok K && ((He.Fa.int "_LONGEST_NAME" 8).ok K && ((He.Fa.int "MOST_OPERATIONS" 8).ok K && ((He.Fa.cls "Formula").ok K && ((He.Fa.noat "Formula" "_sign").ok K && ((He.Fa.noat "Formula" "_name").ok K && ((He.Fa.noat "Formula" "_left").ok K && ((He.Fa.noat "Formula" "_right").ok K && ((He.Fa.noat "Formula" "_text").ok K && ((He.Fa.noat "Formula" "_signs").ok K && ((He.Fa.noat "Formula" "_inner").ok K && ((He.Fa.mkr "Formula").ok K && (insB K (He.ga K "Formula") && (decide (PySem.W.kitOne K (.ref (He.ga K "Formula")) (.ref (He.ga K "Formula")) = some true) && (He.eqO (PySem.W.findIn K (.ref (He.ga K "Formula")) "__format__") (some (some (.builtin "object.__format__"))) && (He.eqO (PySem.W.findIn K (.ref (He.ga K "Formula")) "__ne__") (some (some (.builtin "object.__ne__"))) && ((He.Fa.meth "Formula" "__mul__").ok K && ((He.Fa.meth "Formula" "__floordiv__").ok K && ((He.Fa.meth "Formula" "__rshift__").ok K && ((He.Fa.meth "Formula" "__contains__").ok K && ((He.Fa.meth "Formula" "__len__").ok K && ((He.Fa.meth "Formula" "__eq__").ok K && ((He.Fa.meth "Formula" "__str__").ok K && (propB K (He.ga K "Formula") "sign" && (propB K (He.ga K "Formula") "name" && (propB K (He.ga K "Formula") "left" && (propB K (He.ga K "Formula") "right" && (propB K (He.ga K "Formula") "parts" && (PySem.W.selfFirst K (He.ga K "Formula") && (He.eqO (PySem.W.findIn K (.ref (He.ga K "Formula")) (dunderR Operator.Mult.info.2)) (some none) && (He.eqO (PySem.W.findIn K (.ref (He.ga K "Formula")) (dunderR Operator.FloorDiv.info.2)) (some none) && (He.eqO (PySem.W.findIn K (.ref (He.ga K "Formula")) (dunderR Operator.RShift.info.2)) (some none) && (tupB K (He.ga K "SIGNS") ((["*", "//", ">>"] : List Str).map V.str) && (decide (PySem.W.kitOne K (.type "str") (.ref (He.ga K "Formula")) = some false) && (decide (PySem.W.kitOne K (.type "NoneType") (.ref (He.ga K "Formula")) = some false) && (PySem.W.notFirst K (He.ga K "Formula") (.type "str") && (decide (PySem.W.subIn K (.ref (He.ga K "Formula")) (.type "str") = some false) && (creadB K (He.ga K "Formula") && (cmetB K (He.ga K "Formula") "read" && (decide ((He.cT K ("_law_line_right", none)).2 ≠ (He.cT K ("_law_deep_right", none)).2) && (decide ((He.cT K ("_law_line_right", none)).2 ≠ (He.cT K ("_law_right", none)).2) && (decide ((He.cT K ("_law_deep_right", none)).2 ≠ (He.cT K ("_law_right", none)).2)))))))))))))))))))))))))))))))))))))))))))))))
def dIn (at_ : PySem.W.Frag → Addr) (x q : Str) (st : Stmt) (kw : List (Str × He.Dv)) : He5.DefA := ⟨at_, x, q, defArgs st, defBody st, defScope st, [], kw⟩
def dTop (x : Str) (i : Nat) : He5.DefA := dIn (fun K => He.fAd K (x, none)) x x (top i) []
def fnA1 : List He5.DefA := [dTop "is_name" 13, dTop "letter" 17, dTop "check_formula" 19, dTop "_signed" 20, dTop "_in_order" 21, dTop "_parsed" 22, dTop "_closed" 23, dTop "_law_cell" 25, dTop "_law_purse" 26, dTop "_law_draw" 27, dTop "_law_alike" 28, dTop "_law_odd" 29, dTop "_law_name" 30, dTop "_law_names" 31, dTop "_law_is_name" 32, dTop "_law_tree" 33, dTop "_law_text" 34, dTop "_law_many" 35, dTop "_law_made" 36, dTop "_law_sign" 37, dTop "_law_bent" 38, dTop "_law_found" 39, dTop "_law_read" 40, dTop "_law_told" 41] ++ [dTop "_law_line_right" 42, dTop "_law_deep_right" 43, dTop "_law_right" 44, dTop "law" 45]
def fnA2 : List He5.DefA := [dIn (fun K => He.ma K (He.ga K "InvalidName") "__init__") "__init__" "InvalidName.__init__" (inClass (top 3) 0) [], dIn (fun K => He.ma K (He.ga K "NotAFormula") "__init__") "__init__" "NotAFormula.__init__" (inClass (top 5) 0) [], dIn (fun K => He.ma K (He.ga K "InvalidText") "__init__") "__init__" "InvalidText.__init__" (inClass (top 4) 0) [], dIn (fun K => He.ma K (He.ga K "TooMany") "__init__") "__init__" "TooMany.__init__" (inClass (top 8) 0) [], dIn (fun K => He.ma K (He.ga K "Formula") "__init__") "__init__" "Formula.__init__" (inClass (top 18) 0) [], dIn (fun K => He.ma K (He.ga K "Formula") "__mul__") "__mul__" "Formula.__mul__" (inClass (top 18) 9) [], dIn (fun K => He.ma K (He.ga K "Formula") "__floordiv__") "__floordiv__" "Formula.__floordiv__" (inClass (top 18) 10) [], dIn (fun K => He.ma K (He.ga K "Formula") "__rshift__") "__rshift__" "Formula.__rshift__" (inClass (top 18) 11) [], dIn (fun K => He.ma K (He.ga K "Formula") "__contains__") "__contains__" "Formula.__contains__" (inClass (top 18) 12) [], dIn (fun K => He.ma K (He.ga K "Formula") "__len__") "__len__" "Formula.__len__" (inClass (top 18) 13) [], dIn (fun K => He.ma K (He.ga K "Formula") "__eq__") "__eq__" "Formula.__eq__" (inClass (top 18) 15) [], dIn (fun K => He.ma K (He.ga K "Formula") "__str__") "__str__" "Formula.__str__" (inClass (top 18) 16) [], dIn (fun K => pAd K (He.ga K "Formula") "sign") "sign" "Formula.sign" (inClass (top 18) 2) [], dIn (fun K => pAd K (He.ga K "Formula") "name") "name" "Formula.name" (inClass (top 18) 3) [], dIn (fun K => pAd K (He.ga K "Formula") "left") "left" "Formula.left" (inClass (top 18) 4) [], dIn (fun K => pAd K (He.ga K "Formula") "right") "right" "Formula.right" (inClass (top 18) 5) [], dIn (fun K => pAd K (He.ga K "Formula") "parts") "parts" "Formula.parts" (inClass (top 18) 7) [], dIn (fun K => cAd K (He.ga K "Formula") "read") "read" "Formula.read" (inClass (top 18) 1) []]
def fnA : List He5.DefA := fnA1 ++ fnA2
def tabL : List He.Tab := []
def cdL : List He.Defn := [("_law_line_right", none), ("_law_deep_right", none), ("_law_right", none)]
abbrev hookX : PySem.W.Hook := hookH 5 factB fnA tabL cdL
abbrev R : PySem.W.OpenRow := PySem.W.OpenLaw.row PySem.Challenge.rw_thirdback_k06_whole_texts_of_formulas
def ob (s : PySem.W.SharedT) : AlH := obsH 5 factB fnA tabL cdL (HandSHeadRun.getT s)
theorem ob_eq (s : PySem.W.SharedT) : ob s = hookX.obs s.abs := obH_eq s
def looseN : List Str := [("WrongValue" : Str), ("InvalidName" : Str), ("InvalidText" : Str), ("NotAFormula" : Str), ("WrongName" : Str), ("NoAnswer" : Str), ("TooMany" : Str), ("Formula" : Str), ("_LETTERS" : Str), ("_DIGITS" : Str), ("_LONGEST_NAME" : Str), ("MOST_OPERATIONS" : Str), ("SIGNS" : Str), ("_wall" : Str), ("is_name" : Str), ("letter" : Str), ("check_formula" : Str), ("_signed" : Str), ("_in_order" : Str), ("_parsed" : Str), ("_closed" : Str), ("_law_cell" : Str), ("_law_purse" : Str), ("_law_draw" : Str)] ++ [("_law_alike" : Str), ("_law_odd" : Str), ("_law_name" : Str), ("_law_names" : Str), ("_law_is_name" : Str), ("_law_tree" : Str), ("_law_text" : Str), ("_law_many" : Str), ("_law_made" : Str), ("_law_sign" : Str), ("_law_bent" : Str), ("_law_found" : Str), ("_law_read" : Str), ("_law_told" : Str), ("_law_line_right" : Str), ("_law_deep_right" : Str), ("_law_right" : Str)]
theorem run_f (w : World) : HandSHeadRun.RunEq R (PySem.W.view R.prog [45]) hookX ob 20000 looseN (w.withFollow "special-get-raises" false) := fun os => by kernel_rfl
theorem run_t (w : World) : HandSHeadRun.RunEq R (PySem.W.view R.prog [45]) hookX ob 20000 looseN (w.withFollow "special-get-raises" true) := fun os => by kernel_rfl
theorem run (w : World) : HandSHeadRun.RunEq R (PySem.W.view R.prog [45]) hookX ob 20000 looseN w :=
  PySem.W.byRow2 "special-get-raises" (P := fun w => HandSHeadRun.RunEq R (PySem.W.view R.prog [45]) hookX ob 20000 looseN w) run_f run_t w
end L2.K06
set_option Elab.async false
set_option linter.all false
set_option maxRecDepth 100000
set_option maxHeartbeats 8000000
namespace L2.K06
open PySem PySem.Spec PyProof.Rows L2.Tb
open SX (S)
/-! ### a text is the text of one formula only -/
/-- what may follow a name -/
def EndB (x : List Nat) : Bool := match x with | [] => true | c :: _ => !signB c
theorem take_sign {n x : List Nat} (hn : nameB n = true) (hx : EndB x = true) : (n ++ x).takeWhile signB = n := by
  have all : ∀ c ∈ n, signB c = true := by
    cases n with
    | nil => exact fun c hc => by cases hc
    | cons a r =>
      simp only [nameB, Bool.and_eq_true] at hn
      intro c hc
      rcases List.mem_cons.mp hc with rfl | hc
      · simp only [signB, hn.1, Bool.true_or]
      · exact List.all_eq_true.mp hn.2.2 c hc
  rw [List.takeWhile_append_of_pos all]
  cases x with
  | nil => rw [List.takeWhile_nil, List.append_nil]
  | cons c r =>
    have : signB c = false := by simpa [EndB] using hx
    rw [List.takeWhile_cons, if_neg (by rw [this]; decide), List.append_nil]
theorem sg_cut : ∀ s, s < 3 → ∀ t, t < 3 → ∀ x y : List Nat, sgL s ++ (32 :: x) = sgL t ++ (32 :: y) → s = t ∧ x = y := by
  intro s hs t ht x y h
  rcases (show s = 0 ∨ s = 1 ∨ s = 2 by omega) with rfl | rfl | rfl <;> rcases (show t = 0 ∨ t = 1 ∨ t = 2 by omega) with rfl | rfl | rfl <;> simp [sgL] at h ⊢ <;> exact h
theorem head_name {n x : List Nat} (hn : nameB n = true) : ∀ y, n ++ x ≠ 40 :: y := by
  intro y h
  cases n with
  | nil => cases hn
  | cons a r =>
    simp only [nameB, lowB, Bool.and_eq_true, Nat.ble_eq] at hn
    injection h with h _
    omega
theorem txt_cut : ∀ (f g : Fm), f.ok = true → g.ok = true → ∀ x y : List Nat, EndB x = true → EndB y = true → f.txt ++ x = g.txt ++ y → f = g ∧ x = y
  | .lt n, .lt m, hf, hg, x, y, hx, hy, h => by
    have h1 := take_sign (show nameB n = true from hf) hx
    have h2 := take_sign (show nameB m = true from hg) hy
    have h : n ++ x = m ++ y := h
    rw [h, h2] at h1
    subst h1
    exact ⟨rfl, List.append_cancel_left h⟩
  | .lt n, .op t l2 r2, hf, hg, x, y, hx, hy, h => absurd (show n ++ x = 40 :: _ from h) (head_name hf _)
  | .op s l r, .lt m, hf, hg, x, y, hx, hy, h => absurd (show m ++ y = 40 :: _ from h.symm) (head_name hg _)
  | .op s l r, .op t l2 r2, hf, hg, x, y, hx, hy, h => by
    obtain ⟨hs, hl, hr⟩ := Fm.ok_op hf
    obtain ⟨ht, hl2, hr2⟩ := Fm.ok_op hg
    have h : l.txt ++ (32 :: (sgL s ++ (32 :: (r.txt ++ (41 :: x))))) = l2.txt ++ (32 :: (sgL t ++ (32 :: (r2.txt ++ (41 :: y))))) := by
      simp only [Fm.txt, List.append_assoc, List.cons_append, List.nil_append] at h
      exact (List.cons.inj h).2
    obtain ⟨e1, h1⟩ := txt_cut l l2 hl hl2 _ _ rfl rfl h
    obtain ⟨e2, h2⟩ := sg_cut s hs t ht _ _ (List.cons.inj h1).2
    obtain ⟨e3, h3⟩ := txt_cut r r2 hr hr2 _ _ rfl rfl h2
    exact ⟨by rw [e1, e2, e3], (List.cons.inj h3).2⟩
theorem txt_inj {f g : Fm} (hf : f.ok = true) (hg : g.ok = true) (h : f.txt = g.txt) : f = g := (txt_cut f g hf hg [] [] rfl rfl (by rw [h])).1
theorem txt_dec {f g : Fm} (hf : f.ok = true) (hg : g.ok = true) : decide (f.txt = g.txt) = decide (f = g) := decide_eq_decide.mpr ⟨txt_inj hf hg, fun h => by rw [h]⟩
/-! ### reading a text: words, a stack of words and formulas -/
def sbs (c : Nat) (z : List Nat) (a : List Nat) : List Nat := a.flatMap fun x => if x = c then z else [x]
theorem sbs_app {c : Nat} {z a b : List Nat} : sbs c z (a ++ b) = sbs c z a ++ sbs c z b := List.flatMap_append
theorem sbs_no {c : Nat} {z : List Nat} : ∀ {a : List Nat}, c ∉ a → sbs c z a = a
  | [], _ => rfl
  | x :: a, h => by
    have ih := sbs_no (z := z) fun q => h (List.mem_cons_of_mem _ q)
    unfold sbs at ih ⊢
    rw [List.flatMap_cons, ih, if_neg fun e => h (by rw [e]; exact List.mem_cons_self)]
    rfl
theorem pre_one {c x : Nat} {r : List Nat} : TL.pre [c] (x :: r) = decide (x = c) := by
  unfold TL.pre
  by_cases h : x = c
  · subst h; simp
  · rw [decide_eq_false h]
    simp [h]
theorem spl_one_ne (c : Nat) : ∀ (a acc : List Nat), TL.spl [c] 0 acc a ≠ []
  | [], acc => by rw [TL.spl_nil]; simp
  | x :: a, acc => by
    cases h : TL.pre [c] (x :: a) with
    | true => rw [TL.spl_hit h]; simp
    | false => rw [TL.spl_miss h]; exact spl_one_ne c a _
theorem joinL_spl (c : Nat) (z : List Nat) : ∀ (a acc : List Nat), TL.joinL z (TL.spl [c] 0 acc a) = acc ++ sbs c z a
  | [], acc => by rw [TL.spl_nil]; simp [TL.joinL, sbs]
  | x :: a, acc => by
    cases h : TL.pre [c] (x :: a) with
    | true =>
      have e : x = c := of_decide_eq_true (by rw [← pre_one (r := a)]; exact h)
      rw [TL.spl_hit h]
      have ih := joinL_spl c z a []
      have ne := spl_one_ne c a []
      show TL.joinL z (acc :: TL.spl [c] 0 [] a) = _
      cases hs : TL.spl [c] 0 [] a with
      | nil => exact absurd hs ne
      | cons p q =>
        rw [hs] at ih
        show acc ++ (z ++ TL.joinL z (p :: q)) = _
        rw [ih]
        unfold sbs
        rw [List.flatMap_cons, if_pos e, List.nil_append]
    | false =>
      have e : x ≠ c := fun e => by
        rw [pre_one, decide_eq_true e] at h
        cases h
      rw [TL.spl_miss h, joinL_spl c z a]
      unfold sbs
      rw [List.flatMap_cons, if_neg e, List.append_assoc]
theorem spl_one_len (c : Nat) : ∀ (a acc : List Nat), (TL.spl [c] 0 acc a).length = cnt c a + 1
  | [], acc => by rw [TL.spl_nil]; rfl
  | x :: a, acc => by
    cases h : TL.pre [c] (x :: a) with
    | true =>
      have e : x = c := of_decide_eq_true (by rw [← pre_one (r := a)]; exact h)
      rw [TL.spl_hit h, List.length_cons]
      show (TL.spl [c] 0 [] a).length + 1 = _
      rw [spl_one_len c a]
      unfold cnt
      rw [List.countP_cons, if_pos (by simp [e])]
    | false =>
      have e : x ≠ c := fun e => by
        rw [pre_one, decide_eq_true e] at h
        cases h
      rw [TL.spl_miss h, spl_one_len c a]
      unfold cnt
      rw [List.countP_cons, if_neg (by simp [e])]
open PySem.Builtin.Str in
theorem occ_short {a : List Nat} {c : Nat} (h : (S a).length < (S [c]).length) : (occurrences (S a) (S [c]) 0 (S a).length ((S a).length + 1)).isEmpty = true := by
  cases ho : occurrences (S a) (S [c]) 0 (S a).length ((S a).length + 1) with
  | nil => rfl
  | cons i r =>
    have := (PySem.StrLaws.occ_spec (S a) (S [c]) 0 (S a).length ((S a).length + 1) i (by rw [ho]; exact List.mem_cons_self)).1
    omega
open PySem.Builtin.Str in
theorem split_one {a : List Nat} {c : Nat} (hc : c < 256) : (Txt.split (S a) (S [c])) = if (occurrences (S a) (S [c]) 0 (S a).length ((S a).length + 1)).isEmpty = true then [S a] else partsBetween (S a) (occurrences (S a) (S [c]) 0 (S a).length ((S a).length + 1)) (S [c]).length := by
  unfold Txt.split
  by_cases h1 : (decide ((S a).length < (S [c]).length) || decide (strKind (S a) < strKind (S [c]))) = true
  · rw [if_pos h1]
    have hk := TL.kind_ok (x := S a) (SX.all256 (b := [c]) (by simp [hc]))
    simp only [Bool.or_eq_true, decide_eq_true_eq] at h1
    rcases h1 with h1 | h1
    · rw [if_pos (occ_short h1)]
    · exact absurd h1 hk
  · rw [if_neg h1]
theorem replace_S {a z : List Nat} {c : Nat} (hc : c < 256) : Txt.replace (S a) (S [c]) (S z) = S (sbs c z a) := by
  have e : Txt.replace (S a) (S [c]) (S z) = Txt.join (S z) (Txt.split (S a) (S [c])) := by
    rw [split_one hc]
    unfold Txt.replace Txt.join
    cases ho : (PySem.Builtin.Str.occurrences (S a) (S [c]) 0 (S a).length ((S a).length + 1)).isEmpty with
    | true =>
      rw [if_pos rfl, if_pos (by rfl)]
      rfl
    | false =>
      rw [if_neg (show ¬ ((false || ((S [c]).length == 0 && (S z).length == 0)) = true) from by rw [show ((S [c]).length == 0) = false from rfl]; simp), if_neg (by decide)]
  rw [e, SX.split_S (by simp) (by simp [hc]), SX.join_S, joinL_spl, List.nil_append]
theorem count_S {a : List Nat} {c : Nat} (hc : c < 256) : Txt.count (S a) (S [c]) = (cnt c a : Nat) := by
  have e := congrArg List.length (SX.split_S (a := a) (b := [c]) (by simp) (by simp [hc]))
  rw [List.length_map, spl_one_len, split_one hc] at e
  unfold Txt.count
  cases ho : (PySem.Builtin.Str.occurrences (S a) (S [c]) 0 (S a).length ((S a).length + 1)).isEmpty with
  | true =>
    rw [ho, if_pos rfl] at e
    rw [List.isEmpty_iff.mp ho]
    simp only [List.length_cons, List.length_nil] at e
    show ((0 : Nat) : Int) = _
    omega
  | false =>
    rw [ho, if_neg (by decide), PySem.length_partsBetween] at e
    omega
/-- the words of a text, parentheses apart -/
def repW (t : List Nat) : List Nat := sbs 41 [32, 41] (sbs 40 [40, 32] t)
def wordsT (t : List Nat) : List (List Nat) := TL.spl [32] 0 [] (repW t)
theorem repW_app {a b : List Nat} : repW (a ++ b) = repW a ++ repW b := by
  unfold repW
  rw [sbs_app, sbs_app]
theorem name_ge {n : List Nat} (h : nameB n = true) : ∀ c ∈ n, 48 ≤ c := by
  cases n with
  | nil => exact fun c hc => by cases hc
  | cons a r =>
    simp only [nameB, lowB, Bool.and_eq_true, Nat.ble_eq] at h
    intro c hc
    rcases List.mem_cons.mp hc with rfl | hc
    · omega
    · have := List.all_eq_true.mp h.2.2 c hc
      simp only [signB, lowB, Bool.or_eq_true, Bool.and_eq_true, Nat.ble_eq] at this
      omega
theorem repW_name {n : List Nat} (h : nameB n = true) : repW n = n := by
  have g := name_ge h
  unfold repW
  rw [sbs_no (c := 40) fun q => by have := g _ q; omega, sbs_no (c := 41) fun q => by have := g _ q; omega]
theorem repW_sg (s : Nat) : repW (sgL s) = sgL s := by
  unfold sgL
  split <;> decide
def wordsF : Fm → List (List Nat)
  | .lt n => [n]
  | .op s l r => [40] :: (wordsF l ++ (sgL s :: (wordsF r ++ [[41]])))
theorem wordsF_ne : ∀ f : Fm, wordsF f ≠ []
  | .lt _ => by simp [wordsF]
  | .op _ _ _ => by simp [wordsF]
theorem joinL_app {z : List Nat} : ∀ {a b : List (List Nat)}, a ≠ [] → b ≠ [] → TL.joinL z (a ++ b) = TL.joinL z a ++ (z ++ TL.joinL z b)
  | [], _, h, _ => absurd rfl h
  | [x], b, _, hb => by
    cases b with
    | nil => exact absurd rfl hb
    | cons y b => rfl
  | x :: y :: a, b, _, hb => by
    have ih := joinL_app (z := z) (a := y :: a) (b := b) (by simp) hb
    show x ++ (z ++ TL.joinL z ((y :: a) ++ b)) = _
    rw [ih]
    show _ = (x ++ (z ++ TL.joinL z (y :: a))) ++ _
    simp only [List.append_assoc]
theorem repW_txt : ∀ f : Fm, f.ok = true → repW f.txt = TL.joinL [32] (wordsF f)
  | .lt n, h => repW_name h
  | .op s l r, h => by
    obtain ⟨_, hl, hr⟩ := Fm.ok_op h
    have h1 := repW_txt l hl
    have h2 := repW_txt r hr
    simp only [Fm.txt, repW_app, h1, h2, repW_sg]
    rw [show repW [40] = [40, 32] from by decide, show repW [32] = [32] from by decide, show repW [41] = [32, 41] from by decide]
    rw [show wordsF (.op s l r) = [[40]] ++ (wordsF l ++ ([sgL s] ++ (wordsF r ++ [[41]]))) from rfl]
    rw [joinL_app (by simp) (by simp), joinL_app (wordsF_ne l) (by simp), joinL_app (by simp) (by simp), joinL_app (wordsF_ne r) (by simp)]
    simp [TL.joinL]
theorem wordsF_no32 : ∀ f : Fm, f.ok = true → ∀ w ∈ wordsF f, 32 ∉ w
  | .lt n, h, w, hw => by
    rw [List.mem_singleton.mp hw]
    exact fun q => by have := name_ge h _ q; omega
  | .op s l r, h, w, hw => by
    obtain ⟨_, hl, hr⟩ := Fm.ok_op h
    have sg : 32 ∉ sgL s := by
      unfold sgL
      split <;> decide
    simp only [wordsF, List.mem_cons, List.mem_append, List.mem_singleton, List.not_mem_nil, or_false] at hw
    rcases hw with rfl | hw | rfl | hw | rfl
    · decide
    · exact wordsF_no32 l hl w hw
    · exact sg
    · exact wordsF_no32 r hr w hw
    · decide
theorem wordsT_txt {f : Fm} (h : f.ok = true) : wordsT f.txt = wordsF f := by
  unfold wordsT
  rw [repW_txt f h]
  exact SX.spl_join (wordsF_ne f) (wordsF_no32 f h)
/-! ### the stack -/
inductive Itm where
  | wd (w : List Nat)
  | fm (f : Fm)
  | no
def pushI (w : List Nat) : Itm := if nameB w = true then .fm (.lt w) else .wd w
def sgOf (b : List Nat) : Option Nat := if b = [42] then some 0 else if b = [47, 47] then some 1 else if b = [62, 62] then some 2 else none
theorem sgOf_ok {b : List Nat} {s : Nat} (h : sgOf b = some s) : s < 3 ∧ b = sgL s := by
  unfold sgOf at h
  split at h
  · cases h; exact ⟨by decide, by assumption⟩
  · split at h
    · cases h; exact ⟨by decide, by assumption⟩
    · split at h
      · cases h; exact ⟨by decide, by assumption⟩
      · cases h
theorem sgOf_sg : ∀ s, s < 3 → sgOf (sgL s) = some s := by decide +kernel
def closeI : List Itm → Itm
  | [.wd a, .fm l, .wd b, .fm r, _] => if a = [40] then (match sgOf b with | some s => .fm (.op s l r) | none => .no) else .no
  | _ => .no
def stepI (st : List Itm) (w : List Nat) : List Itm := if w = [41] then (st ++ [pushI w]).take ((st ++ [pushI w]).length - 5) ++ [closeI ((st ++ [pushI w]).drop ((st ++ [pushI w]).length - 5))] else st ++ [pushI w]
def runI (st : List Itm) (ws : List (List Nat)) : List Itm := ws.foldl stepI st
theorem runI_cons (st : List Itm) (w : List Nat) (ws : List (List Nat)) : runI st (w :: ws) = runI (stepI st w) ws := rfl
theorem step_f {st : List Itm} {s : Nat} {l r : Fm} (hs : s < 3) : stepI (st ++ [.wd [40], .fm l, .wd (sgL s), .fm r]) [41] = st ++ [.fm (.op s l r)] := by
  unfold stepI
  rw [if_pos rfl]
  have e : (st ++ [Itm.wd [40], .fm l, .wd (sgL s), .fm r]) ++ [pushI [41]] = st ++ [Itm.wd [40], .fm l, .wd (sgL s), .fm r, .wd [41]] := by
    rw [List.append_assoc]
    rfl
  rw [e]
  have n : (st ++ [Itm.wd [40], .fm l, .wd (sgL s), .fm r, .wd [41]]).length - 5 = st.length := by
    rw [List.length_append]
    show st.length + 5 - 5 = _
    omega
  rw [n, List.take_left, List.drop_left]
  show st ++ [if [40] = [40] then (match sgOf (sgL s) with | some s => Itm.fm (.op s l r) | none => .no) else .no] = _
  rw [if_pos rfl, sgOf_sg s hs]
theorem push_sg (s : Nat) : pushI (sgL s) = .wd (sgL s) := by
  unfold pushI sgL
  split <;> rfl
theorem sg_no41 (s : Nat) : sgL s ≠ [41] := by
  unfold sgL
  split <;> decide
theorem name_no41 {n : List Nat} (h : nameB n = true) : n ≠ [41] := fun e => by
  rw [e] at h
  exact absurd h (by decide)
theorem run_fm : ∀ (f : Fm), f.ok = true → ∀ (st : List Itm) (ws : List (List Nat)), runI st (wordsF f ++ ws) = runI (st ++ [.fm f]) ws
  | .lt n, h, st, ws => by
    have hn : nameB n = true := h
    show runI (stepI st n) ws = _
    unfold stepI
    rw [if_neg (name_no41 hn)]
    unfold pushI
    rw [if_pos hn]
  | .op s l r, h, st, ws => by
    obtain ⟨hs, hl, hr⟩ := Fm.ok_op h
    have e : wordsF (.op s l r) ++ ws = [40] :: (wordsF l ++ (sgL s :: (wordsF r ++ ([41] :: ws)))) := by
      simp only [wordsF, List.cons_append, List.append_assoc, List.nil_append]
    rw [e, runI_cons]
    rw [show stepI st [40] = st ++ [.wd [40]] from rfl, run_fm l hl, runI_cons]
    rw [show stepI (st ++ [.wd [40]] ++ [.fm l]) (sgL s) = st ++ [.wd [40]] ++ [.fm l] ++ [.wd (sgL s)] from by unfold stepI; rw [if_neg (sg_no41 s), push_sg]]
    rw [run_fm r hr, runI_cons]
    rw [show st ++ [Itm.wd [40]] ++ [.fm l] ++ [.wd (sgL s)] ++ [.fm r] = st ++ [Itm.wd [40], .fm l, .wd (sgL s), .fm r] from by simp, step_f hs]
/-! what stands on the stack -/
def Itm.ok : Itm → Bool
  | .fm f => f.ok
  | _ => true
/-- how many opening parentheses an item stands for -/
def Itm.wt : Itm → Nat
  | .wd w => cnt 40 w
  | .fm f => f.ops
  | .no => 0
def wtS (st : List Itm) : Nat := (st.map Itm.wt).sum
theorem wtS_app (a b : List Itm) : wtS (a ++ b) = wtS a + wtS b := by
  unfold wtS
  rw [List.map_append, List.sum_append]
theorem push_wt (w : List Nat) : (pushI w).wt ≤ cnt 40 w ∧ (pushI w).ok = true := by
  unfold pushI
  split
  · exact ⟨Nat.zero_le _, by assumption⟩
  · exact ⟨Nat.le_refl _, rfl⟩
theorem close_wt (l : List Itm) (h : ∀ x ∈ l, x.ok = true) : (closeI l).wt ≤ wtS l ∧ (closeI l).ok = true := by
  unfold closeI
  split
  · rename_i a f b g x
    have hf := h (.fm f) (by simp)
    have hg := h (.fm g) (by simp)
    split
    · rename_i ea
      cases hb : sgOf b with
      | none => exact ⟨Nat.zero_le _, rfl⟩
      | some s =>
        obtain ⟨hs, _⟩ := sgOf_ok hb
        refine ⟨?_, Fm.ok_mk hs hf hg⟩
        subst ea
        have e : cnt 40 [40] = 1 := by decide
        simp only [wtS, List.map_cons, List.map_nil, List.sum_cons, List.sum_nil, Itm.wt, Fm.ops, e]
        omega
    · exact ⟨Nat.zero_le _, rfl⟩
  · exact ⟨Nat.zero_le _, rfl⟩
theorem step_ok {st : List Itm} {w : List Nat} (h : ∀ x ∈ st, x.ok = true) : (∀ x ∈ stepI st w, x.ok = true) ∧ wtS (stepI st w) ≤ wtS st + cnt 40 w ∧ (stepI st w).length ≤ st.length + 1 ∧ stepI st w ≠ [] := by
  obtain ⟨p1, p2⟩ := push_wt w
  have h1 : ∀ x ∈ st ++ [pushI w], x.ok = true := fun x hx => by
    rcases List.mem_append.mp hx with hx | hx
    · exact h x hx
    · rw [List.mem_singleton.mp hx]
      exact p2
  have w1 : wtS (st ++ [pushI w]) ≤ wtS st + cnt 40 w := by
    rw [wtS_app]
    show wtS st + ((pushI w).wt + 0) ≤ _
    omega
  unfold stepI
  split
  · have len : (st ++ [pushI w]).length = st.length + 1 := by rw [List.length_append]; rfl
    generalize st ++ [pushI w] = s1 at h1 w1 len
    obtain ⟨c1, c2⟩ := close_wt (s1.drop (s1.length - 5)) fun x hx => h1 x (List.mem_of_mem_drop hx)
    refine ⟨fun x hx => ?_, ?_, ?_, by simp⟩
    · rcases List.mem_append.mp hx with hx | hx
      · exact h1 x (List.mem_of_mem_take hx)
      · rw [List.mem_singleton.mp hx]
        exact c2
    · have e : wtS (s1.take (s1.length - 5)) + wtS (s1.drop (s1.length - 5)) = wtS s1 := by rw [← wtS_app, List.take_append_drop]
      rw [wtS_app]
      show _ + ((closeI _).wt + 0) ≤ _
      omega
    · rw [List.length_append, List.length_take, List.length_singleton]
      omega
  · refine ⟨h1, w1, ?_, by simp⟩
    rw [List.length_append]
    exact Nat.le_refl _
/-- what the program makes of a text -/
def parsedF (t : List Nat) : Option Fm := if 8 < cnt 40 t then none else
  match (runI [] (wordsT t)).head? with
  | some (.fm f) => if f.txt = t then some f else none
  | _ => none
theorem run_ok : ∀ (ws : List (List Nat)) (st : List Itm), (∀ x ∈ st, x.ok = true) → ∀ x ∈ runI st ws, x.ok = true
  | [], st, h => h
  | w :: ws, st, h => run_ok ws _ (step_ok h).1
theorem parsed_iff {t : List Nat} {f : Fm} : parsedF t = some f ↔ f.ok = true ∧ f.ops ≤ 8 ∧ f.txt = t := by
  constructor
  · intro h
    unfold parsedF at h
    split at h
    · cases h
    · rename_i c8
      cases hd : (runI [] (wordsT t)).head? with
      | none => rw [hd] at h; cases h
      | some x =>
        rw [hd] at h
        cases x with
        | wd w => cases h
        | no => cases h
        | fm g =>
          have ok : g.ok = true := run_ok _ [] (fun x hx => by cases hx) (.fm g) (List.mem_of_mem_head? hd)
          dsimp only at h
          split at h
          · rename_i e
            have eg : f = g := (Option.some.inj h).symm
            rw [eg]
            refine ⟨ok, ?_, e⟩
            have := Fm.cnt_ops g ok
            rw [e] at this
            omega
          · cases h
  · rintro ⟨ok, o8, rfl⟩
    unfold parsedF
    rw [if_neg (by rw [Fm.cnt_ops f ok]; omega), wordsT_txt ok]
    have e := run_fm f ok [] []
    rw [List.append_nil] at e
    rw [e]
    show (if f.txt = f.txt then some f else none) = some f
    rw [if_pos rfl]
end L2.K06
set_option Elab.async false
set_option linter.all false
set_option maxRecDepth 100000
set_option maxHeartbeats 8000000
namespace L2.K06
open PySem PySem.Spec PyProof.Rows L2.Tb
open SX (S)
/-! ### the law's own reader -/
def markL (u : List Nat) : List Nat := [0, 1, 2].filter fun s => ([32] ++ sgL s ++ [32]).isPrefixOf u
def fnd : Nat → List Nat → Option (Fm × List Nat)
  | 0, _ => none
  | n + 1, u => if u.head? ≠ some 40 then (if nameB (u.takeWhile signB) = true then some (.lt (u.takeWhile signB), u.drop (u.takeWhile signB).length) else none) else
    match fnd n (u.drop 1) with
    | none => none
    | some (l, u1) => match markL u1 with
      | [] => none
      | s :: _ => match fnd n (u1.drop ((sgL s).length + 2)) with
        | none => none
        | some (r, u2) => if u2.head? ≠ some 41 then none else some (.op s l r, u2.drop 1)
theorem take_drop_while {u : List Nat} : u.takeWhile signB ++ u.drop (u.takeWhile signB).length = u := by
  have h : u.takeWhile signB = u.take (u.takeWhile signB).length := by
    have := List.takeWhile_prefix signB (l := u)
    exact (List.prefix_iff_eq_take.mp this)
  rw [h, List.length_take]
  have : min (u.takeWhile signB).length u.length = (u.takeWhile signB).length := by
    have := (List.takeWhile_prefix signB (l := u)).length_le
    omega
  rw [this, List.take_append_drop]
theorem mark_of {u : List Nat} {s : Nat} (h : s ∈ markL u) : s < 3 ∧ u = [32] ++ sgL s ++ [32] ++ u.drop ((sgL s).length + 2) := by
  unfold markL at h
  obtain ⟨h1, h2⟩ := List.mem_filter.mp h
  refine ⟨by simp at h1; omega, ?_⟩
  have hp := List.isPrefixOf_iff_prefix.mp h2
  have e := List.prefix_iff_eq_take.mp hp
  have el : ([32] ++ sgL s ++ [32]).length = (sgL s).length + 2 := by
    simp only [List.length_append, List.length_singleton]
    omega
  rw [el] at e
  rw [e]
  exact (List.take_append_drop _ _).symm
theorem mark_sg : ∀ s, s < 3 → ∀ x : List Nat, markL ([32] ++ sgL s ++ [32] ++ x) = [s] := by
  intro s hs x
  rcases (show s = 0 ∨ s = 1 ∨ s = 2 by omega) with rfl | rfl | rfl <;> simp [markL, sgL, List.isPrefixOf]
theorem fnd_sound : ∀ (n : Nat) (u : List Nat) (f : Fm) (v : List Nat), fnd n u = some (f, v) → f.ok = true ∧ u = f.txt ++ v
  | 0, u, f, v, h => by cases h
  | n + 1, u, f, v, h => by
    unfold fnd at h
    split at h
    · split at h
      · rename_i hn
        obtain ⟨rfl, rfl⟩ : Fm.lt (u.takeWhile signB) = f ∧ u.drop (u.takeWhile signB).length = v := by
          have := Option.some.inj h
          exact ⟨congrArg (·.1) this, congrArg (·.2) this⟩
        exact ⟨hn, take_drop_while.symm⟩
      · cases h
    · rename_i h40
      split at h
      · cases h
      · rename_i l u1 e1
        split at h
        · cases h
        · rename_i s ms em
          split at h
          · cases h
          · rename_i r u2 e2
            split at h
            · cases h
            · rename_i h41
              obtain ⟨o1, a1⟩ := fnd_sound n _ _ _ e1
              obtain ⟨o2, a2⟩ := fnd_sound n _ _ _ e2
              obtain ⟨hs, b1⟩ := mark_of (u := u1) (s := s) (by rw [em]; exact List.mem_cons_self)
              obtain ⟨rfl, rfl⟩ : Fm.op s l r = f ∧ u2.drop 1 = v := by
                have := Option.some.inj h
                exact ⟨congrArg (·.1) this, congrArg (·.2) this⟩
              refine ⟨Fm.ok_mk hs o1 o2, ?_⟩
              have c1 : u = 40 :: u.drop 1 := by
                cases u with
                | nil => exact absurd (by simp) h40
                | cons c u => simp at h40 ⊢; exact h40
              have c2 : u2 = 41 :: u2.drop 1 := by
                cases u2 with
                | nil => exact absurd (by simp) h41
                | cons c u2 => simp at h41 ⊢; exact h41
              rw [c1, a1, b1, a2, c2]
              simp [Fm.txt]
theorem fnd_complete : ∀ (f : Fm) (n : Nat) (v : List Nat), f.ok = true → f.dep < n → EndB v = true → fnd n (f.txt ++ v) = some (f, v)
  | .lt w, n, v, ok, hd, hv => by
    cases n with
    | zero => omega
    | succ n =>
      have hw : nameB w = true := ok
      show fnd (n + 1) (w ++ v) = _
      unfold fnd
      have h40 : (w ++ v).head? ≠ some 40 := fun e => by
        cases hx : w ++ v with
        | nil => rw [hx] at e; cases e
        | cons c r =>
          rw [hx] at e
          have : c = 40 := Option.some.inj e
          subst this
          exact head_name hw r hx
      rw [if_pos h40, take_sign hw hv, if_pos hw, List.drop_left]
  | .op s l r, n, v, ok, hd, hv => by
    obtain ⟨hs, hl, hr⟩ := Fm.ok_op ok
    simp only [Fm.dep] at hd
    cases n with
    | zero => omega
    | succ n =>
      have e : (Fm.op s l r).txt ++ v = 40 :: (l.txt ++ ([32] ++ sgL s ++ [32] ++ (r.txt ++ (41 :: v)))) := by
        simp [Fm.txt]
      rw [e]
      unfold fnd
      rw [if_neg (by simp)]
      show (match fnd n (l.txt ++ ([32] ++ sgL s ++ [32] ++ (r.txt ++ (41 :: v)))) with | none => none | some (l, u1) => _) = _
      rw [fnd_complete l n _ hl (by omega) rfl]
      dsimp only
      rw [mark_sg s hs]
      dsimp only
      have ed : ([32] ++ sgL s ++ [32] ++ (r.txt ++ (41 :: v))).drop ((sgL s).length + 2) = r.txt ++ (41 :: v) := by
        have el : ([32] ++ sgL s ++ [32]).length = (sgL s).length + 2 := by
          simp only [List.length_append, List.length_singleton]
          omega
        rw [← el, List.drop_left]
      rw [ed, fnd_complete r n _ hr (by omega) rfl]
      rfl
/-- what the law reads: the formula whose text this is -/
def readL (t : List Nat) : Option Fm := if 8 < cnt 40 t then none else match fnd (cnt 40 t + 1) t with | some (f, []) => some f | _ => none
theorem dep_cnt (f : Fm) (ok : f.ok = true) : f.dep ≤ cnt 40 f.txt := by
  rw [Fm.cnt_ops f ok]
  exact Fm.dep_ops f
theorem readL_eq (t : List Nat) : readL t = parsedF t := by
  cases hp : parsedF t with
  | some f =>
    obtain ⟨ok, o8, rfl⟩ := parsed_iff.mp hp
    unfold readL
    have hc := Fm.cnt_ops f ok
    rw [if_neg (by omega)]
    have := fnd_complete f (cnt 40 f.txt + 1) [] ok (by have := dep_cnt f ok; omega) rfl
    rw [List.append_nil] at this
    rw [this]
  | none =>
    unfold readL
    split
    · rfl
    · rename_i c8
      split
      · rename_i f e
        obtain ⟨ok, et⟩ := fnd_sound _ _ _ _ e
        rw [List.append_nil] at et
        have : parsedF t = some f := parsed_iff.mpr ⟨ok, by have := Fm.cnt_ops f ok; rw [← et] at this; omega, et.symm⟩
        rw [hp] at this
        cases this
      · rfl
end L2.K06
set_option Elab.async false
set_option linter.all false
set_option maxRecDepth 100000
set_option maxHeartbeats 8000000
namespace L2.K06
open PySem PySem.Spec PyProof.Rows L2.Tb
open SX (S)
abbrev s_ltree : Stmt := top 33
abbrev N_ltree : List Str := ["_law_purse_here", "_law_names_here", "_law_many_here", "_law_mark", "_law_share", "_law_ahead"]
theorem sc_ltree : FnScope N_ltree ["_law_purse_here", "_law_names_here", "_law_many_here"] (defScope s_ltree) := ⟨rfl, rfl, rfl, by decide +kernel, rfl, by decide +kernel, by decide +kernel⟩
abbrev s_ltext : Stmt := top 34
abbrev N_ltext : List Str := ["_law_tree_here"]
theorem sc_ltext : FnScope N_ltext ["_law_tree_here"] (defScope s_ltext) := ⟨rfl, rfl, rfl, by decide +kernel, rfl, by decide +kernel, by decide +kernel⟩
abbrev s_lmany : Stmt := top 35
abbrev N_lmany : List Str := ["_law_tree_here"]
theorem sc_lmany : FnScope N_lmany ["_law_tree_here"] (defScope s_lmany) := ⟨rfl, rfl, rfl, by decide +kernel, rfl, by decide +kernel, by decide +kernel⟩
abbrev s_lmade : Stmt := top 36
abbrev N_lmade : List Str := ["_law_tree_here", "_law_ahead", "_law_behind"]
theorem sc_lmade : FnScope N_lmade ["_law_tree_here"] (defScope s_lmade) := ⟨rfl, rfl, rfl, by decide +kernel, rfl, by decide +kernel, by decide +kernel⟩
/-! ### the law's formulas: names, and tuples of a sign and two formulas -/
inductive TrAt (H : Hp) : V → Fm → Prop where
  | lt {n : List Nat} : TrAt H (.str (S n)) (.lt n)
  | op {a : Addr} {vl vr : V} {s : Nat} {l r : Fm} : H a = some (.tup [.str (S (sgL s)), vl, vr]) → TrAt H vl l → TrAt H vr r → TrAt H (.ref a) (.op s l r)
theorem TrAt.mono {H H' : Hp} (k : ∀ b xs, H b = some (.tup xs) → H' b = some (.tup xs)) {v : V} {f : Fm} (h : TrAt H v f) : TrAt H' v f := by
  induction h with
  | lt => exact .lt
  | op e _ _ i1 i2 => exact .op (k _ _ e) i1 i2
theorem TrAt.same {H H' : Hp} {v : V} {f : Fm} (h : TrAt H v f) (s : Same H H') : TrAt H' v f := h.mono fun b xs e => s _ _ e
theorem TrAt.N {H H' : Hp} {v : V} {f : Fm} (h : TrAt H v f) (s : LamX.ExtN H H') : TrAt H' v f := h.mono fun b xs e => s _ _ e (fun ps z => by cases z)
theorem TrAt.B {H H' : Hp} {p : Addr} {v : V} {f : Fm} (h : TrAt H v f) (s : SameB p H H') (hp : Purse H p) : TrAt H' v f := by
  obtain ⟨st, dg, c, ep, _⟩ := hp.ex
  exact h.mono fun b xs e => s b _ (fun z => by
    rw [z, ep] at e
    cases e) e
theorem FmAt.Bp {FC : Addr} {H H' : Hp} {a p : Addr} {f : Fm} (h : FmAt FC H a f) (s : SameB p H H') (hp : Purse H p) : FmAt FC H' a f := by
  obtain ⟨st, dg, c, ep, _⟩ := hp.ex
  exact h.B s ⟨_, ep⟩
/-- what isinstance(.., str) says of a formula of the law -/
theorem TrAt.isS {K : PySem.W.Frag} {H : Hp} {v : V} {f : Fm} (h : TrAt H v f) : ∃ t, TyX K H v t ∧ PySem.W.kitOne K t (.type "str") = some (match f with | .lt _ => true | .op _ _ _ => false) := by
  cases h with
  | lt => exact ⟨_, str_ty, str_kit⟩
  | op e _ _ => exact ⟨_, .base (.tup e), rfl⟩
def spLtree (n : Nat) : Sp := fun vs H Q _ => ∃ (p L : Addr) (ls : List (List Nat)) (m : Nat), vs = [.ref p, .ref L, .int (m : Int)] ∧ Purse H p ∧ H L = some (.lst (ls.map nmV)) ∧ L ≠ p ∧ 0 < ls.length ∧ ls.length ≤ 100 ∧ (∀ l ∈ ls, nameB l = true) ∧ m ≤ n ∧ m ≤ 100 ∧
  ∀ (v : V) (f : Fm) (H' : Hp), SameB p H H' → Purse H' p → TrAt H' v f → f.ok = true → f.ops = m → Q v H'
def spLtA : Nat → Sp
  | 0 => fun _ _ _ _ => False
  | n + 1 => spLtree n
def spLtext (n : Nat) : Sp := fun vs H Q _ => ∃ (v : V) (f : Fm), vs = [v] ∧ TrAt H v f ∧ f.ok = true ∧ f.ops ≤ 200 ∧ f.dep ≤ n ∧ Q (.str (S f.txt)) H
def spLxA : Nat → Sp
  | 0 => fun _ _ _ _ => False
  | n + 1 => spLtext n
def spLmany (n : Nat) : Sp := fun vs H Q _ => ∃ (v : V) (f : Fm), vs = [v] ∧ TrAt H v f ∧ f.dep ≤ n ∧ Q (.int (f.ops : Nat)) H
def spLyA : Nat → Sp
  | 0 => fun _ _ _ _ => False
  | n + 1 => spLmany n
def spLmade (FC : Addr) (n : Nat) : Sp := fun vs H Q _ => ∃ (v : V) (f : Fm), vs = [v] ∧ TrAt H v f ∧ f.ok = true ∧ f.ops ≤ 8 ∧ f.dep ≤ n ∧ ∀ x H', Same H H' → FmAt FC H' x f → Q (.ref x) H'
def spLzA (FC : Addr) : Nat → Sp
  | 0 => fun _ _ _ _ => False
  | n + 1 => spLmade FC n
def signL : List V := [.str (Str.ofString "*"), .str (Str.ofString "//"), .str (Str.ofString ">>")]
theorem sign_ofk : ∀ k : Nat, k < 3 → signL[k]? = some (.str (S (sgL k))) := by
  intro k hk
  rcases (show k = 0 ∨ k = 1 ∨ k = 2 by omega) with rfl | rfl | rfl <;> decide +kernel
theorem name_at {ls : List (List Nat)} {k : Nat} (h : k < ls.length) : ∃ l, l ∈ ls ∧ (ls.map nmV)[k]? = some (.str (S l)) := ⟨ls[k], List.getElem_mem h, by rw [List.getElem?_map, List.getElem?_eq_getElem h]; rfl⟩
section
variable {P : Program} {w : World} {K : PySem.W.Frag} {mg : Str → Option Value} {base : Heap} {f : Addr} {fd : FuncData} {FC CNotAFormula CTooMany CInvalidName : Addr}
theorem c_ltree_false (F : FnP K "_law_tree" s_ltree f fd) (hm : mg "_law_tree" = some (.ref f)) : Cal P w K mg base 1 "_law_tree" (spLtA 0) :=
  ⟨f, fd, ["_law_purse_here", "_law_names_here", "_law_many_here"], ⟨fun _ _ _ _ h => h.elim, fun _ _ _ _ _ _ _ _ _ _ _ _ _ h => h.elim⟩, hm, F.kp, F.bindsN fun _ _ _ _ _ _ us hl => match us, hl with | [_, _, _], _ => rfl⟩
theorem c_ltree_step (T : Bt mg) (k_draw : Cal P w K mg base 1 "_law_draw" spDraw) (F : FnP K "_law_tree" s_ltree f fd) (hm : mg "_law_tree" = some (.ref f)) (n : Nat) (k_ltree : Cal P w K mg base (n + 1) "_law_tree" (spLtA n)) : Cal P w K mg base (n + 1 + 1) "_law_tree" (spLtree n) := by
  have hnd := sc_ltree.nd
  refine cal_mk F hm sc_ltree (fun _ _ _ _ _ _ us hl => match us, hl with | [_, _, _], _ => rfl) (fun vs H Q E h => ?_) (fun cdv A outer s H vs Q E hr h => ?_)
  · obtain ⟨p, L, ls, m, rfl, _⟩ := h
    rfl
  · obtain ⟨p, L, ls, m, rfl, hp, eL, nLp, l0, l100, hn, hmn, m100, q⟩ := h
    refine ⟨_, (pss_cons (ps_if (pt_cmpR op_eq (pv 2) pe_int (nomark _))
      (pss_one (ps_ret (pe_ix (show IxR _ (rIxL K) from ix_list) (pv 1) (pe_cal k_draw hr (by omega) (by rfl) (pa_cons (pv 0) (pa_cons (pe_callB call_len_seq (by rfl) T.m_len (by decide +kernel) (pa_cons (pv 1) pa_nil)) pa_nil))) (fun _ _ => rfl))))
      pss_nil)
      (pss_cons (ps_par (i := 3) (j := 4) (by rfl) hnd rfl rfl (by decide) (by rfl) (by rfl) (pa_cons (pe_ix (show IxR _ (rIxL K) from ix_list) (pe_lst (pa_cons pe_str (pa_cons pe_str (pa_cons pe_str pa_nil)))) (pe_cal k_draw hr (by omega) (by rfl) (pa_cons (pv 0) (pa_cons pe_int pa_nil))) (fun _ _ => rfl)) (pa_cons (pe_cal k_draw hr (by omega) (by rfl) (pa_cons (pv 0) (pa_cons (pv 2) pa_nil))) pa_nil)) (by rfl))
      (pss_cons (ps_set (i := 5) hnd rfl (by first | exact Or.inl rfl | exact Or.inr rfl) (pe_cal k_ltree hr (by omega) (by rfl) (pa_cons (pv 0) (pa_cons (pv 1) (pa_cons (pv 4) pa_nil)))))
      (pss_one (ps_ret (pe_tup (pa_cons (pv 3) (pa_cons (pv 5) (pa_cons (pe_cal k_ltree hr (by omega) (by rfl) (pa_cons (pv 0) (pa_cons (pv 1) (pa_cons (pe_op op_sub (pe_op op_sub (pv 2) pe_int) (pv 4)) pa_nil)))) pa_nil))))))))), ?_⟩
    refine ⟨_, rfl, rfl, _, rfl, ?_⟩
    by_cases c : m = 0
    · subst c
      refine iteT2 (decide_eq_true rfl) ?_
      refine ⟨_, rfl, _, rfl, _, rfl, L, _, rfl, .inl (SqL.of eL), p, (ls.length : Nat), (by rw [List.length_map]; rfl), hp, by omega, by omega, fun d H1 d0 d1 s1 p1 => ?_⟩
      obtain ⟨k, rfl⟩ := Int.eq_ofNat_of_zero_le d0
      obtain ⟨l, hl, e⟩ := name_at (ls := ls) (k := k) (by omega)
      refine ⟨L, _, _, .str (S l), rfl, rfl, SqL.of (s1 _ _ nLp eL), atI_nat e, ?_⟩
      exact q _ _ H1 s1 p1 .lt (hn l hl) rfl
    · refine iteN2 (decide_eq_false fun z => c (by injection z with z; omega)) ?_
      cases n with
      | zero => omega
      | succ n =>
        refine ⟨by show 3 ≤ sizeLine; decide, fun D nD => ?_⟩
        have nDp : D ≠ p := fun z => by
          obtain ⟨st, dg, c, e, r⟩ := hp.ex
          rw [z, e] at nD
          cases nD
        have sD := same_new (o := .lst signL) nD
        refine ⟨_, rfl, p, 3, rfl, hp.same sD, by decide, by decide, fun d H1 d0 d1 s1 p1 => ?_⟩
        obtain ⟨k, rfl⟩ := Int.eq_ofNat_of_zero_le d0
        have hk : k < 3 := by omega
        refine ⟨D, signL, _, .str (S (sgL k)), rfl, rfl, SqL.of (s1 _ _ nDp upd_same), atI_nat (sign_ofk k hk), ?_⟩
        refine ⟨_, rfl, _, rfl, p, (m : Int), rfl, p1, by omega, by omega, fun d2 H2 d20 d21 s2 p2 => ⟨_, _, rfl, ?_⟩⟩
        obtain ⟨j, rfl⟩ := Int.eq_ofNat_of_zero_le d20
        have hj : j < m := by omega
        try dsimp only
        have s12 : SameB p H H2 := ((SameB.of sD).trans s1).trans s2
        refine ⟨_, rfl, _, rfl, _, rfl, p, L, ls, j, rfl, p2, s12 _ _ nLp eL, nLp, l0, l100, hn, by omega, by omega, fun v1 f1 H3 s3 p3 t1 ok1 o1 => gname_go ?_⟩
        try dsimp only
        have s13 := s12.trans s3
        refine ⟨_, rfl, _, rfl, _, rfl, _, rfl, _, rfl, _, _, rfl, rfl, _, rfl, _, _, rfl, rfl, p, L, ls, m - 1 - j, ?_, p3, s13 _ _ nLp eL, nLp, l0, l100, hn, by omega, by omega, fun v2 f2 H4 s4 p4 t2 ok2 o2 => ?_⟩
        · show [V.ref p, V.ref L, V.int ((m : Int) - 1 - (j : Int))] ++ [] = _
          rw [show (m : Int) - 1 - (j : Int) = ((m - 1 - j : Nat) : Int) by omega]
          rfl
        · refine ⟨by show 3 ≤ sizeLine; decide, fun R nR => ?_⟩
          have sR := same_new (o := .tup [.str (S (sgL k)), v1, v2]) nR
          exact q _ (.op k f1 f2) _ ((s13.trans s4).trans (SameB.of sR)) (p4.same sR) (.op upd_same ((t1.B s4 p3).same sR) (t2.same sR)) (Fm.ok_mk hk ok1 ok2) (by simp only [Fm.ops]; omega)
theorem c_ltree (T : Bt mg) (k_draw : Cal P w K mg base 1 "_law_draw" spDraw) (F : FnP K "_law_tree" s_ltree f fd) (hm : mg "_law_tree" = some (.ref f)) : ∀ n, Cal P w K mg base (n + 2) "_law_tree" (spLtree n)
  | 0 => c_ltree_step T k_draw F hm 0 (c_ltree_false F hm)
  | n + 1 => c_ltree_step T k_draw F hm (n + 1) (c_ltree T k_draw F hm n)
theorem c_ltext_false (F : FnP K "_law_text" s_ltext f fd) (hm : mg "_law_text" = some (.ref f)) : Cal P w K mg base 0 "_law_text" (spLxA 0) :=
  ⟨f, fd, ["_law_tree_here"], ⟨fun _ _ _ _ h => h.elim, fun _ _ _ _ _ _ _ _ _ _ _ _ _ h => h.elim⟩, hm, F.kp, F.bindsN fun _ _ _ _ _ _ us hl => match us, hl with | [_], _ => rfl⟩
theorem c_ltext_step (T : Bt mg) (mstr : mg "str" = none) (F : FnP K "_law_text" s_ltext f fd) (hm : mg "_law_text" = some (.ref f)) (n : Nat) (k_ltext : Cal P w K mg base n "_law_text" (spLxA n)) : Cal P w K mg base (n + 1) "_law_text" (spLtext n) := by
  have hnd := sc_ltext.nd
  refine cal_mk F hm sc_ltext (fun _ _ _ _ _ _ us hl => match us, hl with | [_], _ => rfl) (fun vs H Q E h => ?_) (fun cdv A outer s H vs Q E hr h => ?_)
  · obtain ⟨v, f0, rfl, _⟩ := h
    rfl
  · obtain ⟨v, f0, rfl, ht, okf, o200, hd, q⟩ := h
    obtain ⟨ty, tyx, kit⟩ := ht.isS (K := K)
    refine ⟨_, (pss_cons (ps_if (pt_val (pe_callB call_isi (by rfl) T.m_isinstance (by decide +kernel) (pa_cons (pv 0) (pa_cons (pe_bltn (v := .ty "str") (by rfl) mstr (by decide +kernel) rfl) pa_nil))))
      (pss_one (ps_ret (pv 0)))
      pss_nil)
      (pss_one (ps_ret (pe_op op_add_str (pe_op op_add_str (pe_op op_add_str (pe_op op_add_str (pe_op op_add_str (pe_op op_add_str pe_str (pe_cal k_ltext hr (by omega) (by rfl) (pa_cons (pe_ix (show IxR _ (rIxT K) from ix_tup) (pv 0) pe_int (fun _ _ => rfl)) pa_nil))) pe_str) (pe_ix (show IxR _ (rIxT K) from ix_tup) (pv 0) pe_int (fun _ _ => rfl))) pe_str) (pe_cal k_ltext hr (by omega) (by rfl) (pa_cons (pe_ix (show IxR _ (rIxT K) from ix_tup) (pv 0) pe_int (fun _ _ => rfl)) pa_nil))) pe_str)))), ?_⟩
    refine ⟨_, rfl, _, _, _, _, _, rfl, .ty _, tyx, kit, _, rfl, ?_⟩
    cases ht with
    | lt => exact iteT2 rfl ⟨_, rfl, q⟩
    | op e hl hr_ =>
      rename_i a vl vr s0 l r
      refine iteN2 rfl ?_
      obtain ⟨hs0, okl, okr⟩ := Fm.ok_op okf
      simp only [Fm.ops] at o200
      simp only [Fm.dep] at hd
      cases n with
      | zero => omega
      | succ n =>
        have tl := Fm.txt_len l okl
        have tr := Fm.txt_len r okr
        have sl := sgL_len s0
        have c1 : (Str.ofString "(") = S [40] := by decide +kernel
        have c2 : (Str.ofString " ") = S [32] := by decide +kernel
        have c3 : (Str.ofString ")") = S [41] := by decide +kernel
        have szL : ∀ x : List Nat, x.length ≤ 9000 → (S x).length ≤ sizeLine := fun x hx => by rw [SX.S_len, sizeLine_eq]; omega
        refine ⟨_, rfl, a, _, _, vl, rfl, rfl, SqT.of e, atI_nat (j := 1) rfl, vl, l, rfl, hl, okl, by omega, by omega, ?_⟩
        rw [c1]
        refine ⟨_, _, rfl, rfl, by rw [SX.S_len, SX.S_len, sizeLine_eq]; simp only [List.length_append, List.length_singleton]; omega, ?_⟩
        rw [SX.S_cat]
        rw [c2]
        refine ⟨_, _, rfl, rfl, by rw [SX.S_len, SX.S_len, sizeLine_eq]; simp only [List.length_append, List.length_singleton]; omega, ?_⟩
        rw [SX.S_cat]
        refine ⟨_, rfl, a, _, _, .str (S (sgL s0)), rfl, rfl, SqT.of e, atI_nat (j := 0) rfl, ?_⟩
        refine ⟨_, _, rfl, rfl, by rw [SX.S_len, SX.S_len, sizeLine_eq]; simp only [List.length_append, List.length_singleton]; omega, ?_⟩
        rw [SX.S_cat]
        refine ⟨_, _, rfl, rfl, by rw [SX.S_len, SX.S_len, sizeLine_eq]; simp only [List.length_append, List.length_singleton]; omega, ?_⟩
        rw [SX.S_cat]
        refine ⟨_, rfl, a, _, _, vr, rfl, rfl, SqT.of e, atI_nat (j := 2) rfl, vr, r, rfl, hr_, okr, by omega, by omega, ?_⟩
        refine ⟨_, _, rfl, rfl, by rw [SX.S_len, SX.S_len, sizeLine_eq]; simp only [List.length_append, List.length_singleton]; omega, ?_⟩
        rw [SX.S_cat]
        rw [c3]
        refine ⟨_, _, rfl, rfl, by rw [SX.S_len, SX.S_len, sizeLine_eq]; simp only [List.length_append, List.length_singleton]; omega, ?_⟩
        rw [SX.S_cat]
        exact q
theorem c_ltext (T : Bt mg) (mstr : mg "str" = none) (F : FnP K "_law_text" s_ltext f fd) (hm : mg "_law_text" = some (.ref f)) : ∀ n, Cal P w K mg base (n + 1) "_law_text" (spLtext n)
  | 0 => c_ltext_step T mstr F hm 0 (c_ltext_false F hm)
  | n + 1 => c_ltext_step T mstr F hm (n + 1) (c_ltext T mstr F hm n)
theorem c_lmany_false (F : FnP K "_law_many" s_lmany f fd) (hm : mg "_law_many" = some (.ref f)) : Cal P w K mg base 0 "_law_many" (spLyA 0) :=
  ⟨f, fd, ["_law_tree_here"], ⟨fun _ _ _ _ h => h.elim, fun _ _ _ _ _ _ _ _ _ _ _ _ _ h => h.elim⟩, hm, F.kp, F.bindsN fun _ _ _ _ _ _ us hl => match us, hl with | [_], _ => rfl⟩
theorem c_lmany_step (T : Bt mg) (mstr : mg "str" = none) (F : FnP K "_law_many" s_lmany f fd) (hm : mg "_law_many" = some (.ref f)) (n : Nat) (k_lmany : Cal P w K mg base n "_law_many" (spLyA n)) : Cal P w K mg base (n + 1) "_law_many" (spLmany n) := by
  have hnd := sc_lmany.nd
  refine cal_mk F hm sc_lmany (fun _ _ _ _ _ _ us hl => match us, hl with | [_], _ => rfl) (fun vs H Q E h => ?_) (fun cdv A outer s H vs Q E hr h => ?_)
  · obtain ⟨v, f0, rfl, _⟩ := h
    rfl
  · obtain ⟨v, f0, rfl, ht, hd, q⟩ := h
    obtain ⟨ty, tyx, kit⟩ := ht.isS (K := K)
    refine ⟨_, (pss_one (ps_ret (pe_ifExp (pt_val (pe_callB call_isi (by rfl) T.m_isinstance (by decide +kernel) (pa_cons (pv 0) (pa_cons (pe_bltn (v := .ty "str") (by rfl) mstr (by decide +kernel) rfl) pa_nil)))) pe_int (pe_op op_add (pe_op op_add pe_int (pe_cal k_lmany hr (by omega) (by rfl) (pa_cons (pe_ix (show IxR _ (rIxT K) from ix_tup) (pv 0) pe_int (fun _ _ => rfl)) pa_nil))) (pe_cal k_lmany hr (by omega) (by rfl) (pa_cons (pe_ix (show IxR _ (rIxT K) from ix_tup) (pv 0) pe_int (fun _ _ => rfl)) pa_nil)))))), ?_⟩
    refine ⟨_, rfl, _, _, _, _, _, rfl, .ty _, tyx, kit, _, rfl, ?_⟩
    cases ht with
    | lt => exact iteT2 rfl q
    | op e hl hr_ =>
      rename_i a vl vr s0 l r
      refine iteN2 rfl ?_
      simp only [Fm.dep] at hd
      cases n with
      | zero => omega
      | succ n =>
        refine ⟨_, rfl, a, _, _, vl, rfl, rfl, SqT.of e, atI_nat (j := 1) rfl, vl, l, rfl, hl, by omega, _, _, rfl, rfl, ?_⟩
        refine ⟨_, rfl, a, _, _, vr, rfl, rfl, SqT.of e, atI_nat (j := 2) rfl, vr, r, rfl, hr_, by omega, _, _, rfl, rfl, ?_⟩
        show Q (.int ((1 : Int) + ((l.ops : Nat) : Int) + ((r.ops : Nat) : Int))) H
        rw [show (1 : Int) + ((l.ops : Nat) : Int) + ((r.ops : Nat) : Int) = ((l.ops + 1 + r.ops : Nat) : Int) by omega]
        exact q
theorem c_lmany (T : Bt mg) (mstr : mg "str" = none) (F : FnP K "_law_many" s_lmany f fd) (hm : mg "_law_many" = some (.ref f)) : ∀ n, Cal P w K mg base (n + 1) "_law_many" (spLmany n)
  | 0 => c_lmany_step T mstr F hm 0 (c_lmany_false F hm)
  | n + 1 => c_lmany_step T mstr F hm (n + 1) (c_lmany T mstr F hm n)
end
end L2.K06
set_option Elab.async false
set_option linter.all false
set_option maxRecDepth 100000
set_option maxHeartbeats 8000000
namespace L2.K06
open PySem PySem.Spec PyProof.Rows L2.Tb
open SX (S)
open PySem.W in
def BinM (P : Program) (w : World) (K : PySem.W.Frag) (mg : Str → Option Value) (base : Heap) (FC CF CM : Addr) (op : Operator) (i : Nat) : Prop := ∃ f fd, findIn K (.ref FC) (PySem.dunder op.info.2) = some (some (.ref f)) ∧ isFn K (.ref f) = true ∧ findIn K (.ref FC) (dunderR op.info.2) = some none ∧
  FnOk P w K mg base (L2.CX P w) 9 f fd ["self", "other"] (spFop i K FC CF CM) ∧ Binds K fd ["self", "other"] []
section
variable {P : Program} {w : World} {K : PySem.W.Frag} {mg : Str → Option Value} {base : Heap} {f : Addr} {fd : FuncData} {FC CNotAFormula CTooMany CInvalidName : Addr}
theorem c_lmade_false (F : FnP K "_law_made" s_lmade f fd) (hm : mg "_law_made" = some (.ref f)) : Cal P w K mg base 10 "_law_made" (spLzA FC 0) :=
  ⟨f, fd, ["_law_tree_here"], ⟨fun _ _ _ _ h => h.elim, fun _ _ _ _ _ _ _ _ _ _ _ _ _ h => h.elim⟩, hm, F.kp, F.bindsN fun _ _ _ _ _ _ us hl => match us, hl with | [_], _ => rfl⟩
theorem c_lmade_step (T : Bt mg) (mstr : mg "str" = none) (FF : FoF K mg FC) (sfF : PySem.W.selfFirst K FC = true) (MU : BinM P w K mg base FC CNotAFormula CTooMany .Mult 0) (FD : BinM P w K mg base FC CNotAFormula CTooMany .FloorDiv 1) (RS : BinM P w K mg base FC CNotAFormula CTooMany .RShift 2)
    (x_letter : CalX P w K mg base 8 "letter" (spLetter K FC CInvalidName)) (F : FnP K "_law_made" s_lmade f fd) (hm : mg "_law_made" = some (.ref f)) (n : Nat) (k_lmade : Cal P w K mg base (10 + n) "_law_made" (spLzA FC n)) : Cal P w K mg base (10 + n + 1) "_law_made" (spLmade FC n) := by
  have hnd := sc_lmade.nd
  obtain ⟨fm, fdm, hsM, hfM, hrM, Fm_, Bm⟩ := MU
  obtain ⟨fv, fdv, hsD, hfD, hrD, Fd_, Bd_⟩ := FD
  obtain ⟨fq, fdq, hsR, hfR, hrR, Fr_, Br⟩ := RS
  refine cal_mk F hm sc_lmade (fun _ _ _ _ _ _ us hl => match us, hl with | [_], _ => rfl) (fun vs H Q E h => ?_) (fun cdv A outer s H vs Q E hr h => ?_)
  · obtain ⟨v, f0, rfl, _⟩ := h
    rfl
  · obtain ⟨v, f0, rfl, ht, okf, o8, hd, q⟩ := h
    obtain ⟨ty, tyx, kit⟩ := ht.isS (K := K)
    refine ⟨_, (pss_cons (ps_if (pt_val (pe_callB call_isi (by rfl) T.m_isinstance (by decide +kernel) (pa_cons (pv 0) (pa_cons (pe_bltn (v := .ty "str") (by rfl) mstr (by decide +kernel) rfl) pa_nil))))
      (pss_one (ps_ret (pe_calX x_letter hr (by omega) (by rfl) pass_none (pa_cons (pv 0) pa_nil))))
      pss_nil)
      (pss_cons (ps_par (i := 1) (j := 2) (by rfl) hnd rfl rfl (by decide) (by rfl) (by rfl) (pa_cons (pe_cal k_lmade hr (by omega) (by rfl) (pa_cons (pe_ix (show IxR _ (rIxT K) from ix_tup) (pv 0) pe_int (fun _ _ => rfl)) pa_nil)) (pa_cons (pe_cal k_lmade hr (by omega) (by rfl) (pa_cons (pe_ix (show IxR _ (rIxT K) from ix_tup) (pv 0) pe_int (fun _ _ => rfl)) pa_nil)) pa_nil)) (by rfl))
      (pss_cons (ps_if (pt_cmpR op_eq (pe_ix (show IxR _ (rIxT K) from ix_tup) (pv 0) pe_int (fun _ _ => rfl)) pe_str (nomark _))
      (pss_one (ps_ret (pe_op (show OpR _ (binaryOp .Mult) (rOwnBinA K FC .Mult (spFop 0 K FC CNotAFormula CTooMany) L2.E0) from op_ownBinA Fm_ (hr.mono (by omega)) sfF hsM hfM hrM Bm pass_none) (pv 1) (pv 2))))
      pss_nil)
      (pss_one (ps_ret (pe_ifExp (pt_cmpR op_eq (pe_ix (show IxR _ (rIxT K) from ix_tup) (pv 0) pe_int (fun _ _ => rfl)) pe_str (nomark _)) (pe_op (show OpR _ (binaryOp .FloorDiv) (rOwnBinA K FC .FloorDiv (spFop 1 K FC CNotAFormula CTooMany) L2.E0) from op_ownBinA Fd_ (hr.mono (by omega)) sfF hsD hfD hrD Bd_ pass_none) (pv 1) (pv 2)) (pe_op (show OpR _ (binaryOp .RShift) (rOwnBinA K FC .RShift (spFop 2 K FC CNotAFormula CTooMany) L2.E0) from op_ownBinA Fr_ (hr.mono (by omega)) sfF hsR hfR hrR Br pass_none) (pv 1) (pv 2)))))))), ?_⟩
    refine ⟨_, rfl, _, _, _, _, _, rfl, .ty _, tyx, kit, _, rfl, ?_⟩
    cases ht with
    | lt => exact iteT2 rfl ⟨_, rfl, _, rfl, .inl ⟨_, rfl, okf, fun x H' s hx => q x H' s hx⟩⟩
    | op e hl hr_ =>
      rename_i a vl vr s0 l r
      refine iteN2 rfl ?_
      obtain ⟨hs0, okl, okr⟩ := Fm.ok_op okf
      simp only [Fm.ops] at o8
      simp only [Fm.dep] at hd
      cases n with
      | zero => omega
      | succ n =>
        refine ⟨_, rfl, a, _, _, vl, rfl, rfl, SqT.of e, atI_nat (j := 1) rfl, vl, l, rfl, hl, okl, by omega, by omega, fun x1 H1 s1 h1 => ?_⟩
        refine ⟨_, rfl, a, _, _, vr, rfl, rfl, SqT.of (s1 _ _ e), atI_nat (j := 2) rfl, vr, r, rfl, hr_.same s1, okr, by omega, by omega, fun x2 H2 s2 h2 => ⟨_, _, rfl, ?_⟩⟩
        try dsimp only
        have h1' := h1.same s2
        have s12 := s1.trans s2
        obtain ⟨d1, f1, e1⟩ := h1'.ins
        refine ⟨_, rfl, a, _, _, .str (S (sgL s0)), rfl, rfl, SqT.of (s12 _ _ e), atI_nat (j := 0) rfl, rfl, _, rfl, ?_⟩
        have c42 : (Str.ofString "*") = S [42] := by decide +kernel
        have c47 : (Str.ofString "//") = S [47, 47] := by decide +kernel
        rw [c42, dec_str]
        have fin : ∀ i : Nat, i = s0 → spFop i K FC CNotAFormula CTooMany [.ref x1, .ref x2] H2 Q E0 := fun i hi => by
          subst hi
          exact ⟨rfl, i, x1, .ref x2, l, rfl, hs0, h1', okl, by omega, .inl ⟨x2, r, rfl, h2, okr, by omega, .inl ⟨by omega, fun x H' s hx => q x H' (s12.trans s) hx⟩⟩⟩
        rcases (show s0 = 0 ∨ s0 = 1 ∨ s0 = 2 by omega) with rfl | rfl | rfl
        · exact iteT2 (by decide +kernel) ⟨_, rfl, _, rfl, x1, d1, f1, .ref FC, rfl, e1, h2.ty FF, .inr (.inl rfl), fin 0 rfl⟩
        · refine iteN2 (by decide +kernel) ?_
          refine ⟨_, rfl, a, _, _, .str (S (sgL 1)), rfl, rfl, SqT.of (s12 _ _ e), atI_nat (j := 0) rfl, rfl, _, rfl, ?_⟩
          rw [c47, dec_str]
          exact iteT2 (by decide +kernel) ⟨_, rfl, _, rfl, x1, d1, f1, .ref FC, rfl, e1, h2.ty FF, .inr (.inl rfl), fin 1 rfl⟩
        · refine iteN2 (by decide +kernel) ?_
          refine ⟨_, rfl, a, _, _, .str (S (sgL 2)), rfl, rfl, SqT.of (s12 _ _ e), atI_nat (j := 0) rfl, rfl, _, rfl, ?_⟩
          rw [c47, dec_str]
          exact iteN2 (by decide +kernel) ⟨_, rfl, _, rfl, x1, d1, f1, .ref FC, rfl, e1, h2.ty FF, .inr (.inl rfl), fin 2 rfl⟩
theorem c_lmade (T : Bt mg) (mstr : mg "str" = none) (FF : FoF K mg FC) (sfF : PySem.W.selfFirst K FC = true) (MU : BinM P w K mg base FC CNotAFormula CTooMany .Mult 0) (FD : BinM P w K mg base FC CNotAFormula CTooMany .FloorDiv 1) (RS : BinM P w K mg base FC CNotAFormula CTooMany .RShift 2)
    (x_letter : CalX P w K mg base 8 "letter" (spLetter K FC CInvalidName)) (F : FnP K "_law_made" s_lmade f fd) (hm : mg "_law_made" = some (.ref f)) : ∀ n, Cal P w K mg base (10 + n + 1) "_law_made" (spLmade FC n)
  | 0 => c_lmade_step T mstr FF sfF MU FD RS x_letter F hm 0 (c_lmade_false F hm)
  | n + 1 => c_lmade_step T mstr FF sfF MU FD RS x_letter F hm (n + 1) (c_lmade T mstr FF sfF MU FD RS x_letter F hm n)
end
end L2.K06
set_option Elab.async false
set_option linter.all false
set_option maxRecDepth 100000
set_option maxHeartbeats 8000000
namespace L2.K06
open PySem PySem.Spec PyProof.Rows L2.Tb
open SX (S)
/-! ### formulas as data -/
theorem sgL_inj : ∀ s : Nat, s < 3 → ∀ t : Nat, t < 3 → sgL s = sgL t → s = t := by decide +kernel
def trD : Fm → PyData
  | .lt n => .str (S n)
  | .op s l r => .tuple [.str (S (sgL s)), trD l, trD r]
theorem strOk_of {l : List Nat} (h : ∀ c ∈ l, c < 128) : PyData.strOk (S l) = true := by
  unfold PyData.strOk
  rw [← Array.all_toList]
  exact List.all_eq_true.mpr fun c hc => decide_eq_true (Nat.lt_trans (h c hc) (by decide))
theorem name_asc {l : List Nat} (h : nameB l = true) : ∀ c ∈ l, c < 128 := by
  cases l with
  | nil => exact fun c hc => by cases hc
  | cons a r =>
    simp only [nameB, lowB, Bool.and_eq_true, Nat.ble_eq] at h
    intro c hc
    rcases List.mem_cons.mp hc with rfl | hc
    · omega
    · have := List.all_eq_true.mp h.2.2 c hc
      simp only [signB, lowB, Bool.or_eq_true, Bool.and_eq_true, Nat.ble_eq] at this
      omega
theorem sgL_asc (s : Nat) : ∀ c ∈ sgL s, c < 128 := by
  unfold sgL
  split <;> decide
theorem txt_asc : ∀ f : Fm, f.ok = true → ∀ c ∈ f.txt, c < 128
  | .lt n, h => name_asc h
  | .op s l r, h => by
    obtain ⟨_, hl, hr⟩ := Fm.ok_op h
    intro c hc
    simp only [Fm.txt, List.mem_append, List.mem_singleton] at hc
    rcases hc with (((((hc | hc) | hc) | hc) | hc) | hc) | hc
    · omega
    · exact txt_asc l hl c hc
    · omega
    · exact sgL_asc s c hc
    · omega
    · exact txt_asc r hr c hc
    · omega
theorem trD_lay : ∀ f : Fm, f.ok = true → (trD f).canLay0 = true ∧ (trD f).depth ≤ f.dep
  | .lt n, h => by
    refine ⟨?_, by simp [trD, PyData.depth]⟩
    simp only [trD, PyData.canLay0]
    exact strOk_of (name_asc h)
  | .op s l r, h => by
    obtain ⟨_, hl, hr⟩ := Fm.ok_op h
    obtain ⟨a1, a2⟩ := trD_lay l hl
    obtain ⟨b1, b2⟩ := trD_lay r hr
    refine ⟨?_, ?_⟩
    · simp only [trD, PyData.canLay0, PyData.canLayAll0, a1, b1, strOk_of (sgL_asc s), Bool.and_self]
    · simp only [trD, PyData.depth, PyData.depthAll, Fm.dep]
      omega
theorem trD_shaped {f : Fm} (h : f.ok = true) (hd : f.dep ≤ 64) : SeqAt.shaped (trD f) = true := by
  obtain ⟨a, b⟩ := trD_lay f h
  show ((trD f).canLay0 && decide ((trD f).depth ≤ 64)) = true
  rw [Bool.and_eq_true]
  exact ⟨a, decide_eq_true (by omega)⟩
theorem trD_eqv : ∀ f g : Fm, f.ok = true → g.ok = true → PyData.eqv (trD f) (trD g) = decide (f = g)
  | .lt n, .lt m, _, _ => by
    have e : PyData.eqv (trD (.lt n)) (trD (.lt m)) = decide (n = m) := by
      simp only [trD, PyData.eqv]
      exact SX.S_beq_eq
    rw [e]
    exact decide_eq_decide.mpr ⟨fun h => by rw [h], fun h => by injection h⟩
  | .lt n, .op s l r, _, _ => by simp [trD, PyData.eqv]
  | .op s l r, .lt n, _, _ => by simp [trD, PyData.eqv]
  | .op s l r, .op t l2 r2, h1, h2 => by
    obtain ⟨hs, hl, hr⟩ := Fm.ok_op h1
    obtain ⟨ht, hl2, hr2⟩ := Fm.ok_op h2
    have e : PyData.eqv (trD (.op s l r)) (trD (.op t l2 r2)) = (decide (sgL s = sgL t) && (decide (l = l2) && decide (r = r2))) := by
      simp only [trD, PyData.eqv, PyData.eqvAll, Bool.and_true, trD_eqv l l2 hl hl2, trD_eqv r r2 hr hr2]
      rw [show (S (sgL s) == S (sgL t)) = decide (sgL s = sgL t) from SX.S_beq_eq]
    rw [e]
    by_cases c1 : sgL s = sgL t
    · have := sgL_inj s hs t ht c1
      subst this
      by_cases c2 : l = l2 <;> by_cases c3 : r = r2 <;> simp [c2, c3]
    · have : s ≠ t := fun z => c1 (by rw [z])
      simp [c1, this]
theorem TrAt.dp {K : PySem.W.Frag} {H : Hp} {v : V} {f : Fm} (h : TrAt H v f) : Dp K H v (trD f) := by
  induction h with
  | lt => exact .str _
  | op e _ _ i1 i2 => exact .tup (SqT.of e) (.cons (.str _) (.cons i1 (.cons i2 .nil)))
theorem two_ne {K : PySem.W.Frag} {H : Hp} {a b : Addr} {z y : Str} {Q : VK} (ha : H a = some (.tup [.str z, .str y])) (hb : H b = some (.tup [.str z, .str y])) (hz : PyData.strOk z = true) (hy : PyData.strOk y = true) (q : Q (.bl false) H) : rNeD K (.ref a) (.ref b) H Q := by
  have lay : (PyData.tuple [.str z, .str y]).canLay0 = true := by simp only [PyData.canLay0, PyData.canLayAll0, hz, hy, Bool.and_self]
  have sh : SeqAt.shaped (.tuple [.str z, .str y]) = true := by
    show (PyData.canLay0 _ && decide (PyData.depth _ ≤ 64)) = true
    rw [Bool.and_eq_true]
    exact ⟨lay, decide_eq_true (by simp [PyData.depth, PyData.depthAll])⟩
  refine ⟨_, _, .tup (SqT.of ha) (.cons (.str _) (.cons (.str _) .nil)), .tup (SqT.of hb) (.cons (.str _) (.cons (.str _) .nil)), sh, sh, ?_⟩
  rw [PySem.SeqAt.eqv_refl _ lay]
  exact q
theorem two_neL {K : PySem.W.Frag} {H : Hp} {a b : Addr} {z y : Str} {Q : VK} (ha : H a = some (.lst [.str z, .str y])) (hb : H b = some (.lst [.str z, .str y])) (hz : PyData.strOk z = true) (hy : PyData.strOk y = true) (q : Q (.bl false) H) : rNeD K (.ref a) (.ref b) H Q := by
  have lay : (PyData.list [.str z, .str y]).canLay0 = true := by simp only [PyData.canLay0, PyData.canLayAll0, hz, hy, Bool.and_self]
  have sh : SeqAt.shaped (.list [.str z, .str y]) = true := by
    show (PyData.canLay0 _ && decide (PyData.depth _ ≤ 64)) = true
    rw [Bool.and_eq_true]
    exact ⟨lay, decide_eq_true (by simp [PyData.depth, PyData.depthAll])⟩
  refine ⟨_, _, .lst (SqL.of ha) (.cons (.str _) (.cons (.str _) .nil)), .lst (SqL.of hb) (.cons (.str _) (.cons (.str _) .nil)), sh, sh, ?_⟩
  rw [PySem.SeqAt.eqv_refl _ lay]
  exact q
theorem two_eqL {K : PySem.W.Frag} {H : Hp} {a b : Addr} {z y : Str} {Q : VK} (ha : H a = some (.lst [.str z, .str y])) (hb : H b = some (.lst [.str z, .str y])) (hz : PyData.strOk z = true) (hy : PyData.strOk y = true) (q : Q (.bl true) H) : rEqD K (.ref a) (.ref b) H Q := by
  have lay : (PyData.list [.str z, .str y]).canLay0 = true := by simp only [PyData.canLay0, PyData.canLayAll0, hz, hy, Bool.and_self]
  have sh : SeqAt.shaped (.list [.str z, .str y]) = true := by
    show (PyData.canLay0 _ && decide (PyData.depth _ ≤ 64)) = true
    rw [Bool.and_eq_true]
    exact ⟨lay, decide_eq_true (by simp [PyData.depth, PyData.depthAll])⟩
  refine ⟨_, _, .lst (SqL.of ha) (.cons (.str _) (.cons (.str _) .nil)), .lst (SqL.of hb) (.cons (.str _) (.cons (.str _) .nil)), sh, sh, ?_⟩
  rw [PySem.SeqAt.eqv_refl _ lay]
  exact q
theorem three_eqL {K : PySem.W.Frag} {H : Hp} {a b : Addr} {z y : Str} {i : Int} {Q : VK} (ha : H a = some (.lst [.str z, .str y, .int i])) (hb : H b = some (.lst [.str z, .str y, .int i])) (hz : PyData.strOk z = true) (hy : PyData.strOk y = true) (q : Q (.bl true) H) : rEqD K (.ref a) (.ref b) H Q := by
  have lay : (PyData.list [.str z, .str y, .int i]).canLay0 = true := by simp only [PyData.canLay0, PyData.canLayAll0, hz, hy, Bool.and_self]
  have sh : SeqAt.shaped (.list [.str z, .str y, .int i]) = true := by
    show (PyData.canLay0 _ && decide (PyData.depth _ ≤ 64)) = true
    rw [Bool.and_eq_true]
    exact ⟨lay, decide_eq_true (by simp [PyData.depth, PyData.depthAll])⟩
  refine ⟨_, _, .lst (SqL.of ha) (.cons (.str _) (.cons (.str _) (.cons (.int _) .nil))), .lst (SqL.of hb) (.cons (.str _) (.cons (.str _) (.cons (.int _) .nil))), sh, sh, ?_⟩
  rw [PySem.SeqAt.eqv_refl _ lay]
  exact q
end L2.K06
set_option Elab.async false
set_option linter.all false
set_option maxRecDepth 100000
set_option maxHeartbeats 8000000
namespace L2.K06
open PySem PySem.Spec PyProof.Rows L2.Tb
open SX (S)
abbrev s_odd : Stmt := top 29
abbrev N_odd : List Str := ["_law_purse_here", "_law_way"]
theorem sc_odd : FnScope N_odd ["_law_purse_here"] (defScope s_odd) := ⟨rfl, rfl, rfl, by decide +kernel, rfl, by decide +kernel, by decide +kernel⟩
abbrev s_alike : Stmt := top 28
abbrev N_alike : List Str := ["_law_thing", "_law_twin", "_law_a", "_law_b"]
theorem sc_alike : FnScope N_alike ["_law_thing", "_law_twin"] (defScope s_alike) := ⟨rfl, rfl, rfl, by decide +kernel, rfl, by decide +kernel, by decide +kernel⟩
def spAlike (n : Nat) : Sp := fun vs H Q _ => ∃ x y : V, vs = [x, y] ∧ Al H n x y ∧ ∀ H' : Hp, Same H H' → Q (.bl true) H'
open RZ
section
variable {K : PySem.W.Frag} {a b : Addr} {xs ys : List V}
theorem walk_zipT {n : Nat} (hn : n = min xs.length ys.length) : Walk (ItzT K a b) n (fun H => SqT K H a xs ∧ SqT K H b ys) (YPair (fun i => xs[i]?) (fun i => ys[i]?)) := by
  subst hn
  refine ⟨fun i _ hi q => ?_, fun _ q => ⟨xs, ys, q.1, q.2, by omega⟩, fun i H v H' _ q y => ?_⟩
  · have h1 : i < xs.length := by omega
    have h2 : i < ys.length := by omega
    exact ⟨xs, ys, xs[i], ys[i], q.1, q.2, by simp [h1], by simp [h2]⟩
  · obtain ⟨T, x, z, h1, h2, h3, h4, h5⟩ := y
    exact ⟨T, x, z, h1, h2, h3, h4 xs q.1, h5 ys q.2⟩
end
section
variable {P : Program} {w : World} {K : PySem.W.Frag} {mg : Str → Option Value} {base : Heap} {f : Addr} {fd : FuncData}
/-- a value's built-in type and what isinstance says of it -/
structure TyK (K : PySem.W.Frag) (H : Hp) (x : V) (a1 a2 a3 : Bool) : Prop where
  ex : ∃ T : String, TyX K H x (.type T) ∧ kitB T "tuple" = some a1 ∧ kitB T "list" = some a2 ∧ kitB T "bool" = some a3
theorem ty_flat {x : V} (h : flatS x = true) : ∃ a3, ∀ (H : Hp), TyK K H x false false a3 := by
  cases x with
  | non => exact ⟨false, fun H => ⟨"NoneType", .base .non, by decide +kernel, by decide +kernel, by decide +kernel⟩⟩
  | bl b => exact ⟨true, fun H => ⟨"bool", .base (.bl b), by decide +kernel, by decide +kernel, by decide +kernel⟩⟩
  | int i => exact ⟨false, fun H => ⟨"int", .base (.int i), by decide +kernel, by decide +kernel, by decide +kernel⟩⟩
  | str z => exact ⟨false, fun H => ⟨"str", .base (.str z), by decide +kernel, by decide +kernel, by decide +kernel⟩⟩
  | _ => cases h
theorem ty_lst {H : Hp} {a : Addr} {xs : List V} (e : H a = some (.lst xs)) : TyK K H (.ref a) false true false := ⟨"list", .base (.lst e), by decide +kernel, by decide +kernel, by decide +kernel⟩
theorem ty_tup {H : Hp} {a : Addr} {xs : List V} (e : H a = some (.tup xs)) : TyK K H (.ref a) true false false := ⟨"tuple", .base (.tup e), by decide +kernel, by decide +kernel, by decide +kernel⟩
theorem ty_dct {H : Hp} {a : Addr} {kvs : List (Key × V)} (e : H a = some (.dK kvs)) : TyK K H (.ref a) false false false := ⟨"dict", .base (.dK e), by decide +kernel, by decide +kernel, by decide +kernel⟩
theorem lT : kitB "list" "tuple" = some false := by decide +kernel
theorem lL : kitB "list" "list" = some true := by decide +kernel
theorem tT : kitB "tuple" "tuple" = some true := by decide +kernel
theorem tL : kitB "tuple" "list" = some false := by decide +kernel
theorem kit2 {T : String} {a1 a2 : Bool} (h1 : kitB T "tuple" = some a1) (h2 : kitB T "list" = some a2) : PySem.W.kitAny K (.type T) [.type "tuple", .type "list"] = some (a1 || a2) := by
  refine kitAny_cons (kit_ty h1) (fun e1 => kitAny_cons (kit_ty h2) (fun e2 => ?_) (fun e2 => ?_)) (fun e1 => ?_)
  · rw [e1, e2]; rfl
  · rw [e1, e2]; rfl
  · rw [e1]; rfl
theorem paired_get {R : V → V → Prop} : ∀ {xs ys : List V} {i : Nat} {u v : V}, Paired R xs ys → xs[i]? = some u → ys[i]? = some v → R u v
  | _, _, 0, _, _, .cons r _, h1, h2 => by
    cases h1
    cases h2
    exact r
  | _, _, i + 1, _, _, .cons _ t, h1, h2 => paired_get (i := i) t (by simpa using h1) (by simpa using h2)
  | _, _, _, _, _, .nil, h1, _ => by simp at h1
def spA : Nat → Sp
  | 0 => fun _ _ _ _ => False
  | n + 1 => spAlike n
theorem cal_false (F : FnP K "_law_alike" s_alike f fd) (hm : mg "_law_alike" = some (.ref f)) : Cal P w K mg base 0 "_law_alike" (spA 0) :=
  ⟨f, fd, ["_law_thing", "_law_twin"], ⟨fun _ _ _ _ h => h.elim, fun _ _ _ _ _ _ _ _ _ _ _ _ _ h => h.elim⟩, hm, F.kp, F.bindsN fun _ _ _ _ _ _ us hl => match us, hl with | [_, _], _ => rfl⟩
theorem rep_succ {i : Nat} {b : V} : List.replicate i b ++ [b] = List.replicate (i + 1) b := by rw [List.replicate_succ']
theorem c_alike_step (T : Bt mg) (F : FnP K "_law_alike" s_alike f fd) (hm : mg "_law_alike" = some (.ref f)) (n : Nat) (k_alike : Cal P w K mg base n "_law_alike" (spA n)) : Cal P w K mg base (n + 1) "_law_alike" (spAlike n) := by
  have hnd := sc_alike.nd
  refine cal_mk F hm sc_alike (fun _ _ _ _ _ _ us hl => match us, hl with | [_, _], _ => rfl) (fun vs H Q E h => ?_) (fun cdv A outer s H vs Q E hr h => ?_)
  · obtain ⟨x, y, rfl, _⟩ := h
    rfl
  · obtain ⟨x, y, rfl, hal, q⟩ := h
    refine ⟨_, (pss_cons (ps_if (pt_val (pe_callB call_isiT (by rfl) T.m_isinstance (by decide +kernel) (pa_cons (pv 0) (pa_cons (pe_tup (pa_cons (pe_bltn (v := .ty "tuple") (by rfl) T.m_tuple (by decide +kernel) rfl) (pa_cons (pe_bltn (v := .ty "list") (by rfl) T.m_list (by decide +kernel) rfl) pa_nil))) pa_nil))))
      (pss_cons (ps_if (pt_cmpR (op_neD hr.units) (pe_lst (pa_cons (pe_callB call_isi (by rfl) T.m_isinstance (by decide +kernel) (pa_cons (pv 0) (pa_cons (pe_bltn (v := .ty "tuple") (by rfl) T.m_tuple (by decide +kernel) rfl) pa_nil))) (pa_cons (pe_callB call_isi (by rfl) T.m_isinstance (by decide +kernel) (pa_cons (pv 0) (pa_cons (pe_bltn (v := .ty "list") (by rfl) T.m_list (by decide +kernel) rfl) pa_nil))) pa_nil))) (pe_lst (pa_cons (pe_callB call_isi (by rfl) T.m_isinstance (by decide +kernel) (pa_cons (pv 1) (pa_cons (pe_bltn (v := .ty "tuple") (by rfl) T.m_tuple (by decide +kernel) rfl) pa_nil))) (pa_cons (pe_callB call_isi (by rfl) T.m_isinstance (by decide +kernel) (pa_cons (pv 1) (pa_cons (pe_bltn (v := .ty "list") (by rfl) T.m_list (by decide +kernel) rfl) pa_nil))) pa_nil))) (nomark _))
      (pss_one (ps_ret pe_bl))
      pss_nil)
      (pss_one (ps_ret (pe_and (pe_cmpR op_eq (pe_callB call_len_seq (by rfl) T.m_len (by decide +kernel) (pa_cons (pv 0) pa_nil)) (pe_callB call_len_seq (by rfl) T.m_len (by decide +kernel) (pa_cons (pv 1) pa_nil)) (nomark _)) (pe_one (pe_callB (cr_all (by rfl)) (by rfl) T.m_all (by decide +kernel) (pa_cons (pe_lc (own := [("_law_a", 2), ("_law_b", 3)]) (tt := tYes) (g := (gTup K 2 (gCons (gName 2) (gCons (gName 3) gNil)))) (by rfl) hnd (pi_zipA (by rfl) T.m_zip (pa_cons (pv 0) (pa_cons (pv 1) pa_nil))) (blkOk_by (own := [("_law_a", 2), ("_law_b", 3)]) (N := N_alike) (sc := defScope s_alike) (by decide +kernel)) (fun _ _ _ _ _ => (pg_tup (by rfl) (pgs_cons (pg_name (i := 2) hnd rfl (by first | exact Or.inl rfl | exact Or.inr rfl)) (pgs_cons (pg_name (i := 3) hnd rfl (by first | exact Or.inl rfl | exact Or.inr rfl)) pgs_nil)))) (fun _ _ _ _ _ => pts_nil) (fun _ _ _ _ _ => (pe_cal k_alike hr (by omega) (by rfl) (pa_cons (pv 2) (pa_cons (pv 3) pa_nil))))) pa_nil)))))))
      pss_nil)
      (pss_one (ps_ret (pe_and (pe_cmpR op_eq (pe_callB call_isi (by rfl) T.m_isinstance (by decide +kernel) (pa_cons (pv 0) (pa_cons (pe_bltn (v := .ty "bool") (by rfl) T.m_bool (by decide +kernel) rfl) pa_nil))) (pe_callB call_isi (by rfl) T.m_isinstance (by decide +kernel) (pa_cons (pv 1) (pa_cons (pe_bltn (v := .ty "bool") (by rfl) T.m_bool (by decide +kernel) rfl) pa_nil))) (nomark _)) (pe_one (pe_cmpR (op_self hr.units) (pv 0) (pv 1) (nomark _))))))), ?_⟩
    have hc : (∃ a3, (∀ H', Same H H' → TyK K H' x false false a3) ∧ x = y ∧ (∀ H', Same H H' → flatS x = true ∨ ∃ (a : Addr) (kvs : List (Key × V)), x = .ref a ∧ H' a = some (.dK kvs) ∧ ∀ kv ∈ kvs, valV kvs kv.1 = some kv.2 ∧ (flatS kv.2 = true ∨ ∃ b, kv.2 = .ref b))) ∨
        ∃ m, n = m + 1 ∧ ((∃ a b xs ys, x = .ref a ∧ y = .ref b ∧ H a = some (.lst xs) ∧ H b = some (.lst ys) ∧ xs.length ≤ 1000 ∧ Paired (Al H m) xs ys) ∨ (∃ a b xs ys, x = .ref a ∧ y = .ref b ∧ H a = some (.tup xs) ∧ H b = some (.tup ys) ∧ xs.length ≤ 1000 ∧ Paired (Al H m) xs ys)) := by
      cases n with
      | zero =>
        obtain ⟨e, fl⟩ := hal
        obtain ⟨a3, t⟩ := ty_flat (K := K) fl
        exact .inl ⟨a3, fun H' _ => t H', e, fun _ _ => .inl fl⟩
      | succ m =>
        rcases hal with ⟨e, fl⟩ | hl | ht | ⟨a, kvs, h1, h2, h3, h4⟩
        · obtain ⟨a3, t⟩ := ty_flat (K := K) fl
          exact .inl ⟨a3, fun H' _ => t H', e, fun _ _ => .inl fl⟩
        · exact .inr ⟨m, rfl, .inl hl⟩
        · exact .inr ⟨m, rfl, .inr ht⟩
        · exact .inl ⟨false, fun H' s' => by rw [h1]; exact ty_dct (s' _ _ h3), h1.trans h2.symm, fun H' s' => .inr ⟨a, kvs, h1, s' _ _ h3, h4⟩⟩
    rcases hc with ⟨a3, ht, rfl, hd⟩ | ⟨m, rfl, ⟨a, b, xs, ys, rfl, rfl, ha, hb, hl, hp⟩ | ⟨a, b, xs, ys, rfl, rfl, ha, hb, hl, hp⟩⟩
    · refine ⟨_, rfl, by decide, fun tp np => ?_⟩
      have S1 := same_new (o := .tup [.ty "tuple", .ty "list"]) np
      obtain ⟨T1, t1, k1, k2, k3⟩ := (ht _ S1).ex
      refine ⟨_, tp, _, .type T1, [.type "tuple", .type "list"], _, rfl, upd_same, .cons (.ty _) (.cons (.ty _) .nil), t1, kit2 k1 k2, _, rfl, iteF ?_⟩
      refine ⟨_, rfl, _, _, _, _, _, rfl, .ty _, t1, kit_ty k3, _, rfl, _, _, _, _, _, rfl, .ty _, t1, kit_ty k3, ?_, _, rfl, ?_⟩
      · cases a3 <;> rfl
      · refine ite2 (fun _ => ?_) (fun h => absurd (decide_eq_true rfl) h)
        exact ⟨_, rfl, _, rfl, rfl, hd _ S1, q _ S1⟩
    · refine ⟨_, rfl, by decide, fun tp np => ?_⟩
      have S1 := same_new (o := .tup [.ty "tuple", .ty "list"]) np
      obtain ⟨T1, t1, k1, k2, k3⟩ := (ty_lst (S1 _ _ ha)).ex
      refine ⟨_, tp, _, .type T1, [.type "tuple", .type "list"], _, rfl, upd_same, .cons (.ty _) (.cons (.ty _) .nil), t1, kit2 k1 k2, _, rfl, iteT ?_⟩
      refine ⟨_, rfl, _, _, _, _, _, rfl, .ty _, .base (.lst (S1 _ _ ha)), kit_ty lT, _, rfl, _, _, _, _, _, rfl, .ty _, .base (.lst (S1 _ _ ha)), kit_ty lL, by decide, fun l nl => ?_⟩
      have S2 := S1.trans (same_new (o := .lst [.bl false, .bl true]) nl)
      refine ⟨_, rfl, _, _, _, _, _, rfl, .ty _, .base (.lst (S2 _ _ hb)), kit_ty lT, _, rfl, _, _, _, _, _, rfl, .ty _, .base (.lst (S2 _ _ hb)), kit_ty lL, by decide, fun l2 nl2 => ?_⟩
      have S3 := S2.trans (same_new (o := .lst [.bl false, .bl true]) nl2)
      refine ⟨.list [.bool false, .bool true], .list [.bool false, .bool true], .lst (SqL.of (same_new nl2 _ _ upd_same)) (.cons (.bl _) (.cons (.bl _) .nil)), .lst (SqL.of upd_same) (.cons (.bl _) (.cons (.bl _) .nil)), by decide +kernel, by decide +kernel, ?_⟩
      rw [show PyData.eqv (.list [.bool false, .bool true]) (.list [.bool false, .bool true]) = true by decide +kernel]
      refine ⟨_, rfl, iteF ?_⟩
      refine ⟨_, rfl, a, _, rfl, .inl (SqL.of (S3 _ _ ha)), _, rfl, b, _, rfl, .inl (SqL.of (S3 _ _ hb)), rfl, _, rfl, ite2 (fun _ => ?_) (fun h => absurd (decide_eq_true (by rw [Paired.length hp])) h)⟩
      refine ⟨_, rfl, _, rfl, a, b, xs, ys, rfl, .inl ⟨SqL.of (S3 _ _ ha), SqL.of (S3 _ _ hb), fun D nD => ?_⟩⟩
      have S4 := S3.trans (same_new (o := .lst []) nD)
      refine lc_it (walk_zip (K := K) (a := a) (b := b) (xs := xs) (ys := ys) rfl) (fun i H' => Same H H' ∧ H' D = some (.lst (List.replicate i (.bl true)))) ⟨S4, upd_same⟩ (fun i H' _ h => ⟨SqL.of (h.1 _ _ ha), SqL.of (h.1 _ _ hb)⟩) ?_ ?_
      · rintro i z H1 H2 hi ⟨s1, e1⟩ ⟨T', u, v, rfl, nT, rfl, hu, hv⟩
        have s2 := s1.trans (same_new (o := .tup [u, v]) nT)
        refine ⟨T', [u, v], rfl, SqT.of upd_same, rfl, u, _, rfl, v, _, rfl, rfl, rfl, ?_⟩
        unfold tYes
        dsimp only
        rw [if_pos rfl]
        refine ⟨_, rfl, _, rfl, u, v, rfl, (paired_get hp hu hv).same s2, fun H3 s3 => ?_⟩
        refine ⟨_, s3 _ _ (same_new nT _ _ e1), by rw [List.length_replicate, sizeLine_eq]; omega, fun b' o' e' => ?_, by rw [upd_same, rep_succ]⟩
        rw [upd_ne (fun z => ?_)]
        · exact s3 _ _ (s2 _ _ e')
        · rw [z] at e'
          have z2 := S3 _ _ e'
          rw [nD] at z2
          cases z2
      · rintro H1 ⟨s1, e1⟩
        refine ⟨D, List.replicate _ true, rfl, SqL.of (by rw [e1, List.map_replicate]), ?_⟩
        rw [show (List.replicate (min xs.length ys.length) true).all id = true from List.all_eq_true.mpr fun b' hb' => by rw [List.eq_of_mem_replicate hb']; rfl]
        exact q _ s1
    · refine ⟨_, rfl, by decide, fun tp np => ?_⟩
      have S1 := same_new (o := .tup [.ty "tuple", .ty "list"]) np
      obtain ⟨T1, t1, k1, k2, k3⟩ := (ty_tup (S1 _ _ ha)).ex
      refine ⟨_, tp, _, .type T1, [.type "tuple", .type "list"], _, rfl, upd_same, .cons (.ty _) (.cons (.ty _) .nil), t1, kit2 k1 k2, _, rfl, iteT ?_⟩
      refine ⟨_, rfl, _, _, _, _, _, rfl, .ty _, .base (.tup (S1 _ _ ha)), kit_ty tT, _, rfl, _, _, _, _, _, rfl, .ty _, .base (.tup (S1 _ _ ha)), kit_ty tL, by decide, fun l nl => ?_⟩
      have S2 := S1.trans (same_new (o := .lst [.bl true, .bl false]) nl)
      refine ⟨_, rfl, _, _, _, _, _, rfl, .ty _, .base (.tup (S2 _ _ hb)), kit_ty tT, _, rfl, _, _, _, _, _, rfl, .ty _, .base (.tup (S2 _ _ hb)), kit_ty tL, by decide, fun l2 nl2 => ?_⟩
      have S3 := S2.trans (same_new (o := .lst [.bl true, .bl false]) nl2)
      refine ⟨.list [.bool true, .bool false], .list [.bool true, .bool false], .lst (SqL.of (same_new nl2 _ _ upd_same)) (.cons (.bl _) (.cons (.bl _) .nil)), .lst (SqL.of upd_same) (.cons (.bl _) (.cons (.bl _) .nil)), by decide +kernel, by decide +kernel, ?_⟩
      rw [show PyData.eqv (.list [.bool true, .bool false]) (.list [.bool true, .bool false]) = true by decide +kernel]
      refine ⟨_, rfl, iteF ?_⟩
      refine ⟨_, rfl, a, _, rfl, .inr (SqT.of (S3 _ _ ha)), _, rfl, b, _, rfl, .inr (SqT.of (S3 _ _ hb)), rfl, _, rfl, ite2 (fun _ => ?_) (fun h => absurd (decide_eq_true (by rw [Paired.length hp])) h)⟩
      refine ⟨_, rfl, _, rfl, a, b, xs, ys, rfl, .inr ⟨SqT.of (S3 _ _ ha), SqT.of (S3 _ _ hb), fun D nD => ?_⟩⟩
      have S4 := S3.trans (same_new (o := .lst []) nD)
      refine lc_it (walk_zipT (K := K) (a := a) (b := b) (xs := xs) (ys := ys) rfl) (fun i H' => Same H H' ∧ H' D = some (.lst (List.replicate i (.bl true)))) ⟨S4, upd_same⟩ (fun i H' _ h => ⟨SqT.of (h.1 _ _ ha), SqT.of (h.1 _ _ hb)⟩) ?_ ?_
      · rintro i z H1 H2 hi ⟨s1, e1⟩ ⟨T', u, v, rfl, nT, rfl, hu, hv⟩
        have s2 := s1.trans (same_new (o := .tup [u, v]) nT)
        refine ⟨T', [u, v], rfl, SqT.of upd_same, rfl, u, _, rfl, v, _, rfl, rfl, rfl, ?_⟩
        unfold tYes
        dsimp only
        rw [if_pos rfl]
        refine ⟨_, rfl, _, rfl, u, v, rfl, (paired_get hp hu hv).same s2, fun H3 s3 => ?_⟩
        refine ⟨_, s3 _ _ (same_new nT _ _ e1), by rw [List.length_replicate, sizeLine_eq]; omega, fun b' o' e' => ?_, by rw [upd_same, rep_succ]⟩
        rw [upd_ne (fun z => ?_)]
        · exact s3 _ _ (s2 _ _ e')
        · rw [z] at e'
          have z2 := S3 _ _ e'
          rw [nD] at z2
          cases z2
      · rintro H1 ⟨s1, e1⟩
        refine ⟨D, List.replicate _ true, rfl, SqL.of (by rw [e1, List.map_replicate]), ?_⟩
        rw [show (List.replicate (min xs.length ys.length) true).all id = true from List.all_eq_true.mpr fun b' hb' => by rw [List.eq_of_mem_replicate hb']; rfl]
        exact q _ s1
theorem c_alike (T : Bt mg) (F : FnP K "_law_alike" s_alike f fd) (hm : mg "_law_alike" = some (.ref f)) : ∀ n, Cal P w K mg base (n + 1) "_law_alike" (spAlike n)
  | 0 => c_alike_step T F hm 0 (cal_false F hm)
  | n + 1 => c_alike_step T F hm (n + 1) (c_alike T F hm n)
end
end L2.K06
set_option Elab.async false
set_option linter.all false
set_option maxRecDepth 100000
set_option maxHeartbeats 8000000
namespace L2.K06
open PySem PySem.Spec PyProof.Rows L2.Tb
open SX (S)
section
variable {P : Program} {w : World} {K : PySem.W.Frag} {mg : Str → Option Value} {base : Heap} {f : Addr} {fd : FuncData}
def okB : V → Bool
  | .str z => decide (z.length ≤ 100)
  | _ => true
def OkS (v : V) : Prop := ∀ z, v = .str z → z.length ≤ 100
theorem oks_all {l : List V} {v : V} (h : l.all okB = true) (hv : v ∈ l) : OkS v := fun z e => by
  have q := List.all_eq_true.mp h v hv
  rw [e] at q
  exact of_decide_eq_true q
def okA : V → Bool
  | .str z => decide (z.length ≤ 100) && z.cps.toList.all fun c => decide (c < 128)
  | _ => true
/-- texts are short and ASCII, within a tuple too -/
def OkT (H : Hp) (v : V) : Prop := okA v = true ∧ ∀ q xs, v = .ref q → H q = some (.tup xs) → xs.all okA = true ∧ xs.length ≤ 3
theorem okt_all {H : Hp} {l : List V} {v : V} (h : (l.all fun x => okA x && match x with | .ref _ => false | _ => true) = true) (hv : v ∈ l) : OkT H v := by
  have q := List.all_eq_true.mp h v hv
  obtain ⟨a, b⟩ := (Bool.and_eq_true _ _).mp q
  refine ⟨a, fun q xs e => ?_⟩
  rw [e] at b
  cases b
theorem okt_lst {H : Hp} {a : Addr} {ys : List V} (h : H a = some (.lst ys)) : OkT H (.ref a) := ⟨rfl, fun q xs e h2 => (by
  cases e
  rw [h] at h2
  cases h2)⟩
theorem okt_dct {H : Hp} {a : Addr} {ys : List (Key × V)} (h : H a = some (.dK ys)) : OkT H (.ref a) := ⟨rfl, fun q xs e h2 => (by
  cases e
  rw [h] at h2
  cases h2)⟩
theorem okt_tup {H : Hp} {a : Addr} {ys : List V} (h : H a = some (.tup ys)) (k : ys.all okA = true) (l : ys.length ≤ 3) : OkT H (.ref a) := ⟨rfl, fun q xs e h2 => (by
  cases e
  rw [h] at h2
  cases h2
  exact ⟨k, l⟩)⟩
def spOdd3 : Sp := fun vs H Q _ => ∃ p : Addr, vs = [.ref p] ∧ Purse H p ∧ ∀ (v : V) (H' : Hp), SameB p H H' → Purse H' p → Od H' 3 v → OkS v → OkT H' v → Q v H'
theorem nat_of {d : Int} (h : 0 ≤ d) : ∃ n : Nat, d = (n : Int) := Int.eq_ofNat_of_zero_le h
theorem same_new2 {H : Hp} {p : Addr} {o u : HO} (h : H p = none) : Same H (upd (upd H p o) p u) := fun b v e => by rw [upd_ne (ne_of_none e h), upd_ne (ne_of_none e h)]; exact e
theorem c_odd3 (T : Bt mg) (F : FnP K "_law_odd" s_odd f fd) (hm : mg "_law_odd" = some (.ref f)) (k_draw : Cal P w K mg base 1 "_law_draw" spDraw) : Cal P w K mg base 2 "_law_odd" spOdd3 := by
  have hnd := sc_odd.nd
  refine cal_mk F hm sc_odd (fun _ _ _ _ _ _ us hl => match us, hl with | [_], _ => rfl) (fun vs H Q E h => ?_) (fun cdv A outer s H vs Q E hr h => ?_)
  · obtain ⟨p, rfl, _⟩ := h
    rfl
  · obtain ⟨p, rfl, hp, q⟩ := h
    refine ⟨_, (pss_cons (ps_set (i := 1) hnd rfl (by first | exact Or.inl rfl | exact Or.inr rfl) (pe_cal k_draw hr (by omega) (by rfl) (pa_cons (pv 0) (pa_cons pe_int pa_nil))))
      (pss_cons (ps_if (pt_cmpR op_lt (pv 1) pe_int (nomark _))
      (pss_one (ps_ret (pe_ix (show IxR _ (rIxL K) from ix_list) (pe_lst (pa_cons pe_non (pa_cons pe_bl (pa_cons pe_bl (pa_cons pe_int (pa_cons pe_int (pa_cons (pe_un un_neg pe_int) (pa_cons pe_int (pa_cons pe_int (pa_cons (pe_op op_pow pe_int pe_int) (pa_cons (pe_un un_neg (pe_op op_pow pe_int pe_int)) pa_nil))))))))))) (pv 1) (fun _ _ => rfl))))
      pss_nil)
      (pss_cons (ps_if (pt_cmpR op_lt (pv 1) pe_int (nomark _))
      (pss_one (ps_ret (pe_ix (show IxR _ (rIxL K) from ix_list) (pe_lst (pa_cons pe_str (pa_cons pe_str (pa_cons pe_str (pa_cons pe_str (pa_cons pe_str (pa_cons pe_str pa_nil))))))) (pe_op op_sub (pv 1) pe_int) (fun _ _ => rfl))))
      pss_nil)
      (pss_cons (ps_if (pt_cmpR op_lt (pv 1) pe_int (nomark _))
      (pss_one (ps_ret (pe_ix (show IxR _ (rIxL K) from ix_list) (pe_lst (pa_cons (pe_lst pa_nil) (pa_cons (pe_lst (pa_cons pe_str pa_nil)) (pa_cons pe_dnewK (pa_cons (pe_disp (pps_cons pe_str pe_int pps_nil) (by rfl) (by rfl) (fun z => by cases z) (by decide)) pa_nil))))) (pe_op op_sub (pv 1) pe_int) (fun _ _ => rfl))))
      pss_nil)
      (pss_one (ps_ret (pe_ix (show IxR _ (rIxL K) from ix_list) (pe_lst (pa_cons (pe_tup pa_nil) (pa_cons (pe_tup (pa_cons pe_str pa_nil)) (pa_cons (pe_tup (pa_cons (pe_lst pa_nil) pa_nil)) (pa_cons (pe_tup (pa_cons pe_int (pa_cons (pe_disp (pps_cons pe_str (pe_lst (pa_cons pe_int pa_nil)) pps_nil) (by rfl) (by rfl) (fun z => by cases z) (by decide)) (pa_cons pe_int pa_nil)))) pa_nil))))) (pe_op op_sub (pv 1) pe_int) (fun _ _ => rfl)))))))), ?_⟩
    refine ⟨_, rfl, p, 24, rfl, hp, by decide, by decide, fun d H1 d0 d1 s1 p1 => ?_⟩
    obtain ⟨n, rfl⟩ := nat_of d0
    have fin : ∀ (H2 : Hp) (v : V), Same H1 H2 → Od H2 3 v → OkS v → OkT H2 v → Q v H2 := fun H2 v s ov os ot => q v H2 (s1.trans (SameB.of s)) (p1.same s) ov os ot
    refine ⟨_, rfl, _, _, rfl, rfl, _, rfl, ite2 (fun h1 => ?_) (fun h1 => ?_)⟩
    · have hn : n < 10 := by have := of_decide_eq_true h1; omega
      refine ⟨_, rfl, ⟨_, _, rfl, rfl, ⟨by decide, by decide, by decide⟩, _, _, rfl, rfl, ⟨by decide, by decide, by decide⟩, _, rfl, by show 10 ≤ sizeLine; decide, fun l nl => ⟨_, rfl, l, _, _, _, rfl, rfl, SqL.of upd_same, atI_nat (List.getElem?_eq_getElem (by show n < 10; exact hn)), fin _ _ (same_new nl) (.inl ?_) ?_ ?_⟩⟩⟩
      · exact List.all_eq_true.mp (show ([V.non, .bl true, .bl false, .int 0, .int 1, .int (-1), .int 2, .int 12, .int (10 ^ 38), .int (-(10 ^ 38))].all flatS) = true from rfl) _ (List.getElem_mem ..)
      · exact oks_all (show ([V.non, .bl true, .bl false, .int 0, .int 1, .int (-1), .int 2, .int 12, .int (10 ^ 38), .int (-(10 ^ 38))].all okB) = true from rfl) (List.getElem_mem ..)
      · exact okt_all (show ([V.non, .bl true, .bl false, .int 0, .int 1, .int (-1), .int 2, .int 12, .int (10 ^ 38), .int (-(10 ^ 38))].all fun x => okA x && match x with | .ref _ => false | _ => true) = true by decide +kernel) (List.getElem_mem ..)
    · have hn : 10 ≤ n := by
        have z : ¬ ((n : Int) < 10) := fun z => h1 (decide_eq_true z)
        omega
      refine ⟨_, rfl, _, _, rfl, rfl, _, rfl, ite2 (fun h2 => ?_) (fun h2 => ?_)⟩
      · have hn2 : n < 16 := by have := of_decide_eq_true h2; omega
        have ei : (n : Int) - 10 = ((n - 10 : Nat) : Int) := by omega
        refine ⟨by show 6 ≤ sizeLine; decide, fun l nl => ⟨_, rfl, _, _, rfl, rfl, l, _, _, _, rfl, rfl, SqL.of upd_same, (by rw [ei]; exact atI_nat (List.getElem?_eq_getElem (by show n - 10 < 6; omega))), fin _ _ (same_new nl) (.inl ?_) ?_ ?_⟩⟩
        · exact List.all_eq_true.mp (show (([("" : Str), "a", "plain", "calm sides", "(a * b)", "same a b 2"].map V.str).all flatS) = true from rfl) _ (List.getElem_mem ..)
        · exact oks_all (show (([("" : Str), "a", "plain", "calm sides", "(a * b)", "same a b 2"].map V.str).all okB) = true by decide +kernel) (List.getElem_mem ..)
        · exact okt_all (show (([("" : Str), "a", "plain", "calm sides", "(a * b)", "same a b 2"].map V.str).all fun x => okA x && match x with | .ref _ => false | _ => true) = true by decide +kernel) (List.getElem_mem ..)
      · have hn2 : 16 ≤ n := by
          have z : ¬ ((n : Int) < 16) := fun z => h2 (decide_eq_true z)
          omega
        refine ⟨_, rfl, _, _, rfl, rfl, _, rfl, ite2 (fun h3 => ?_) (fun h3 => ?_)⟩
        · have hn3 : n < 20 := by have := of_decide_eq_true h3; omega
          have ei : (n : Int) - 16 = ((n - 16 : Nat) : Int) := by omega
          refine ⟨Nat.le_of_ble_eq_true rfl, fun l1 n1 => ⟨Nat.le_of_ble_eq_true rfl, fun l2 n2 => fun d3 n3 => fun d4 n4 => ⟨upd_same, [(Sum.inr "a", .int 1)], rfl, Nat.le_of_ble_eq_true rfl, Nat.le_of_ble_eq_true rfl, fun l nl => ⟨_, rfl, _, _, rfl, rfl, l, _, _, _, rfl, rfl, SqL.of upd_same, (by rw [ei]; exact atI_nat (List.getElem?_eq_getElem (by show n - 16 < 4; omega))), ?_⟩⟩⟩⟩
          have a1 := same_new (o := .lst []) n1
          have a2 := same_new (o := .lst [.str "a"]) n2
          have a3 := same_new (o := .dK []) n3
          have a4 := same_new2 (o := .dK []) (u := .dK (mergeK [] [(Sum.inr "a", .int 1)])) n4
          have a5 := same_new (o := .lst [.ref l1, .ref l2, .ref d3, .ref d4]) nl
          refine fin _ _ (a1.trans (a2.trans (a3.trans (a4.trans a5)))) ?_ (oks_all (show ([V.ref l1, .ref l2, .ref d3, .ref d4].all okB) = true from rfl) (List.getElem_mem ..)) ?ot
          case ot =>
            have hc : n - 16 = 0 ∨ n - 16 = 1 ∨ n - 16 = 2 ∨ n - 16 = 3 := by omega
            rcases hc with e | e | e | e <;> simp only [e]
            · exact okt_lst (a5 _ _ (a4 _ _ (a3 _ _ (a2 _ _ upd_same))))
            · exact okt_lst (a5 _ _ (a4 _ _ (a3 _ _ upd_same)))
            · exact okt_dct (a5 _ _ (a4 _ _ upd_same))
            · exact okt_dct (a5 _ _ upd_same)
          have hc : n - 16 = 0 ∨ n - 16 = 1 ∨ n - 16 = 2 ∨ n - 16 = 3 := by omega
          rcases hc with e | e | e | e <;> simp only [e]
          · exact .inr (.inl ⟨l1, [], rfl, a5 _ _ (a4 _ _ (a3 _ _ (a2 _ _ upd_same))), Nat.le_of_ble_eq_true rfl, fun x hx => by cases hx⟩)
          · exact .inr (.inl ⟨l2, [.str "a"], rfl, a5 _ _ (a4 _ _ (a3 _ _ upd_same)), Nat.le_of_ble_eq_true rfl, fun x hx => by rw [List.mem_singleton.mp hx]; exact .inl rfl⟩)
          · exact .inr (.inr (.inr ⟨d3, [], rfl, a5 _ _ (a4 _ _ upd_same), Nat.le_of_ble_eq_true rfl, fun x hx => by cases hx⟩))
          · exact .inr (.inr (.inr ⟨d4, _, rfl, a5 _ _ upd_same, Nat.le_of_ble_eq_true rfl, fun x hx => by rw [List.mem_singleton.mp hx]; exact .inl rfl⟩))
        · have hn3 : 20 ≤ n := by
            have z : ¬ ((n : Int) < 20) := fun z => h3 (decide_eq_true z)
            omega
          have ei : (n : Int) - 20 = ((n - 20 : Nat) : Int) := by omega
          refine ⟨Nat.le_of_ble_eq_true rfl, fun t1 n1 => ⟨Nat.le_of_ble_eq_true rfl, fun t2 n2 => ⟨Nat.le_of_ble_eq_true rfl, fun l3 n3 => ⟨Nat.le_of_ble_eq_true rfl, fun t3 n4 => ?_⟩⟩⟩⟩
          refine fun d4 n5 => ⟨Nat.le_of_ble_eq_true rfl, fun l4 n6 => ⟨?_, [(Sum.inr "a", .ref l4)], rfl, Nat.le_of_ble_eq_true rfl, Nat.le_of_ble_eq_true rfl, fun t4 n7 => ⟨Nat.le_of_ble_eq_true rfl, fun l nl => ⟨_, rfl, _, _, rfl, rfl, l, _, _, _, rfl, rfl, SqL.of upd_same, (by rw [ei]; exact atI_nat (List.getElem?_eq_getElem (by show n - 20 < 4; omega))), ?_⟩⟩⟩⟩
          · rw [upd_ne (ne_of_none upd_same n6)]
            exact upd_same
          have a1 := same_new (o := .tup []) n1
          have a2 := same_new (o := .tup [.str "a"]) n2
          have a3 := same_new (o := .lst []) n3
          have a4 := same_new (o := .tup [.ref l3]) n4
          have nd4 : d4 ≠ l4 := ne_of_none upd_same n6
          have a6 : Same (upd (upd (upd (upd H1 t1 (.tup [])) t2 (.tup [.str "a"])) l3 (.lst [])) t3 (.tup [.ref l3])) (upd (upd (upd (upd (upd (upd (upd H1 t1 (.tup [])) t2 (.tup [.str "a"])) l3 (.lst [])) t3 (.tup [.ref l3])) d4 (.dK [])) l4 (.lst [.int 1])) d4 (.dK (mergeK [] [(Sum.inr "a", .ref l4)]))) := fun b o e => by
            rw [upd_ne (ne_of_none e n5)]
            exact same_new n6 _ _ (same_new n5 _ _ e)
          have a7 := same_new (o := .tup [.int 0, .ref d4, .int 2]) n7
          have a8 := same_new (o := .lst [.ref t1, .ref t2, .ref t3, .ref t4]) nl
          refine fin _ _ (a1.trans (a2.trans (a3.trans (a4.trans (a6.trans (a7.trans a8)))))) ?_ (oks_all (show ([V.ref t1, .ref t2, .ref t3, .ref t4].all okB) = true from rfl) (List.getElem_mem ..)) ?ot
          case ot =>
            have hc : n - 20 = 0 ∨ n - 20 = 1 ∨ n - 20 = 2 ∨ n - 20 = 3 := by omega
            rcases hc with e | e | e | e <;> simp only [e]
            · exact okt_tup (a8 _ _ (a7 _ _ (a6 _ _ (a4 _ _ (a3 _ _ (a2 _ _ upd_same)))))) rfl (by decide)
            · exact okt_tup (a8 _ _ (a7 _ _ (a6 _ _ (a4 _ _ (a3 _ _ upd_same))))) (by decide +kernel) (by decide)
            · exact okt_tup (a8 _ _ (a7 _ _ (a6 _ _ upd_same))) rfl (show (1 : Nat) ≤ 3 by decide)
            · exact okt_tup (a8 _ _ upd_same) rfl (show (3 : Nat) ≤ 3 by decide)
          have hc : n - 20 = 0 ∨ n - 20 = 1 ∨ n - 20 = 2 ∨ n - 20 = 3 := by omega
          rcases hc with e | e | e | e <;> simp only [e]
          · exact .inr (.inr (.inl ⟨t1, [], rfl, a8 _ _ (a7 _ _ (a6 _ _ (a4 _ _ (a3 _ _ (a2 _ _ upd_same))))), Nat.le_of_ble_eq_true rfl, fun x hx => by cases hx⟩))
          · exact .inr (.inr (.inl ⟨t2, [.str "a"], rfl, a8 _ _ (a7 _ _ (a6 _ _ (a4 _ _ (a3 _ _ upd_same)))), Nat.le_of_ble_eq_true rfl, fun x hx => by rw [List.mem_singleton.mp hx]; exact .inl rfl⟩))
          · refine .inr (.inr (.inl ⟨t3, [.ref l3], rfl, a8 _ _ (a7 _ _ (a6 _ _ upd_same)), Nat.le_of_ble_eq_true rfl, fun x hx => ?_⟩))
            rw [List.mem_singleton.mp hx]
            exact .inr (.inl ⟨l3, [], rfl, a8 _ _ (a7 _ _ (a6 _ _ (a4 _ _ upd_same))), Nat.le_of_ble_eq_true rfl, fun x hx => by cases hx⟩)
          · refine .inr (.inr (.inl ⟨t4, [.int 0, .ref d4, .int 2], rfl, a8 _ _ upd_same, Nat.le_of_ble_eq_true rfl, fun x hx => ?_⟩))
            rcases List.mem_cons.mp hx with e | hx
            · rw [e]; exact .inl rfl
            rcases List.mem_cons.mp hx with e | hx
            · rw [e]
              exact .inr (.inr (.inr ⟨d4, _, rfl, a8 _ _ (a7 _ _ upd_same), Nat.le_of_ble_eq_true rfl, fun x hx => by rw [List.mem_singleton.mp hx]; exact .inr ⟨_, rfl⟩⟩))
            · rw [List.mem_singleton.mp hx]; exact .inl rfl
end
end L2.K06
set_option Elab.async false
set_option linter.all false
set_option maxRecDepth 100000
set_option maxHeartbeats 8000000
namespace L2.K06
open PySem PySem.Spec PyProof.Rows L2.Tb
open SX (S)
abbrev s_sign : Stmt := top 37
abbrev N_sign : List Str := ["_law_purse_here", "_law_near", "_law_wide"]
theorem sc_sign : FnScope N_sign ["_law_purse_here", "_law_near"] (defScope s_sign) := ⟨rfl, rfl, rfl, by decide +kernel, rfl, by decide +kernel, by decide +kernel⟩
abbrev s_bent : Stmt := top 38
abbrev N_bent : List Str := ["_law_purse_here", "_law_line", "_law_near", "_law_way", "_law_at", "_law_mark", "_law_swapped"]
theorem sc_bent : FnScope N_bent ["_law_purse_here", "_law_line", "_law_near"] (defScope s_bent) := ⟨rfl, rfl, rfl, by decide +kernel, rfl, by decide +kernel, by decide +kernel⟩
def Okz (z : Str) : Prop := ∀ c ∈ z.cps.toList, c < 128
theorem okz_app {a b : Str} (h1 : Okz a) (h2 : Okz b) : Okz (a ++ b) := fun c hc => by
  rw [PySem.Str.cps_append, Array.toList_append] at hc
  exact (List.mem_append.mp hc).elim (h1 c) (h2 c)
theorem okz_cut {a : Str} (h : Okz a) (lo hi : Option Int) : Okz (Txt.slice a lo hi) := by
  rw [← C8.cutS_slice]
  exact fun c hc => h c (List.mem_of_mem_drop (List.mem_of_mem_take hc))
theorem okz_sign {a : Str} {c : Nat} (h : Okz a) (hc : c ∈ a.cps.toList) : Okz ⟨#[c]⟩ := fun d hd => by
  rw [List.mem_singleton.mp (show d ∈ [c] from hd)]
  exact h c hc
theorem okz_iff {a : Str} : Okz a ↔ (a.cps.toList.all fun c => decide (c < 128)) = true := by
  unfold Okz
  rw [List.all_eq_true]
  exact ⟨fun h c hc => decide_eq_true (h c hc), fun h c hc => of_decide_eq_true (h c hc)⟩
def spSign : Sp := fun vs H Q _ => ∃ (p : Addr) (y : Str), vs = [.ref p, .str y] ∧ Purse H p ∧ 0 < y.length ∧ y.length ≤ 1000 ∧ Okz y ∧ ∀ (c : Str) (H' : Hp), SameB p H H' → Purse H' p → c.length ≤ 1 → Okz c → Q (.str c) H'
def spBent : Sp := fun vs H Q _ => ∃ (p : Addr) (z y : Str), vs = [.ref p, .str z, .str y] ∧ Purse H p ∧ z.length ≤ 1000 ∧ 0 < y.length ∧ y.length ≤ 1000 ∧ Okz z ∧ Okz y ∧ ∀ (c : Str) (H' : Hp), SameB p H H' → Purse H' p → c.length ≤ 3 * z.length + 2 → Okz c → Q (.str c) H'
theorem str_at {z : Str} {i : Int} (h0 : 0 ≤ i) (h1 : i < z.length) : ∃ c, atI z.cps.toList i = some c ∧ c ∈ z.cps.toList := by
  obtain ⟨k, rfl⟩ := Int.eq_ofNat_of_zero_le h0
  have hk : k < z.cps.toList.length := by
    have : (k : Int) < z.cps.size := h1
    rw [Array.length_toList]
    omega
  exact ⟨_, atI_nat (List.getElem?_eq_getElem hk), List.getElem_mem ..⟩
section
variable {P : Program} {w : World} {K : PySem.W.Frag} {mg : Str → Option Value} {base : Heap} {f : Addr} {fd : FuncData}
theorem c_sign (T : Bt mg) (F : FnP K "_law_sign" s_sign f fd) (hm : mg "_law_sign" = some (.ref f)) (k_draw : Cal P w K mg base 1 "_law_draw" spDraw) : Cal P w K mg base 2 "_law_sign" spSign := by
  have hnd := sc_sign.nd
  refine cal_mk F hm sc_sign (fun _ _ _ _ _ _ us hl => match us, hl with | [_, _], _ => rfl) (fun vs H Q E h => ?_) (fun cdv A outer s H vs Q E hr h => ?_)
  · obtain ⟨p, y, rfl, _⟩ := h
    rfl
  · obtain ⟨p, y, rfl, hp, h0, h1, oy, q⟩ := h
    refine ⟨_, (pss_cons (ps_set (i := 2) hnd rfl (by first | exact Or.inl rfl | exact Or.inr rfl) pe_str)
      (pss_cons (ps_set (i := 2) hnd rfl (by first | exact Or.inl rfl | exact Or.inr rfl) (pe_op op_add_str (pv 2) pe_str))
      (pss_cons (ps_if (pt_cmpR op_eq (pe_cal k_draw hr (by omega) (by rfl) (pa_cons (pv 0) (pa_cons pe_int pa_nil))) pe_int (nomark _))
      (pss_one (ps_ret (pe_ix ix_str (pv 1) (pe_cal k_draw hr (by omega) (by rfl) (pa_cons (pv 0) (pa_cons (pe_callB call_len_str (by rfl) T.m_len (by decide +kernel) (pa_cons (pv 1) pa_nil)) pa_nil))) (fun _ _ => rfl))))
      pss_nil)
      (pss_one (ps_ret (pe_ix ix_str (pv 2) (pe_cal k_draw hr (by omega) (by rfl) (pa_cons (pv 0) (pa_cons (pe_callB call_len_str (by rfl) T.m_len (by decide +kernel) (pa_cons (pv 2) pa_nil)) pa_nil))) (fun _ _ => rfl))))))), ?_⟩
    have hl : y.length ≤ sizeLine := by
      rw [sizeLine_eq]
      omega
    refine ⟨_, rfl, _, _, rfl, rfl, Nat.le_of_ble_eq_true rfl, _, rfl, p, 2, rfl, hp, by decide, by decide, fun d0 H1 a0 a1 s1 u1 => ⟨rfl, _, rfl, ite2 (fun _ => ?_) (fun _ => ?_)⟩⟩
    · refine ⟨_, rfl, _, rfl, _, rfl, y, rfl, hl, p, _, rfl, u1, by omega, by omega, fun d H2 b0 b1 s2 u2 => ?_⟩
      obtain ⟨c, hc, mc⟩ := str_at b0 b1
      exact ⟨y, d, c, rfl, rfl, hl, hc, q _ _ (s1.trans s2) u2 (Nat.le_refl _) (okz_sign oy mc)⟩
    · refine ⟨_, rfl, _, rfl, _, rfl, _, rfl, Nat.le_of_ble_eq_true rfl, p, _, rfl, u1, by decide +kernel, by decide +kernel, fun d H2 b0 b1 s2 u2 => ?_⟩
      obtain ⟨c, hc, mc⟩ := str_at b0 b1
      exact ⟨_, d, c, rfl, rfl, Nat.le_of_ble_eq_true rfl, hc, q _ _ (s1.trans s2) u2 (Nat.le_refl _) (okz_sign (okz_iff.mpr (by decide +kernel)) mc)⟩
theorem c_bent (T : Bt mg) (F : FnP K "_law_bent" s_bent f fd) (hm : mg "_law_bent" = some (.ref f)) (k_draw : Cal P w K mg base 1 "_law_draw" spDraw) (k_sign : Cal P w K mg base 2 "_law_sign" spSign) : Cal P w K mg base 3 "_law_bent" spBent := by
  have hnd := sc_bent.nd
  refine cal_mk F hm sc_bent (fun _ _ _ _ _ _ us hl => match us, hl with | [_, _, _], _ => rfl) (fun vs H Q E h => ?_) (fun cdv A outer s H vs Q E hr h => ?_)
  · obtain ⟨p, z, y, rfl, _⟩ := h
    rfl
  · obtain ⟨p, z, y, rfl, hp, hz, h0, h1, oz, oy, q⟩ := h
    refine ⟨_, (pss_cons (ps_par (i := 3) (j := 4) (by rfl) hnd rfl rfl (by decide) (by rfl) (by rfl) (pa_cons (pe_cal k_draw hr (by omega) (by rfl) (pa_cons (pv 0) (pa_cons pe_int pa_nil))) (pa_cons (pe_cal k_draw hr (by omega) (by rfl) (pa_cons (pv 0) (pa_cons (pe_op op_add (pe_callB call_len_str (by rfl) T.m_len (by decide +kernel) (pa_cons (pv 1) pa_nil)) pe_int) pa_nil))) pa_nil)) (by rfl))
      (pss_cons (ps_set (i := 5) hnd rfl (by first | exact Or.inl rfl | exact Or.inr rfl) (pe_cal k_sign hr (by omega) (by rfl) (pa_cons (pv 0) (pa_cons (pv 2) pa_nil))))
      (pss_cons (ps_if (PW.pt (pw_or (pt_cmpR op_eq (pv 3) pe_int (nomark _)) (pw_or1 (pt_cmpR op_eq (pv 4) (pe_callB call_len_str (by rfl) T.m_len (by decide +kernel) (pa_cons (pv 1) pa_nil)) (nomark _)))))
      (pss_one (ps_ret (pe_op op_add_str (pe_op op_add_str (pe_slice C8.sl_txt (pv 1) po_none (po_some (pv 4))) (pv 5)) (pe_slice C8.sl_txt (pv 1) (po_some (pv 4)) po_none))))
      pss_nil)
      (pss_cons (ps_if (pt_cmpR op_eq (pv 3) pe_int (nomark _))
      (pss_one (ps_ret (pe_op op_add_str (pe_slice C8.sl_txt (pv 1) po_none (po_some (pv 4))) (pe_slice C8.sl_txt (pv 1) (po_some (pe_op op_add (pv 4) pe_int)) po_none))))
      pss_nil)
      (pss_cons (ps_if (pt_cmpR op_eq (pv 3) pe_int (nomark _))
      (pss_one (ps_ret (pe_op op_add_str (pe_op op_add_str (pe_slice C8.sl_txt (pv 1) po_none (po_some (pv 4))) (pv 5)) (pe_slice C8.sl_txt (pv 1) (po_some (pe_op op_add (pv 4) pe_int)) po_none))))
      pss_nil)
      (pss_cons (ps_set (i := 6) hnd rfl (by first | exact Or.inl rfl | exact Or.inr rfl) (pe_op op_add_str (pe_slice C8.sl_txt (pv 1) (po_some (pe_op op_add (pv 4) pe_int)) (po_some (pe_op op_add (pv 4) pe_int))) (pe_ix ix_str (pv 1) (pv 4) (fun _ _ => rfl))))
      (pss_one (ps_ret (pe_op op_add_str (pe_op op_add_str (pe_slice C8.sl_txt (pv 1) po_none (po_some (pv 4))) (pv 6)) (pe_slice C8.sl_txt (pv 1) (po_some (pe_op op_add (pv 4) pe_int)) po_none)))))))))), ?_⟩
    have hl : z.length ≤ sizeLine := by
      rw [sizeLine_eq]
      omega
    have cl : ∀ lo hi, (Txt.slice z lo hi).length ≤ z.length := fun lo hi => Txt.slice_le z lo hi
    have two : ∀ {a b : Str} {n : Nat}, a.length ≤ n → b.length ≤ n → n ≤ 2000 → a.length + b.length ≤ sizeLine := fun ha hb hn => by
      rw [sizeLine_eq]
      omega
    refine ⟨_, rfl, p, 4, rfl, hp, by decide, by decide, fun w1 H1 a0 a1 s1 u1 => ⟨_, rfl, _, rfl, z, rfl, hl, _, _, rfl, rfl, p, _, rfl, u1, by omega, by omega, fun k H2 b0 b1 s2 u2 => ⟨_, _, rfl, _, rfl, _, rfl, p, y, rfl, u2, h0, h1, oy, fun c H3 s3 u3 hc oc => ?_⟩⟩⟩
    have sB := (s1.trans s2).trans s3
    have hc' : c.length ≤ 1 := hc
    have three : ∀ lo hi lo' hi', (Txt.slice z lo hi ++ c ++ Txt.slice z lo' hi').length ≤ 2 * z.length + 1 ∧ (Txt.slice z lo hi ++ c).length + (Txt.slice z lo' hi').length ≤ sizeLine ∧ (Txt.slice z lo hi).length + c.length ≤ sizeLine := fun lo hi lo' hi' => by
      have := cl lo hi
      have := cl lo' hi'
      rw [Str.length_append, Str.length_append, sizeLine_eq]
      omega
    refine ⟨_, rfl, rfl, _, rfl, ite2 (fun _ => iteT ?_) (fun _ => ?_)⟩
    · exact ⟨_, rfl, _, rfl, _, rfl, z, rfl, hl, _, rfl, _, _, rfl, rfl, (three _ _ none none).2.2, _, rfl, _, rfl, _, rfl, z, rfl, hl, _, _, rfl, rfl, (three _ _ _ _).2.1, q _ _ sB u3 (by have := (three none (some k) (some k) none).1; have := (three none (some k) (some (k + 1)) none).1; have := cl none (some k); first | omega | exact Nat.le_trans (three _ _ _ _).1 (by omega)) (okz_app (okz_app (okz_cut oz _ _) oc) (okz_cut oz _ _))⟩
    refine ⟨_, rfl, _, rfl, z, rfl, hl, rfl, _, rfl, ite2 (fun _ => ?_) (fun hk => ?_)⟩
    · exact ⟨_, rfl, _, rfl, _, rfl, z, rfl, hl, _, rfl, _, _, rfl, rfl, (three _ _ none none).2.2, _, rfl, _, rfl, _, rfl, z, rfl, hl, _, _, rfl, rfl, (three _ _ _ _).2.1, q _ _ sB u3 (by have := (three none (some k) (some k) none).1; have := (three none (some k) (some (k + 1)) none).1; have := cl none (some k); first | omega | exact Nat.le_trans (three _ _ _ _).1 (by omega)) (okz_app (okz_app (okz_cut oz _ _) oc) (okz_cut oz _ _))⟩
    refine ⟨_, rfl, rfl, _, rfl, ite2 (fun _ => ?_) (fun _ => ?_)⟩
    · exact ⟨_, rfl, _, rfl, _, rfl, z, rfl, hl, _, rfl, _, rfl, _, _, rfl, rfl, _, rfl, z, rfl, hl, _, _, rfl, rfl, two (cl _ _) (cl _ _) (by omega), q _ _ sB u3 (by rw [Str.length_append]; have := cl none (some k); have := cl (some (k + 1)) none; omega) (okz_app (okz_cut oz _ _) (okz_cut oz _ _))⟩
    refine ⟨_, rfl, rfl, _, rfl, ite2 (fun _ => ?_) (fun _ => ?_)⟩
    · exact ⟨_, rfl, _, rfl, _, rfl, z, rfl, hl, _, rfl, _, _, rfl, rfl, (three _ _ none none).2.2, _, rfl, _, rfl, _, _, rfl, rfl, _, rfl, z, rfl, hl, _, _, rfl, rfl, (three _ _ _ _).2.1, q _ _ sB u3 (by have := (three none (some k) (some k) none).1; have := (three none (some k) (some (k + 1)) none).1; have := cl none (some k); first | omega | exact Nat.le_trans (three _ _ _ _).1 (by omega)) (okz_app (okz_app (okz_cut oz _ _) oc) (okz_cut oz _ _))⟩
    · have hk2 : k < z.length := by
        have : k ≠ (z.length : Int) := fun e => hk (decide_eq_true (by rw [e]))
        omega
      obtain ⟨ck, hck, mck⟩ := str_at b0 hk2
      have l1 : (⟨#[ck]⟩ : Str).length = 1 := rfl
      have lw : (Txt.slice z (some (k + 1)) (some (k + 2)) ++ (⟨#[ck]⟩ : Str)).length ≤ z.length + 1 := by
        have := cl (some (k + 1)) (some (k + 2))
        rw [Str.length_append]
        omega
      refine ⟨_, rfl, _, rfl, _, _, rfl, rfl, _, rfl, _, rfl, _, _, rfl, rfl, _, rfl, z, rfl, hl, _, rfl, _, rfl, z, k, ck, rfl, rfl, hl, hck, _, _, rfl, rfl, two (n := 1001) (by have := cl (some (k + 1)) (some (k + 2)); omega) (by omega) (by decide), ?_⟩
      have b1 := cl none (some k)
      have b2 := cl (some (k + 2)) none
      refine ⟨_, rfl, _, rfl, _, rfl, z, rfl, hl, _, rfl, _, _, rfl, rfl, two (n := 2000) (by omega) (by omega) (by decide), _, rfl, _, rfl, _, _, rfl, rfl, _, rfl, z, rfl, hl, _, _, rfl, rfl, ?_, q _ _ sB u3 ?_ (okz_app (okz_app (okz_cut oz _ _) (okz_app (okz_cut oz _ _) (okz_sign oz mck))) (okz_cut oz _ _))⟩
      · rw [sizeLine_eq, Str.length_append]
        omega
      · rw [Str.length_append, Str.length_append]
        omega
end
end L2.K06
set_option Elab.async false
set_option linter.all false
set_option maxRecDepth 100000
set_option maxHeartbeats 8000000
namespace L2.K06
open PySem PySem.Spec PyProof.Rows L2.Tb
open SX (S)
/-! ### kept while tables change -/
section
variable {K : PySem.W.Frag} {H H' : Hp} {x v : V}
theorem tyx_N {t : Value} (s : LamX.ExtN H H') (h : TyX K H x t) : TyX K H' x t := by
  cases h with
  | base b =>
    refine .base ?_
    cases b with
    | non => exact .non
    | bl x => exact .bl x
    | int x => exact .int x
    | str x => exact .str x
    | flt x => exact .flt x
    | lst e => exact .lst (s _ _ e (fun ps z => by cases z))
    | frz e => exact .frz (s _ _ e (fun ps z => by cases z))
    | tup e => exact .tup (s _ _ e (fun ps z => by cases z))
    | dK e => exact .dK (s _ _ e (fun ps z => by cases z))
    | dT e => exact .dT (s _ _ e (fun ps z => by cases z))
    | ins e a b c d f => exact .ins (s _ _ e (fun ps z => by cases z)) a b c d f
  | byt b => exact .byt b
  | set e => exact .set (s _ _ e (fun ps z => by cases z))
  | kList e c => exact .kList e c
  | kTuple e c => exact .kTuple e c
  | kDict e c => exact .kDict e c
  | fTuple e => exact .fTuple (s _ _ e (fun ps z => by cases z))
  | fDict e => exact .fDict (s _ _ e (fun ps z => by cases z))
theorem al_N (s : LamX.ExtN H H') : ∀ {n : Nat} {x y : V}, Al H n x y → Al H' n x y
  | 0, _, _, h => h
  | n + 1, x, y, h => by
    have go : ∀ {xs ys : List V}, Paired (Al H n) xs ys → Paired (Al H' n) xs ys := fun {xs ys} p => by
      induction p with
      | nil => exact .nil
      | cons r _ ih => exact .cons (al_N s r) ih
    rcases h with h | ⟨a, b, xs, ys, h1, h2, h3, h4, h5, h6⟩ | ⟨a, b, xs, ys, h1, h2, h3, h4, h5, h6⟩ | ⟨a, kvs, h1, h2, h3, h4⟩
    · exact .inl h
    · exact .inr (.inl ⟨a, b, xs, ys, h1, h2, s _ _ h3 (fun ps z => by cases z), s _ _ h4 (fun ps z => by cases z), h5, go h6⟩)
    · exact .inr (.inr (.inl ⟨a, b, xs, ys, h1, h2, s _ _ h3 (fun ps z => by cases z), s _ _ h4 (fun ps z => by cases z), h5, go h6⟩))
    · exact .inr (.inr (.inr ⟨a, kvs, h1, h2, s _ _ h3 (fun ps z => by cases z), h4⟩))
theorem al_flat {n : Nat} (h : flatS v = true) : Al H n v v := by
  cases n with
  | zero => exact ⟨rfl, h⟩
  | succ n => exact .inl ⟨rfl, h⟩
end
def ExtB (p : Addr) (H H' : Hp) : Prop := ∀ b o, b ≠ p → H b = some o → (∀ ps, o ≠ .tbl ps) → H' b = some o
theorem ExtB.refl (p : Addr) (H : Hp) : ExtB p H H := fun _ _ _ e _ => e
theorem ExtB.ofB {p : Addr} {H H' : Hp} (s : SameB p H H') : ExtB p H H' := fun b o n e _ => s b o n e
theorem ExtB.ofS {p : Addr} {H H' : Hp} (s : Same H H') : ExtB p H H' := fun b o _ e _ => s b o e
theorem ExtB.ofN {p : Addr} {H H' : Hp} (s : LamX.ExtN H H') : ExtB p H H' := fun b o _ e t => s b o e t
theorem ExtB.trans {p : Addr} {H H1 H2 : Hp} (a : ExtB p H H1) (b : ExtB p H1 H2) : ExtB p H H2 := fun c o n e t => b c o n (a c o n e t) t
theorem tabs_B {T : List (Addr × Str)} {H H' : Hp} {p : Addr} (t : LamX.Tabs T H) (hp : Purse H p) (s : SameB p H H') : LamX.Tabs T H' := by
  obtain ⟨st, dg, c, e, _⟩ := hp.ex
  have out : ∀ {b o}, H b = some o → (∀ xs, o ≠ .lst xs) → H' b = some o := fun {b o} eb no => s b o (fun z => by
    rw [z, e] at eb
    exact no _ (Option.some.inj eb).symm) eb
  intro q hq
  obtain ⟨ps, h1, h2, h3⟩ := t q hq
  refine ⟨ps, out h1 (fun xs z => by cases z), h2, fun pos cv hc => ?_⟩
  obtain ⟨c', e1, e2⟩ := h3 pos cv hc
  refine ⟨c', e1, out e2 fun xs z => ?_⟩
  unfold LamX.CodeO at z
  cases z
theorem purse_N {H H' : Hp} {p : Addr} (h : Purse H p) (s : LamX.ExtN H H') : Purse H' p := by
  obtain ⟨st, dg, c, e, r⟩ := h.ex
  exact ⟨st, dg, c, s _ _ e (fun ps z => by cases z), r⟩
def oddT : List String := ["NoneType", "bool", "int", "str", "list", "tuple", "dict"]
theorem od_ty2 {K : PySem.W.Frag} {H : Hp} {n : Nat} {v : V} (h : Od H (n + 1) v) : ∃ T ∈ oddT, TyX K H v (.type T) := by
  rcases h with h | ⟨a, xs, rfl, h2, _⟩ | ⟨a, xs, rfl, h2, _⟩ | ⟨a, kvs, rfl, h2, _⟩
  · cases v with
    | non => exact ⟨"NoneType", by decide, .base .non⟩
    | bl b => exact ⟨"bool", by decide, .base (.bl b)⟩
    | int i => exact ⟨"int", by decide, .base (.int i)⟩
    | str z => exact ⟨"str", by decide, .base (.str z)⟩
    | _ => cases h
  · exact ⟨"list", by decide, .base (.lst h2)⟩
  · exact ⟨"tuple", by decide, .base (.tup h2)⟩
  · exact ⟨"dict", by decide, .base (.dK h2)⟩
theorem od_up {H : Hp} : ∀ {n : Nat} {v : V}, Od H n v → Od H (n + 1) v
  | 0, v, h => .inl h
  | n + 1, v, h => by
    rcases h with h | ⟨a, xs, h1, h2, h3, h4⟩ | ⟨a, xs, h1, h2, h3, h4⟩ | ⟨a, kvs, h1, h2, h3, h4⟩
    · exact .inl h
    · exact .inr (.inl ⟨a, xs, h1, h2, h3, fun x hx => od_up (h4 x hx)⟩)
    · exact .inr (.inr (.inl ⟨a, xs, h1, h2, h3, fun x hx => od_up (h4 x hx)⟩))
    · exact .inr (.inr (.inr ⟨a, kvs, h1, h2, h3, h4⟩))
theorem od_extN {H H' : Hp} (s : LamX.ExtN H H') : ∀ {n : Nat} {v : V}, Od H n v → Od H' n v
  | 0, _, h => h
  | n + 1, v, h => by
    rcases h with h | ⟨a, xs, h1, h2, h3, h4⟩ | ⟨a, xs, h1, h2, h3, h4⟩ | ⟨a, kvs, h1, h2, h3, h4⟩
    · exact .inl h
    · exact .inr (.inl ⟨a, xs, h1, s _ _ h2 (fun ps z => by cases z), h3, fun x hx => od_extN s (h4 x hx)⟩)
    · exact .inr (.inr (.inl ⟨a, xs, h1, s _ _ h2 (fun ps z => by cases z), h3, fun x hx => od_extN s (h4 x hx)⟩))
    · exact .inr (.inr (.inr ⟨a, kvs, h1, s _ _ h2 (fun ps z => by cases z), h3, h4⟩))
theorem od_B2 {H H' : Hp} {p : Addr} {n : Nat} {v : V} (o : Od H n v) (hp : Purse H p) (s : SameB p H H') : Od H' n v := by
  obtain ⟨st, dg, c, e, _⟩ := hp.ex
  exact o.keep e s
/-- a short text, or no text at all -/
def ThV (K : PySem.W.Frag) (H : Hp) (v : V) : Prop := (∃ l : List Nat, v = .str (S l) ∧ l.length ≤ 9000) ∨ NoS K H v
theorem NoS.N {K : PySem.W.Frag} {H H' : Hp} {v : V} (h : NoS K H v) (s : LamX.ExtN H H') : NoS K H' v := let ⟨t, a, b⟩ := NoS.ex h; ⟨t, tyx_N s a, b⟩
theorem ThV.N {K : PySem.W.Frag} {H H' : Hp} {v : V} (h : ThV K H v) (s : LamX.ExtN H H') : ThV K H' v := h.elim .inl fun h => .inr (h.N s)
theorem NoF.N {K : PySem.W.Frag} {FC : Addr} {H H' : Hp} {v : V} (h : NoF K FC H v) (s : LamX.ExtN H H') : NoF K FC H' v := let ⟨t, a, b⟩ := h; ⟨t, tyx_N s a, b⟩
theorem od_th {K : PySem.W.Frag} {H : Hp} {n : Nat} {v : V} (h : Od H (n + 1) v) (hs : ∀ z, v = .str z → z.length ≤ 100) : ThV K H v := by
  rcases h with h | ⟨a, xs, rfl, h2, _⟩ | ⟨a, xs, rfl, h2, _⟩ | ⟨a, kvs, rfl, h2, _⟩
  · cases v with
    | non => exact .inr ⟨_, .base .non, rfl⟩
    | bl b => exact .inr ⟨_, .base (.bl b), rfl⟩
    | int i => exact .inr ⟨_, .base (.int i), rfl⟩
    | str z =>
      refine .inl ⟨z.cps.toList, by rw [← str_S z], ?_⟩
      have := hs z rfl
      have e : z.cps.toList.length = z.length := by rw [Array.length_toList]; rfl
      omega
    | _ => cases h
  · exact .inr ⟨_, .base (.lst h2), rfl⟩
  · exact .inr ⟨_, .base (.tup h2), rfl⟩
  · exact .inr ⟨_, .base (.dK h2), rfl⟩
theorem al_two {H : Hp} {a b : Addr} {z : Str} {v : V} (ha : H a = some (.tup [.str z, v])) (hb : H b = some (.tup [.str z, v])) (hv : Al H 4 v v) : Al H 5 (.ref a) (.ref b) :=
  .inr (.inr (.inl ⟨a, b, _, _, rfl, rfl, ha, hb, Nat.le_of_ble_eq_true rfl, .cons (.inl ⟨rfl, rfl⟩) (.cons hv .nil)⟩))
end L2.K06
set_option Elab.async false
set_option linter.all false
set_option maxRecDepth 100000
set_option maxHeartbeats 8000000
namespace L2.K06
open PySem PySem.Spec PyProof.Rows L2.Tb
open SX (S)
abbrev s_lis_name : Stmt := top 32
abbrev N_lis_name : List Str := ["_law_thing", "_law_mark"]
theorem sc_lis_name : FnScope N_lis_name ["_law_thing"] (defScope s_lis_name) := ⟨rfl, rfl, rfl, by decide +kernel, rfl, by decide +kernel, by decide +kernel⟩
theorem lowS_eq (c : Nat) : decide (c ∈ (Str.ofString "abcdefghijklmnopqrstuvwxyz").cps.toList) = lowB c := low_eq c
theorem signS_eq (c : Nat) : decide (c ∈ (Str.ofString "abcdefghijklmnopqrstuvwxyz0123456789").cps.toList) = signB c := by
  have all : ∀ c ∈ (Str.ofString "abcdefghijklmnopqrstuvwxyz0123456789").cps.toList, signB c = true := by decide +kernel
  cases h : signB c with
  | true =>
    refine decide_eq_true ?_
    unfold signB at h
    rcases (Bool.or_eq_true _ _).mp h with h | h
    · simp only [lowB, Bool.and_eq_true, Nat.ble_eq] at h
      have e := (sign_at (c - 97) (by omega)).1
      unfold signAt at e
      rw [if_pos (by omega), show 97 + (c - 97) = c by omega] at e
      exact List.mem_of_getElem? e
    · simp only [Bool.and_eq_true, Nat.ble_eq] at h
      have e := (sign_at (c - 22) (by omega)).1
      unfold signAt at e
      rw [if_neg (by omega), show 22 + (c - 22) = c by omega] at e
      exact List.mem_of_getElem? e
  | false => exact decide_eq_false fun m => by rw [all c m] at h; cases h
def spLName (K : PySem.W.Frag) : Sp := fun vs H Q _ => ∃ v : V, vs = [v] ∧ ((∃ l : List Nat, v = .str (S l) ∧ l.length ≤ 10000 ∧ ∀ H', Same H H' → Q (.bl (nameB l)) H') ∨ (NoS K H v ∧ Q (.bl false) H))
section
variable {P : Program} {w : World} {K : PySem.W.Frag} {mg : Str → Option Value} {base : Heap} {f : Addr} {fd : FuncData}
theorem c_lis_name (T : Bt mg) (mstr : mg "str" = none) (F : FnP K "_law_is_name" s_lis_name f fd) (hm : mg "_law_is_name" = some (.ref f)) : Cal P w K mg base 1 "_law_is_name" (spLName K) := by
  have hnd := sc_lis_name.nd
  refine cal_mk F hm sc_lis_name (fun _ _ _ _ _ _ us hl => match us, hl with | [_], _ => rfl) (fun vs H Q E h => ?_) (fun cdv A outer s H vs Q E hr h => ?_)
  · obtain ⟨v, rfl, _⟩ := h
    rfl
  · obtain ⟨v, rfl, h⟩ := h
    refine ⟨_, (pss_cons (ps_if (PW.pt (pw_or (pt_not (pt_val (pe_callB call_isi (by rfl) T.m_isinstance (by decide +kernel) (pa_cons (pv 0) (pa_cons (pe_bltn (v := .ty "str") (by rfl) mstr (by decide +kernel) rfl) pa_nil))))) (pw_or (pt_not (pt_chain op_lt op_lt pe_int (pe_callB call_len_str (by rfl) T.m_len (by decide +kernel) (pa_cons (pv 0) pa_nil)) pe_int)) (pw_or1 (pt_cmpR op_notIn_sign (pe_ix ix_str (pv 0) pe_int (fun _ _ => rfl)) pe_str (by rfl))))))
      (pss_one (ps_ret pe_bl))
      pss_nil)
      (pss_one (ps_ret (pe_callB (cr_all (by rfl)) (by rfl) T.m_all (by decide +kernel) (pa_cons (pe_lc (own := [("_law_mark", 1)]) (tt := tYes) (by rfl) hnd (pi_str (pv 0)) (blkOk_by (own := [("_law_mark", 1)]) (N := N_lis_name) (sc := defScope s_lis_name) (by decide +kernel)) (fun _ _ _ _ _ => (pg_name (i := 1) hnd rfl (by first | exact Or.inl rfl | exact Or.inr rfl))) (fun _ _ _ _ _ => pts_nil) (fun _ _ _ _ _ => (pe_cmpR op_in_sign (pv 1) pe_str (by rfl)))) pa_nil))))), ?_⟩
    rcases h with ⟨l, rfl, l4, q⟩ | ⟨hb, q⟩
    · have sl := slenB (l := l) (by omega)
      refine ⟨_, rfl, _, _, _, _, _, rfl, .ty _, .base (.str _), (by rfl : PySem.W.kitOne K (.type "str") (.type "str") = some true), _, rfl, iteF ?_⟩
      refine ⟨_, rfl, _, rfl, sl, _, _, rfl, rfl, _, rfl, ?_⟩
      rw [SX.S_len]
      by_cases c1 : 1 ≤ l.length
      · rw [decide_eq_true (show (0 : Int) < (l.length : Nat) by omega)]
        refine iteT ⟨_, _, rfl, rfl, _, rfl, ?_⟩
        show if (!decide (((l.length : Nat) : Int) < 9)) = true then _ else _
        by_cases c8 : l.length ≤ 8
        · rw [decide_eq_true (show ((l.length : Nat) : Int) < 9 by omega)]
          refine iteF ?_
          obtain ⟨a, r, rfl⟩ : ∃ a r, l = a :: r := by
            cases l with
            | nil => exact absurd c1 (by decide)
            | cons a r => exact ⟨a, r, rfl⟩
          refine ⟨_, rfl, S (a :: r), 0, a, rfl, rfl, sl, atI_nat (j := 0) rfl, a, _, rfl, rfl, _, rfl, ?_⟩
          rw [lowS_eq]
          cases ca : lowB a with
          | false =>
            refine iteT ?_
            have := q H (Same.refl _)
            rw [nameB_cons a r c8, ca] at this
            exact this
          | true =>
            refine iteF ?_
            dsimp only [tNext]
            refine ret_go (cb_one ⟨_, rfl, S (a :: r), rfl, fun D nD => ?_⟩)
            refine lc_it walk_str (fun i G => Same H G ∧ G D = some (.lst (((a :: r).take i).map fun c => .bl (signB c)))) ⟨same_new nD, upd_same⟩ (fun _ _ _ _ => trivial) ?_ ?_
            · rintro i x G G' hi ⟨sg, eg⟩ ⟨rfl, c, hc, rfl⟩
              have hc' : (a :: r)[i]? = some c := by simpa using hc
              have li : i < (a :: r).length := (List.getElem?_eq_some_iff.mp hc').1
              refine ⟨rfl, ?_⟩
              unfold tYes
              dsimp only
              rw [if_pos rfl]
              refine ⟨_, rfl, c, _, rfl, rfl, ?_⟩
              rw [signS_eq]
              exact ⟨_, eg, by rw [List.length_map, List.length_take, sizeLine_eq]; omega, same_pt nD sg, by rw [upd_same, List.take_add_one, hc', List.map_append]; rfl⟩
            · rintro G ⟨sg, eg⟩
              rw [show (S (a :: r)).cps.size = (a :: r).length from by simp, List.take_length] at eg
              refine ⟨D, (a :: r).map signB, rfl, SqL.of (by rw [eg, List.map_map]; rfl), ?_⟩
              have := q G sg
              rw [nameB_cons a r c8, ca, Bool.true_and] at this
              rw [List.all_map]
              exact this
        · rw [decide_eq_false (show ¬ ((l.length : Nat) : Int) < 9 by omega)]
          refine iteT ?_
          have := q H (Same.refl _)
          rw [show nameB l = false from by
            cases e : nameB l with
            | false => rfl
            | true => exact absurd (nameB_len e).2 c8] at this
          exact this
      · rw [decide_eq_false (show ¬ (0 : Int) < (l.length : Nat) by omega)]
        refine iteF ⟨_, rfl, iteT ?_⟩
        have := q H (Same.refl _)
        rw [show l = [] from List.eq_nil_of_length_eq_zero (by omega)] at this
        exact this
    · obtain ⟨T0, ty, k⟩ := hb.ex
      exact ⟨_, rfl, _, _, _, _, _, rfl, .ty _, ty, k, _, rfl, iteT (iteT q)⟩
end
end L2.K06
set_option Elab.async false
set_option linter.all false
set_option maxRecDepth 100000
set_option maxHeartbeats 8000000
namespace L2.K06
open PySem PySem.Spec PyProof.Rows L2.Tb
open SX (S)
abbrev s_lfound : Stmt := top 39
abbrev N_lfound : List Str := ["_law_line", "_law_at", "_law_end", "_law_ahead", "_law_mark", "_law_marks", "_law_behind"]
theorem sc_lfound : FnScope N_lfound ["_law_line", "_law_at"] (defScope s_lfound) := ⟨rfl, rfl, rfl, by decide +kernel, rfl, by decide +kernel, by decide +kernel⟩
/-- what the law's reader returns -/
def FdR (H : Hp) (v : V) (t : List Nat) (r : Option (Fm × List Nat)) : Prop := match r with
  | none => ∃ T : Addr, v = .ref T ∧ H T = some (.tup [])
  | some (f, u) => ∃ (T : Addr) (tv : V), v = .ref T ∧ H T = some (.tup [tv, .int ((t.length - u.length : Nat) : Int)]) ∧ TrAt H tv f
def spFound (n : Nat) : Sp := fun vs H Q _ => ∃ (t : List Nat) (a : Nat), vs = [.str (S t), .int (a : Int)] ∧ t.length ≤ 4000 ∧ a ≤ t.length ∧ cnt 40 (t.drop a) ≤ n ∧ cnt 40 (t.drop a) ≤ 20 ∧ ∀ r H', Same H H' → FdR H' r t (fnd (n + 1) (t.drop a)) → Q r H'
def spFdA : Nat → Sp
  | 0 => fun _ _ _ _ => False
  | n + 1 => spFound n
theorem slice_S {t : List Nat} {a b : Nat} : Txt.slice (S t) (some (a : Int)) (some (b : Int)) = S ((t.drop a).take (b - a)) := by
  rw [← C8.cutS_slice]
  unfold cutS
  rw [HT.sIx_nat, HT.sIx_nat, SX.S_len]
  refine congrArg S ?_
  show (t.drop (min a t.length)).take (min b t.length - min a t.length) = _
  by_cases h : a ≤ t.length
  · rw [Nat.min_eq_left h]
    by_cases k : b ≤ t.length
    · rw [Nat.min_eq_left k]
    · rw [Nat.min_eq_right (by omega), List.take_of_length_le (by rw [List.length_drop]; omega), List.take_of_length_le (by rw [List.length_drop]; omega)]
  · rw [Nat.min_eq_right (show t.length ≤ a by omega), List.drop_of_length_le (Nat.le_refl _), List.drop_of_length_le (show t.length ≤ a by omega)]
    simp
theorem starts_S {u p : List Nat} : Txt.startswith (S u) (S p) = p.isPrefixOf u := by
  unfold Txt.startswith
  rw [PySem.StrLaws.subAt_eq, SX.S_len, SX.S_len]
  show (decide (0 + p.length ≤ u.length) && ((u.drop 0).take p.length == p)) = _
  rw [List.drop_zero]
  cases h : p.isPrefixOf u with
  | true =>
    have hp := List.isPrefixOf_iff_prefix.mp h
    have e := List.prefix_iff_eq_take.mp hp
    have := hp.length_le
    rw [decide_eq_true (by omega), ← e]
    simp
  | false =>
    cases hb : (u.take p.length == p) with
    | false => rw [Bool.and_false]
    | true =>
      have e : u.take p.length = p := beq_iff_eq.mp hb
      have : p.isPrefixOf u = true := List.isPrefixOf_iff_prefix.mpr (by rw [← e]; exact List.take_prefix _ _)
      rw [h] at this
      cases this
theorem shaped_two {f : Fm} {i : Int} (ok : f.ok = true) (hd : f.dep ≤ 60) : SeqAt.shaped (.tuple [trD f, .int i]) = true := by
  obtain ⟨a, b⟩ := trD_lay f ok
  show (PyData.canLay0 _ && decide (PyData.depth _ ≤ 64)) = true
  rw [Bool.and_eq_true]
  refine ⟨by simp only [PyData.canLay0, PyData.canLayAll0, a, Bool.and_self], decide_eq_true ?_⟩
  simp only [PyData.depth, PyData.depthAll]
  omega
theorem fil_take {α : Type} {p : α → Bool} {xs : List α} {i : Nat} {x : α} (h : xs[i]? = some x) : (xs.take (i + 1)).filter p = (xs.take i).filter p ++ (if p x = true then [x] else []) := by
  rw [get_take h, List.filter_append, List.filter_cons, List.filter_nil]
theorem tw_at : ∀ (u : List Nat) (k c : Nat), u[k]? = some c → k ≤ (u.takeWhile signB).length → (signB c = true ↔ k < (u.takeWhile signB).length)
  | [], k, c, h, _ => by simp at h
  | x :: u, k, c, h, hk => by
    by_cases hx : signB x = true
    · rw [List.takeWhile_cons, if_pos hx] at hk ⊢
      cases k with
      | zero =>
        have : x = c := by simpa using h
        subst this
        simp [hx]
      | succ k =>
        have := tw_at u k c (by simpa using h) (by simpa using hk)
        rw [this]
        simp
    · rw [List.takeWhile_cons, if_neg hx] at hk ⊢
      have k0 : k = 0 := by simpa using hk
      subst k0
      have : x = c := by simpa using h
      subst this
      simp [hx]
theorem head_take {u : List Nat} : (u.take 1 = [40]) ↔ u.head? = some 40 := by
  cases u with
  | nil => simp
  | cons c r => simp
theorem head_take1 {u : List Nat} {c : Nat} : (u.take 1 = [c]) ↔ u.head? = some c := by
  cases u with
  | nil => simp
  | cons d r => simp
section
variable {P : Program} {w : World} {K : PySem.W.Frag} {mg : Str → Option Value} {base : Heap} {f : Addr} {fd : FuncData}
theorem c_lfound_false (F : FnP K "_law_found" s_lfound f fd) (hm : mg "_law_found" = some (.ref f)) : Cal P w K mg base 1 "_law_found" (spFdA 0) :=
  ⟨f, fd, ["_law_line", "_law_at"], ⟨fun _ _ _ _ h => h.elim, fun _ _ _ _ _ _ _ _ _ _ _ _ _ h => h.elim⟩, hm, F.kp, F.bindsN fun _ _ _ _ _ _ us hl => match us, hl with | [_, _], _ => rfl⟩
theorem c_lfound_step (T : Bt mg) (k_lis_name : Cal P w K mg base 1 "_law_is_name" (spLName K)) (F : FnP K "_law_found" s_lfound f fd) (hm : mg "_law_found" = some (.ref f)) (n : Nat) (k_lfound : Cal P w K mg base (n + 1) "_law_found" (spFdA n)) : Cal P w K mg base (n + 1 + 1) "_law_found" (spFound n) := by
  have hnd := sc_lfound.nd
  refine cal_mk F hm sc_lfound (fun _ _ _ _ _ _ us hl => match us, hl with | [_, _], _ => rfl) (fun vs H Q E h => ?_) (fun cdv A outer s H vs Q E hr h => ?_)
  · obtain ⟨t, a, rfl, _⟩ := h
    rfl
  · obtain ⟨t, a, rfl, lt, ha, hc, h20, q⟩ := h
    refine ⟨_, (pss_cons (ps_if (pt_cmpR op_ne (pe_slice C8.sl_txt (pv 0) (po_some (pv 1)) (po_some (pe_op op_add (pv 1) pe_int))) pe_str (nomark _))
      (pss_cons (ps_set (i := 2) hnd rfl (by first | exact Or.inl rfl | exact Or.inr rfl) (pv 1))
      (pss_cons (ps_while PassesOwn.never (PW.pt (pw_and (pt_cmpR op_lt (pv 2) (pe_callB call_len_str (by rfl) T.m_len (by decide +kernel) (pa_cons (pv 0) pa_nil)) (nomark _)) (pw_and1 (pt_cmpR op_in_sign (pe_ix ix_str (pv 0) (pv 2) (fun _ _ => rfl)) pe_str (by rfl)))))
      (pss_one (ps_set (i := 2) hnd rfl (by first | exact Or.inl rfl | exact Or.inr rfl) (pe_op op_add (pv 2) pe_int))))
      (pss_one (ps_ret (pe_ifExp (pt_val (pe_cal k_lis_name hr (by omega) (by rfl) (pa_cons (pe_slice C8.sl_txt (pv 0) (po_some (pv 1)) (po_some (pv 2))) pa_nil))) (pe_tup (pa_cons (pe_slice C8.sl_txt (pv 0) (po_some (pv 1)) (po_some (pv 2))) (pa_cons (pv 2) pa_nil))) (pe_tup pa_nil))))))
      pss_nil)
      (pss_cons (ps_set (i := 3) hnd rfl (by first | exact Or.inl rfl | exact Or.inr rfl) (pe_cal k_lfound hr (by omega) (by rfl) (pa_cons (pv 0) (pa_cons (pe_op op_add (pv 1) pe_int) pa_nil))))
      (pss_cons (ps_if (pt_cmpR (show OpR _ (compareOp .Eq) (rEqD K) from op_eqD hr.units) (pv 3) (pe_tup pa_nil) (nomark _))
      (pss_one (ps_ret (pe_tup pa_nil)))
      pss_nil)
      (pss_cons (ps_setLc (i := 5) (own := [("_law_mark", 4)]) (by rfl) hnd rfl (by rfl) (sw_true rfl rfl rfl (by decide +kernel)) (pi_list (pe_lst (pa_cons pe_str (pa_cons pe_str (pa_cons pe_str pa_nil))))) (blkOk_by (own := [("_law_mark", 4)]) (N := N_lfound) (sc := defScope s_lfound) (by decide +kernel)) (fun _ _ _ _ _ => (pg_name (i := 4) hnd rfl (by first | exact Or.inl rfl | exact Or.inr rfl))) (fun _ _ _ _ _ => (pts_one (pt_val (pe_m1 PySem.F.slot_str_startswith PySem.F.type_str_startswith mt_startswith (pe_slice C8.sl_txt (pv 0) (po_some (pe_ix (show IxR _ (rIxT K) from ix_tup) (pv 3) pe_int (fun _ _ => rfl))) po_none) (pe_op op_add_str (pe_op op_add_str pe_str (pv 4)) pe_str))))) (fun _ _ _ _ _ => (pv 4)))
      (pss_cons (ps_if (pt_cmpR (show OpR _ (compareOp .Eq) (rEqD K) from op_eqD hr.units) (pv 5) (pe_lst pa_nil) (nomark _))
      (pss_one (ps_ret (pe_tup pa_nil)))
      pss_nil)
      (pss_cons (ps_set (i := 6) hnd rfl (by first | exact Or.inl rfl | exact Or.inr rfl) (pe_cal k_lfound hr (by omega) (by rfl) (pa_cons (pv 0) (pa_cons (pe_op op_add (pe_op op_add (pe_ix (show IxR _ (rIxT K) from ix_tup) (pv 3) pe_int (fun _ _ => rfl)) (pe_callB call_len_str (by rfl) T.m_len (by decide +kernel) (pa_cons (pe_ix (show IxR _ (rIxL K) from ix_list) (pv 5) pe_int (fun _ _ => rfl)) pa_nil))) pe_int) pa_nil))))
      (pss_cons (ps_if (PW.pt (pw_or (pt_cmpR (show OpR _ (compareOp .Eq) (rEqD K) from op_eqD hr.units) (pv 6) (pe_tup pa_nil) (nomark _)) (pw_or1 (pt_cmpR op_ne (pe_slice C8.sl_txt (pv 0) (po_some (pe_ix (show IxR _ (rIxT K) from ix_tup) (pv 6) pe_int (fun _ _ => rfl))) (po_some (pe_op op_add (pe_ix (show IxR _ (rIxT K) from ix_tup) (pv 6) pe_int (fun _ _ => rfl)) pe_int))) pe_str (nomark _)))))
      (pss_one (ps_ret (pe_tup pa_nil)))
      pss_nil)
      (pss_one (ps_ret (pe_tup (pa_cons (pe_tup (pa_cons (pe_ix (show IxR _ (rIxL K) from ix_list) (pv 5) pe_int (fun _ _ => rfl)) (pa_cons (pe_ix (show IxR _ (rIxT K) from ix_tup) (pv 3) pe_int (fun _ _ => rfl)) (pa_cons (pe_ix (show IxR _ (rIxT K) from ix_tup) (pv 6) pe_int (fun _ _ => rfl)) pa_nil)))) (pa_cons (pe_op op_add (pe_ix (show IxR _ (rIxT K) from ix_tup) (pv 6) pe_int (fun _ _ => rfl)) pe_int) pa_nil)))))))))))), ?_⟩
    have sl := slenB (l := t) (by omega)
    have c40 : Str.ofString "(" = S [40] := by decide +kernel
    refine ⟨_, rfl, _, rfl, _, rfl, _, rfl, _, _, rfl, rfl, _, rfl, S t, rfl, sl, ?_⟩
    rw [show ((a : Int) + 1) = ((a + 1 : Nat) : Int) by omega, slice_S, show a + 1 - a = 1 by omega]
    refine ⟨rfl, _, rfl, ?_⟩
    rw [c40, dec_str]
    generalize hu : t.drop a = u at hc h20 q ⊢
    have lu : u.length = t.length - a := by rw [← hu, List.length_drop]
    by_cases h40 : u.head? = some 40
    · refine iteN2 (by rw [decide_eq_true (head_take.mpr h40)]; rfl) ?_
      dsimp only [tNext]
      have hd : t.drop (a + 1) = u.drop 1 := by rw [← hu, List.drop_drop]
      have hcu : cnt 40 u = cnt 40 (u.drop 1) + 1 := by
        cases u with
        | nil => cases h40
        | cons c r =>
          have : c = 40 := Option.some.inj h40
          subst this
          unfold cnt
          rw [List.countP_cons, if_pos (by simp)]
          rfl
      have lu1 : 1 ≤ u.length := by
        cases u with
        | nil => cases h40
        | cons c r => simp
      cases n with
      | zero => omega
      | succ n =>
        have hf : fnd (n + 1 + 1) u = match fnd (n + 1) (u.drop 1) with
            | none => none
            | some (l, u1) => match markL u1 with
              | [] => none
              | s :: _ => match fnd (n + 1) (u1.drop ((sgL s).length + 2)) with
                | none => none
                | some (r, u2) => if u2.head? ≠ some 41 then none else some (.op s l r, u2.drop 1) := by
          conv => lhs; unfold fnd
          rw [if_neg (fun z => z h40)]
          first | done | rfl
        have none_ : ∀ (G : Hp), Same H G → fnd (n + 1 + 1) u = none → ∀ T : Addr, G T = none → Q (.ref T) (upd G T (.tup [])) := fun G sG e T nT => q (.ref T) _ (sG.trans (same_new nT)) (by rw [e]; exact ⟨T, rfl, upd_same⟩)
        refine ⟨_, rfl, _, rfl, _, _, rfl, rfl, t, a + 1, by rw [show ((a + 1 : Nat) : Int) = (a : Int) + 1 by omega]; rfl, lt, by omega, by rw [hd]; omega, by rw [hd]; omega, fun r1 H1 s1 fr1 => gname_go ?_⟩
        try dsimp only
        rw [hd] at fr1
        cases e1 : fnd (n + 1) (u.drop 1) with
        | none =>
          rw [e1] at fr1 hf
          obtain ⟨T1, rfl, eT1⟩ := fr1
          refine ⟨_, rfl, by show 0 ≤ sizeLine; decide, fun T nT => ?_⟩
          have s2 := s1.trans (same_new (o := .tup []) nT)
          refine ⟨.tuple [], .tuple [], .tup (SqT.of ((same_new nT) _ _ eT1)) .nil, .tup (SqT.of upd_same) .nil, by decide, by decide, _, rfl, iteT2 (by decide) ?_⟩
          exact ⟨by show 0 ≤ sizeLine; decide, fun T2 nT2 => none_ _ s2 hf T2 nT2⟩
        | some p =>
          obtain ⟨l, u1⟩ := p
          rw [e1] at fr1 hf
          dsimp only at hf
          obtain ⟨T1, v1, rfl, eT1, tr1⟩ := fr1
          obtain ⟨okl, el⟩ := fnd_sound _ _ _ _ e1
          have hlu : u.length = 1 + (l.txt.length + u1.length) := by
            have := congrArg List.length el
            rw [List.length_append, List.length_drop] at this
            omega
          have hu1 : t.drop (t.length - u1.length) = u1 := by
            have h1 : t.drop (a + 1 + l.txt.length) = u1 := by
              rw [← List.drop_drop, hd, el, List.drop_left]
            rw [show t.length - u1.length = a + 1 + l.txt.length by omega]
            exact h1
          have hcl : cnt 40 (u.drop 1) = l.ops + cnt 40 u1 := by
            rw [el]
            have := Fm.cnt_ops l okl
            unfold cnt at this ⊢
            rw [List.countP_append, this]
          have dl := Fm.dep_ops l
          refine ⟨_, rfl, by show 0 ≤ sizeLine; decide, fun T nT => ?_⟩
          have s2 := s1.trans (same_new (o := .tup []) nT)
          have eT2 := (same_new (o := .tup []) nT) _ _ eT1
          have tr2 := tr1.same (same_new (o := .tup []) nT)
          refine ⟨.tuple [trD l, .int _], .tuple [], .tup (SqT.of eT2) (.cons tr2.dp (.cons (.int _) .nil)), .tup (SqT.of upd_same) .nil, shaped_two okl (by omega), by decide, _, rfl, iteN2 (by simp [PyData.eqv, PyData.eqvAll]) ?_⟩
          dsimp only [tNext]
          generalize upd H1 T (.tup []) = H2 at s2 eT2 tr2
          -- the marks
          refine ⟨by show 3 ≤ sizeLine; decide, fun L nL => ⟨L, rfl, ⟨_, SqL.of upd_same⟩, fun D nD => ?_⟩⟩
          have sL := same_new (o := .lst signL) nL
          have eL : (upd H2 L (.lst signL)) L = some (.lst signL) := upd_same
          refine lc_list (xs := signL) (fun i G => Same (upd H2 L (.lst signL)) G ∧ G D = some (.lst ((([0, 1, 2].take i).filter fun s => ([32] ++ sgL s ++ [32]).isPrefixOf u1).map fun s => V.str (S (sgL s))))) ⟨same_new nD, upd_same⟩ (fun i G _ h => SqL.of (h.1 _ _ eL)) ?_ ?_
          · rintro i x G hi ⟨sG, eG⟩
            have li : i < 3 := (List.getElem?_eq_some_iff.mp hi).1
            rw [sign_ofk i li] at hi
            obtain rfl := Option.some.inj hi
            have c32 : Str.ofString " " = S [32] := by decide +kernel
            have sgl := sgL_len i
            refine ⟨rfl, ?_⟩
            refine ⟨_, rfl, _, rfl, T1, _, _, .int _, rfl, rfl, SqT.of (sG _ _ (sL _ _ eT2)), atI_nat (j := 1) rfl, _, rfl, S t, rfl, sl, ⟨_, rfl⟩, ?_⟩
            refine ⟨_, rfl, ?_⟩
            rw [c32]
            refine ⟨_, _, rfl, rfl, (by rw [SX.S_len, SX.S_len, sizeLine_eq]; simp only [List.length_singleton]; omega), ?_⟩
            rw [SX.S_cat]
            refine ⟨_, _, rfl, rfl, (by rw [SX.S_len, SX.S_len, sizeLine_eq]; simp only [List.length_append, List.length_singleton]; omega), ?_⟩
            rw [SX.S_cat]
            refine ⟨_, _, rfl, rfl, _, rfl, ?_⟩
            rw [SX.slice_from (by omega), show (((t.length - u1.length : Nat) : Int)).toNat = t.length - u1.length from rfl, hu1, starts_S]
            have hg : ([0, 1, 2] : List Nat)[i]? = some i := by
              rcases (show i = 0 ∨ i = 1 ∨ i = 2 by omega) with rfl | rfl | rfl <;> rfl
            dsimp only
            cases hb : ([32] ++ sgL i ++ [32]).isPrefixOf u1 with
            | true => exact iteT ⟨_, rfl, _, eG, by rw [List.length_map, sizeLine_eq]; exact Nat.lt_of_le_of_lt (List.length_filter_le _ _) (by rw [List.length_take]; omega), same_pt nD sG, by rw [upd_same, fil_take hg, if_pos hb, List.map_append]; rfl⟩
            | false => exact iteF ⟨sG, by rw [eG, fil_take hg, if_neg (by rw [hb]; decide), List.append_nil]⟩
          rintro G ⟨sG, eG⟩
          refine gname_go ?_
          try dsimp only
          replace eG : G D = some (.lst ((markL u1).map fun s => V.str (S (sgL s)))) := eG
          have s3 := (s2.trans sL).trans sG
          have eT3 := sG _ _ (sL _ _ eT2)
          have tr3 := (tr2.same sL).same sG
          clear eL sL nL nD sG eT2 tr2 s2 s1 eT1 tr1
          cases em : markL u1 with
          | nil =>
            rw [em] at eG hf
            refine ⟨_, rfl, by show 0 ≤ sizeLine; decide, fun T nT => ?_⟩
            have s4 := s3.trans (same_new (o := .lst []) nT)
            refine ⟨.list [], .list [], .lst (SqL.of ((same_new nT) _ _ eG)) .nil, .lst (SqL.of upd_same) .nil, by decide, by decide, _, rfl, iteT2 (by decide) ?_⟩
            exact ⟨by show 0 ≤ sizeLine; decide, fun T2 nT2 => none_ _ s4 hf T2 nT2⟩
          | cons s ms =>
            obtain ⟨hs, b1⟩ := mark_of (u := u1) (s := s) (by rw [em]; exact List.mem_cons_self)
            have em1 : markL u1 = [s] := by
              rw [b1]
              exact mark_sg s hs _
            rw [em1] at em eG hf
            dsimp only at hf
            have sgl := sgL_len s
            have lb : u1.length = (sgL s).length + 2 + (u1.drop ((sgL s).length + 2)).length := by
              have := congrArg List.length b1
              simp only [List.length_append, List.length_singleton] at this
              omega
            refine ⟨_, rfl, by show 0 ≤ sizeLine; decide, fun T nT => ?_⟩
            have s4 := s3.trans (same_new (o := .lst []) nT)
            have eG4 := (same_new (o := .lst []) nT) _ _ eG
            have eT4 := (same_new (o := .lst []) nT) _ _ eT3
            have tr4 := tr3.same (same_new (o := .lst []) nT)
            have shS : SeqAt.shaped (.list [.str (S (sgL s))]) = true := by
              show (PyData.canLay0 _ && decide (PyData.depth _ ≤ 64)) = true
              rw [Bool.and_eq_true]
              exact ⟨by simp only [PyData.canLay0, PyData.canLayAll0, strOk_of (sgL_asc s), Bool.and_self], decide_eq_true (by simp [PyData.depth, PyData.depthAll])⟩
            refine ⟨.list [.str (S (sgL s))], .list [], .lst (SqL.of eG4) (.cons (.str _) .nil), .lst (SqL.of upd_same) .nil, shS, by decide, _, rfl, iteN2 (by simp [PyData.eqv, PyData.eqvAll]) ?_⟩
            dsimp only [tNext]
            generalize upd G T (.lst []) = G4 at s4 eG4 eT4 tr4
            clear s3 eG eT3 tr3 nT
            have hd2 : t.drop (t.length - u1.length + (sgL s).length + 2) = u1.drop ((sgL s).length + 2) := by
              rw [show t.length - u1.length + (sgL s).length + 2 = (t.length - u1.length) + ((sgL s).length + 2) by omega, ← List.drop_drop, hu1]
            have hc2 : cnt 40 (u1.drop ((sgL s).length + 2)) ≤ cnt 40 u1 := (List.drop_sublist _ _).countP_le
            refine ⟨_, rfl, _, rfl, T1, _, _, .int _, rfl, rfl, SqT.of eT4, atI_nat (j := 1) rfl, _, rfl, D, _, _, .str (S (sgL s)), rfl, rfl, SqL.of eG4, atI_nat (j := 0) rfl, S (sgL s), rfl, by rw [SX.S_len, sizeLine_eq]; omega, _, _, rfl, rfl, _, _, rfl, rfl, t, t.length - u1.length + (sgL s).length + 2, ?_, lt, by omega, by rw [hd2]; omega, by rw [hd2]; omega, fun r2 H5 s5 fr2 => gname_go ?_⟩
            · show [V.str (S t), V.int (((t.length - u1.length : Nat) : Int) + (((S (sgL s)).length : Nat) : Int) + 2)] ++ [] = _
              rw [SX.S_len, show ((t.length - u1.length : Nat) : Int) + (((sgL s).length : Nat) : Int) + 2 = ((t.length - u1.length + (sgL s).length + 2 : Nat) : Int) by omega]
              rfl
            try dsimp only
            rw [hd2] at fr2
            have s45 := s4.trans s5
            have eG5 := s5 _ _ eG4
            have eT5 := s5 _ _ eT4
            have tr5 := tr4.same s5
            clear s4 eG4 eT4 tr4
            cases e2 : fnd (n + 1) (u1.drop ((sgL s).length + 2)) with
            | none =>
              rw [e2] at fr2 hf
              obtain ⟨T2, rfl, eT2⟩ := fr2
              refine ⟨_, rfl, by show 0 ≤ sizeLine; decide, fun T nT => ?_⟩
              have s6 := s45.trans (same_new (o := .tup []) nT)
              refine ⟨.tuple [], .tuple [], .tup (SqT.of ((same_new nT) _ _ eT2)) .nil, .tup (SqT.of upd_same) .nil, by decide, by decide, _, rfl, iteT2 (by decide) (iteT ?_)⟩
              exact ⟨by show 0 ≤ sizeLine; decide, fun T3 nT3 => none_ _ s6 hf T3 nT3⟩
            | some p2 =>
              obtain ⟨r, u2⟩ := p2
              rw [e2] at fr2 hf
              dsimp only at hf
              obtain ⟨T2, v2, rfl, eT2, tr2⟩ := fr2
              obtain ⟨okr, er⟩ := fnd_sound _ _ _ _ e2
              have hlr : (u1.drop ((sgL s).length + 2)).length = r.txt.length + u2.length := by rw [er, List.length_append]
              have hcr : cnt 40 (u1.drop ((sgL s).length + 2)) = r.ops + cnt 40 u2 := by
                rw [er]
                have := Fm.cnt_ops r okr
                unfold cnt at this ⊢
                rw [List.countP_append, this]
              have dr := Fm.dep_ops r
              have hu2 : t.drop (t.length - u2.length) = u2 := by
                have h1 : t.drop (t.length - u1.length + (sgL s).length + 2 + r.txt.length) = u2 := by
                  rw [← List.drop_drop, hd2, er, List.drop_left]
                rw [show t.length - u2.length = t.length - u1.length + (sgL s).length + 2 + r.txt.length by omega]
                exact h1
              refine ⟨_, rfl, by show 0 ≤ sizeLine; decide, fun T nT => ?_⟩
              have s6 := s45.trans (same_new (o := .tup []) nT)
              have sT := same_new (o := .tup []) nT
              have eT6 := sT _ _ eT2
              refine ⟨.tuple [trD r, .int _], .tuple [], .tup (SqT.of eT6) (.cons ((tr2.same sT).dp) (.cons (.int _) .nil)), .tup (SqT.of upd_same) .nil, shaped_two okr (by omega), by decide, _, rfl, iteN2 (by simp [PyData.eqv, PyData.eqvAll]) ?_⟩
              have c41 : Str.ofString ")" = S [41] := by decide +kernel
              refine ⟨_, rfl, _, rfl, T2, _, _, .int _, rfl, rfl, SqT.of eT6, atI_nat (j := 1) rfl, _, rfl, _, rfl, T2, _, _, .int _, rfl, rfl, SqT.of eT6, atI_nat (j := 1) rfl, _, _, rfl, rfl, _, rfl, S t, rfl, sl, ?_⟩
              rw [show ((t.length - u2.length : Nat) : Int) + 1 = ((t.length - u2.length + 1 : Nat) : Int) by omega, slice_S, hu2, show t.length - u2.length + 1 - (t.length - u2.length) = 1 by omega]
              refine ⟨rfl, _, rfl, ?_⟩
              rw [c41, dec_str]
              by_cases h41 : u2.head? = some 41
              · rw [if_neg (fun z => z h41)] at hf
                have lu2 : 1 ≤ u2.length := by
                  cases u2 with
                  | nil => cases h41
                  | cons c r => simp
                refine iteN2 (by rw [decide_eq_true (head_take1.mpr h41)]; rfl) ?_
                dsimp only [tNext]
                have eG6 := sT _ _ eG5
                have eT16 := sT _ _ eT5
                refine ⟨_, rfl, D, _, _, .str (S (sgL s)), rfl, rfl, SqL.of eG6, atI_nat (j := 0) rfl, _, rfl, T1, _, _, v1, rfl, rfl, SqT.of eT16, atI_nat (j := 0) rfl, _, rfl, T2, _, _, v2, rfl, rfl, SqT.of eT6, atI_nat (j := 0) rfl, by show 3 ≤ sizeLine; decide, fun R nR => ?_⟩
                have sR := same_new (o := .tup [.str (S (sgL s)), v1, v2]) nR
                refine ⟨_, rfl, T2, _, _, .int _, rfl, rfl, SqT.of (sR _ _ eT6), atI_nat (j := 1) rfl, _, _, rfl, rfl, by show 2 ≤ sizeLine; decide, fun R2 nR2 => ?_⟩
                refine q (.ref R2) _ ((s6.trans sR).trans (same_new nR2)) ?_
                rw [hf]
                refine ⟨R2, .ref R, rfl, ?_, ?_⟩
                · rw [upd_same]
                  show some (HO.tup [V.ref R, V.int (((t.length - u2.length : Nat) : Int) + 1)]) = _
                  rw [show ((t.length - u2.length : Nat) : Int) + 1 = ((t.length - (u2.drop 1).length : Nat) : Int) by rw [List.length_drop]; omega]
                · have sR2 := same_new (o := .tup [V.ref R, .int (((t.length - u2.length : Nat) : Int) + 1)]) nR2
                  exact (TrAt.op (s := s) upd_same ((tr5.same sT).same sR) ((tr2.same sT).same sR)).same sR2
              · rw [if_pos h41] at hf
                refine iteT2 (by rw [decide_eq_false fun z => h41 (head_take1.mp z)]; rfl) ?_
                exact ⟨by show 0 ≤ sizeLine; decide, fun T3 nT3 => none_ _ s6 hf T3 nT3⟩
    · refine iteT2 (by rw [decide_eq_false fun z => h40 (head_take.mp z)]; rfl) ?_
      have hf : fnd (n + 1) u = if nameB (u.takeWhile signB) = true then some (.lt (u.takeWhile signB), u.drop (u.takeWhile signB).length) else none := by
        conv => lhs; unfold fnd
        rw [if_pos h40]
      generalize hw : u.takeWhile signB = ws at hf
      have hpre : ws ++ u.drop ws.length = u := by rw [← hw]; exact take_drop_while
      have htk : u.take ws.length = ws := by
        conv => lhs; rw [← hpre]
        exact List.take_left
      have lw : ws.length ≤ u.length := by
        have := congrArg List.length hpre
        rw [List.length_append] at this
        omega
      refine ⟨_, rfl, gname_go ?_⟩
      try dsimp only
      have cA : Str.ofString "abcdefghijklmnopqrstuvwxyz0123456789" = Str.ofString "abcdefghijklmnopqrstuvwxyz0123456789" := rfl
      refine ⟨fun m σ G => G = H ∧ ∃ k : Nat, k + m = ws.length ∧ σ = [some (.str (S t)), some (.int (a : Int)), some (.int ((a + k : Nat) : Int)), none, none, none, none], ⟨ws.length, rfl, 0, by omega, rfl⟩, ?_⟩
      rintro m σ G ⟨rfl, k, hk, rfl⟩
      refine ⟨_, rfl, _, rfl, _, rfl, sl, _, _, rfl, rfl, _, rfl, ?_⟩
      rw [SX.S_len]
      by_cases c1 : a + k < t.length
      · refine iteT2 (decide_eq_true (by omega)) ?_
        obtain ⟨c, hc0⟩ : ∃ c, t[a + k]? = some c := ⟨_, List.getElem?_eq_getElem c1⟩
        have huk : u[k]? = some c := by rw [← hu, List.getElem?_drop]; exact hc0
        refine ⟨_, rfl, _, rfl, S t, _, c, rfl, rfl, sl, atI_nat hc0, ?_⟩
        refine ⟨c, _, rfl, rfl, _, rfl, ?_⟩
        rw [signS_eq]
        have ht := tw_at u k c huk (by rw [hw]; omega)
        rw [hw] at ht
        cases hb : signB c with
        | true =>
          have kl := ht.mp hb
          refine iteT ⟨fun σ' G' => G' = G ∧ ∃ k' : Nat, k' + (m - 1) = ws.length ∧ σ' = [some (.str (S t)), some (.int (a : Int)), some (.int ((a + k' : Nat) : Int)), none, none, none, none], fun σ' H' h => ⟨m - 1, by omega, h⟩, ?_⟩
          refine ⟨_, rfl, _, _, rfl, rfl, rfl, k + 1, by omega, ?_⟩
          rw [show ((a + (k + 1) : Nat) : Int) = ((a + k : Nat) : Int) + 1 by omega]
          rfl
        | false =>
          have ke : k = ws.length := by
            have : ¬ k < ws.length := fun z => by
              rw [ht.mpr z] at hb
              cases hb
            omega
          refine iteF ?_
          subst ke
          refine ⟨_, rfl, _, rfl, _, rfl, _, rfl, _, rfl, S t, rfl, sl, ?_⟩
          rw [slice_S, hu, show a + ws.length - a = ws.length by omega, htk]
          refine ⟨_, rfl, .inl ⟨ws, rfl, by omega, fun H1 s1 => ⟨_, rfl, ?_⟩⟩⟩
          cases hn : nameB ws with
          | true =>
            rw [hn, if_pos rfl] at hf
            refine iteT ⟨_, rfl, _, rfl, _, rfl, _, rfl, _, rfl, S t, rfl, sl, ?_⟩
            rw [slice_S, hu, show a + ws.length - a = ws.length by omega, htk]
            refine ⟨_, rfl, by show 2 ≤ sizeLine; decide, fun T nT => q (.ref T) _ (s1.trans (same_new nT)) ?_⟩
            rw [hf]
            refine ⟨T, .str (S ws), rfl, ?_, .lt⟩
            rw [upd_same, show ((a + ws.length : Nat) : Int) = ((t.length - (u.drop ws.length).length : Nat) : Int) by rw [List.length_drop]; omega]
          | false =>
            rw [hn, if_neg (by decide)] at hf
            refine iteF ⟨by show 0 ≤ sizeLine; decide, fun T nT => q (.ref T) _ (s1.trans (same_new nT)) ?_⟩
            rw [hf]
            exact ⟨T, rfl, upd_same⟩
      · refine iteN2 (decide_eq_false (by omega)) (iteF ?_)
        have ke : k = ws.length := by omega
        subst ke
        refine ⟨_, rfl, _, rfl, _, rfl, _, rfl, _, rfl, S t, rfl, sl, ?_⟩
        rw [slice_S, hu, show a + ws.length - a = ws.length by omega, htk]
        refine ⟨_, rfl, .inl ⟨ws, rfl, by omega, fun H1 s1 => ⟨_, rfl, ?_⟩⟩⟩
        cases hn : nameB ws with
        | true =>
          rw [hn, if_pos rfl] at hf
          refine iteT ⟨_, rfl, _, rfl, _, rfl, _, rfl, _, rfl, S t, rfl, sl, ?_⟩
          rw [slice_S, hu, show a + ws.length - a = ws.length by omega, htk]
          refine ⟨_, rfl, by show 2 ≤ sizeLine; decide, fun T nT => q (.ref T) _ (s1.trans (same_new nT)) ?_⟩
          rw [hf]
          refine ⟨T, .str (S ws), rfl, ?_, .lt⟩
          rw [upd_same, show ((a + ws.length : Nat) : Int) = ((t.length - (u.drop ws.length).length : Nat) : Int) by rw [List.length_drop]; omega]
        | false =>
          rw [hn, if_neg (by decide)] at hf
          refine iteF ⟨by show 0 ≤ sizeLine; decide, fun T nT => q (.ref T) _ (s1.trans (same_new nT)) ?_⟩
          rw [hf]
          exact ⟨T, rfl, upd_same⟩
theorem c_lfound (T : Bt mg) (k_lis_name : Cal P w K mg base 1 "_law_is_name" (spLName K)) (F : FnP K "_law_found" s_lfound f fd) (hm : mg "_law_found" = some (.ref f)) : ∀ n, Cal P w K mg base (n + 1 + 1) "_law_found" (spFound n)
  | 0 => c_lfound_step T k_lis_name F hm 0 (c_lfound_false F hm)
  | n + 1 => c_lfound_step T k_lis_name F hm (n + 1) (c_lfound T k_lis_name F hm n)
end
end L2.K06
set_option Elab.async false
set_option linter.all false
set_option maxRecDepth 100000
set_option maxHeartbeats 4000000
/-! x.split(y) where x wants a token; xs[-k:] = ys -/
namespace L2.Tb
open PySem PySem.Spec PyProof.Rows CwR
section
variable {X : Cx} {o e : Expr} {to te : TE} {apos pos : Pos}
def tSplit (to te : TE) : TE := tM1 (fun x xs H Q => ∃ a b, x = .str a ∧ xs = [.str b] ∧ (b.length == 0) = false ∧ a.length + 2 ≤ sizeLine ∧ rNewStrs (Txt.split a b) H Q) to te
theorem pet_split (ho : PET X o to) (he : PE X e te) (hs : starEach [e] X.env = [(false, eval e X.env)] := by rfl) (hbase : attributeBase o "split" X.env (eval o X.env) = eval o X.env := by rfl) (hline : (apos.endLine == pos.line) = true := by rfl) :
    PET X (.Call (.Attribute o "split" apos) [e] [] pos) (tSplit to te) := by
  intro pins s σ H Q h0 I h
  refine PySem.Call_method1 hbase hs hline (thn (ho pins s σ H _ h0 I h) fun v s1 ⟨x, H1, I1, r1, q1⟩ => ?_)
  obtain ⟨⟨a, rfl⟩, q1⟩ := q1
  obtain ⟨t, rfl⟩ := _root_.id r1
  refine ⟨"str", _, F.plainAttrs_str, F.slot_str_split, F.type_str_split, typeIs_str _ _ _, (fun _ e => nomatch e), Calls.callWith_builtin rfl (Calls.evalArgs_plain (Calls.spliced_cons ?_))⟩
  exact thn (he.run pins s1 σ H1 _ I1 q1) fun u s2 ⟨y, H2, I2, r2, q2⟩ => Calls.spliced_nil (mt_split pins s2 σ H2 _ [y] _ [u] Q I2 r1 (.cons r2 .nil) q2)
end
theorem bounds_tail (k n : Nat) (hk : 1 ≤ k) : sliceBounds (some (-(k : Int))) none none n = (((n - k : Nat) : Int), (n : Int), 1) := by
  simp only [sliceBounds, Option.getD_none]
  have h1 : (-(k : Int)) < 0 := by omega
  simp only [h1, if_true, show (1 : Int) > 0 by decide]
  congr 1
  omega
section
variable {prog : Program} {w : World} {A : Around} {E : Value → Shared → Prop} {s : Shared}
theorem setItem_tail {l b sl : Addr} {items new : Array Value} {n n2 : Nat} {vl : Value} {k : Nat} {Q : Unit → Shared → Prop}
    (e : s.heap.get? l = some { cls := .type "list", data := .seq items n }) (e2 : s.heap.get? b = some { cls := .type "list", data := .seq new n2 }) (hne : l ≠ b)
    (hs : s.heap.IsSliceOf sl vl .none .none) (pl : IsPart vl (some (-(k : Int)))) (hk : 1 ≤ k)
    (hsz : items.size + new.size ≤ sizeLine) (h : Q () { s with heap := s.heap.update l (Obj.mapSeq fun xs => xs.extract 0 (items.size - k) ++ new ++ xs.extract items.size xs.size) }) :
    wpAny (model prog w) A (setItem (.ref l) (.ref sl) (.ref b)) Q E s := by
  have hl : s.heap.IsList l items := PySem.IsL.isList e
  have hb : s.heap.IsList b new := PySem.IsL.isList e2
  obtain ⟨os, hos, hcs, hds⟩ := id hs
  have hTs : s.TypeIs (.ref sl) "slice" := ⟨os, hos, hcs⟩
  have hstep : ¬ ((rawPart none == rawInt 0) = true) := Bool.false_ne_true
  have hsame : Builtin.List.listSameRef (.ref l) (.ref b) = false := by
    unfold Builtin.List.listSameRef
    exact beq_eq_false_iff_ne.mpr hne
  have hmax : (max ((items.size - k : Nat) : Int) (items.size : Int)).toNat = items.size := by omega
  have hz' : ((fun xs : Array Value => xs.extract 0 (items.size - k) ++ new ++ xs.extract items.size xs.size) items).size ≤ sizeLine + 1 := by
    simp only [Array.size_append, Array.size_extract]
    omega
  unfold setItem
  try with_reducible refine wpAny_holding ?_
  first | refine wpAny_bind (wpAny_pure ?_) | skip
  refine wpAny_bind (wpAny_sequenceKey hl.typeIs (by decide) ?_)
  refine wpAny_bind (wpAny_callSpecial?_slot (name := Str.ofString "__setitem__") hl.typeIs slot_list_setitem
    (wpAny_call_entry slot_list_setitem hl.typeIs entry_list_setitem ?_ (args_list_setitem _ _ _)))
  show wpAny _ _ (Builtin.List.listSubscript? (.ref sl) >>= _) _ _ s
  refine wpAny_bind ?_
  unfold Builtin.List.listSubscript?
  refine wpAny_bind (wpAny_specialOf hTs slice_no_index ?_)
  simp only [Option.isNone_none, if_true]
  refine wpAny_pure ?_
  show wpAny _ _ (typeOf (.ref sl) >>= _) _ _ s
  refine wpAny_bind (wpAny_typeOf hTs ?_)
  first
    | rw [if_neg (by decide)]
    | refine PySem.W.KFB.if_not (by decide) ?_
  rw [listSliceParts_eq]
  refine wpAny_bind (wpAny_bind (wpAny_field hos hds (x := .none) rfl (wpAny_bind (wpAny_listPart .none ?_))))
  rw [if_neg hstep]
  refine wpAny_bind (wpAny_field hos hds (x := vl) rfl (wpAny_bind (wpAny_listPart pl ?_)))
  refine wpAny_bind (wpAny_field hos hds (x := .none) rfl (wpAny_bind (wpAny_listPart .none (wpAny_pure ?_))))
  first
    | simp only [hsame, Bool.false_eq_true, if_false]
    | refine PySem.W.KFB.if_not hsame ?_
  refine wpAny_bind (m := Builtin.List.listAllItems (.ref b) "must assign iterable to extended slice") ?_
  unfold Builtin.List.listAllItems
  refine wpAny_bind (wpAny_typeOf hb.typeIs ?_)
  first
    | refine PySem.W.KFB.if_so (by decide) ?_
    | rw [if_pos (by decide)]
  unfold Builtin.List.listItems
  refine wpAny_bind (wpAny_seqItems e2 rfl (wpAny_pure ?_))
  refine wpAny_bind (wpAny_bind (wpAny_seqItems e rfl (wpAny_pure ?_)))
  refine wpAny_bind (wpAny_of_eq ((sliceIndices_raw (some (-(k : Int))) none none items.size (by simp)).trans (congrArg (pure : Int × Int × Int → Sem (Int × Int × Int)) (bounds_tail k items.size hk))) ?_)
  show wpAny _ _ (if ((1 : Int) == 1) = true then _ else _) _ _ s
  rw [if_pos (by decide)]
  refine wpAny_bind (wpAny_rule ?_)
  first
    | simp only [notLongL hsz, Bool.false_eq_true, if_false]
    | refine PySem.W.KFB.if_not (notLongL hsz) ?_
  first | refine wpAny_bind (wpAny_pure ?_) | skip
  show wpAny _ _ (updateSeq l (fun xs => xs.extract 0 (((items.size - k : Nat) : Int)).toNat ++ new ++ xs.extract (max ((items.size - k : Nat) : Int) (items.size : Int)).toNat xs.size) >>= _) _ _ s
  rw [hmax, Int.toNat_natCast]
  refine wpAny_bind (wpAny_updateSeq (hz := Nat.le_trans (Nat.le_add_right _ _) hsz) (_hz' := hz') e rfl ?_)
  refine wpAny_bind (wpAny_letGo ?_)
  first
    | exact wpAny_bind (wpAny_pure (wpAny_pure ⟨.none, rfl, wpAny_pure h⟩))
    | exact wpAny_pure ⟨.none, rfl, wpAny_pure h⟩
end
section
variable {X : Cx} {o lo : Expr} {to : TE} {tl : TO} {p2 pos : Pos}
/-- o[-k:] = the list v -/
def gTail (to : TE) (tl : TO) : TG := fun v σ H Q => to σ H fun x H1 => tl σ H1 fun i H2 => ∃ (l b : Addr) (xs ys : List V) (k : Nat), x = .ref l ∧ v = .ref b ∧ i = some (-(k : Int)) ∧ 1 ≤ k ∧ H2 l = some (.lst xs) ∧ H2 b = some (.lst ys) ∧ l ≠ b ∧ xs.length + ys.length ≤ sizeLine ∧ Q σ (upd H2 l (.lst (xs.take (xs.length - k) ++ ys)))
theorem pg_tail (ho : PE X o to) (hl : PO X (some lo) tl)
    (ha : ∀ v, assign (.Subscript o (.Slice (some lo) none none p2) pos) X.env v = (do
      let ov ← holding [v] (eval o X.env)
      let iv ← holding [v, ov] (eval (.Slice (some lo) none none p2) X.env)
      standAt pos
      holding [v, ov, iv] (setItem ov iv v)
      release [iv, v, ov] []) := by intro _; rfl) : PG X (.Subscript o (.Slice (some lo) none none p2) pos) (gTail to tl) := by
  refine ⟨fun pins s σ H v u Q I r h => ?_⟩
  rw [ha]
  refine wpAny_bind (wpAny_holding (thn (ho.run pins s σ H _ I h) fun ov s1 ⟨x, H1, I1, r1, q1⟩ => ?_))
  refine wpAny_bind (wpAny_holding (wpAny_Slice (thn (hl.run pins s1 σ H1 _ I1 q1) fun vl s2 ⟨i, H2, I2, pl, q2⟩ => ?_)))
  rw [evalPart_none]
  refine wpAny_pure (wpAny_pure ?_)
  obtain ⟨l, b, xs, ys, k, rfl, rfl, rfl, hk, eH, eB, hne, hz, q⟩ := q2
  obtain rfl : ov = Value.ref l := r1
  obtain rfl : u = Value.ref b := r
  have I4 : Inv X pins σ H2 { s2 with heap := s2.heap.push { cls := .type "slice", data := .fields #[vl, .none, .none] } } := I2.kept (t' := s2.toks) fun b ob q => Heap.get?_push_of_some _ q
  refine wpAny_bind (wpAny_standAt (wpAny_bind (wpAny_holding ?_)))
  obtain ⟨z, its, n, rv, hlx, e⟩ := I4.lstM eH
  obtain ⟨z2, its2, n2, rv2, hl2, e2⟩ := I4.lstM eB
  refine setItem_tail (k := k) e e2 hne (Heap.IsSliceOf.new ..) pl hk (by rw [List.size_toArray, List.size_toArray]; omega) ?_
  refine wpAny_release ⟨σ, _, ?_, q⟩
  have eL : xs.length = its.length := rv.length
  refine I4.lset (its' := its.take (xs.length - k) ++ its2) (t' := s2.toks) eH e ?_ (Vals.append (rv.take _) rv2) ?_
  · show its.toArray.extract 0 (its.toArray.size - k) ++ its2.toArray ++ its.toArray.extract its.toArray.size its.toArray.size = _
    rw [splice_eq, List.size_toArray, List.drop_length, List.append_nil, eL]
  · rw [List.length_append, List.length_take]
    omega
end
end L2.Tb
set_option Elab.async false
set_option linter.all false
set_option maxRecDepth 100000
set_option maxHeartbeats 4000000
/-! y not in x by x's own __contains__; == by one rule or by another -/
namespace L2.Tb
open PySem PySem.Spec PyProof.Rows
section
variable {X : Cx} {C f : Addr} {fd : FuncData} {ps : List Str} {sp : Sp} {k : Nat}
def rOwnNotIn (C : Addr) (sp : Sp) : R2 := fun v y H Q => ∃ (a dx : Addr) (fs : List (Str × V)), y = .ref a ∧ H a = some (.ins C dx fs) ∧ sp [.ref a, v] H (fun r H' => ∃ b, r = .bl b ∧ Q (.bl (!b)) H') E0
theorem op_ownNotIn (F : FnOk X.prog X.w X.K X.mg X.base L2.CX0 k f fd ps sp) (hr : Room k X.A) (hs : PySem.W.findIn X.K (.ref C) "__contains__" = some (some (.ref f))) (hf : PySem.W.isFn X.K (.ref f) = true) (hb : Binds X.K fd ps []) : OpR X (compareOp .NotIn) (rOwnNotIn C sp) := by
  intro pins s σ H x y v u Q I rx ry h
  obtain ⟨a, dx, fs, rfl, ea, h⟩ := h
  obtain rfl : u = Value.ref a := ry
  obtain ⟨mA, O, _⟩ := ins_get I.hok ea
  obtain ⟨od, J, _⟩ := O.look
  obtain ⟨m, hF⟩ := I.fr
  have hl := F.len _ _ _ _ h
  refine PySem.W.notIn_K hF I.ok.mod.kin J hs hf (wpAny_call (codeAny_mono (F.run X.A X.stack s H ⟨[.ref a, v], []⟩ [.ref a, v] [.ref a, x] _ E0 hr I.env0 (by
    have z := hb s [.ref a, v] I.kIn (by simpa using hl)
    simpa using z) (.cons rfl (.cons rx .nil)) h) fun r s' hq => ?_))
  match r, hq with
  | .error e, hq => exact hq.elim
  | .ok (.ret u), hq =>
    obtain ⟨v2, H', I', rv, b, ev, q⟩ := I.after hq
    rw [ev] at rv
    obtain rfl : u = Value.bool b := rv
    exact wpAny_truthy_bool ⟨.bl (!b), H', I', rfl, q⟩
/-- one of two rules -/
theorem op_or2 {op : Value → Value → Sem Value} {r1 r2 : R2} (h1 : OpR X op r1) (h2 : OpR X op r2) : OpR X op (fun x y H Q => r1 x y H Q ∨ r2 x y H Q) := by
  intro pins s σ H x y v u Q I rx ry h
  rcases h with h | h
  · exact h1 pins s σ H x y v u Q I rx ry h
  · exact h2 pins s σ H x y v u Q I rx ry h
end
end L2.Tb
set_option Elab.async false
set_option linter.all false
set_option maxRecDepth 100000
set_option maxHeartbeats 4000000
/-! x not in t: x an instance with an own __eq__, t a tuple of texts -/
namespace L2.Tb
open PySem PySem.Spec PyProof.Rows PySem.W
open PySem.Builtin.Str in
theorem str_eq_declines_ins (b : Str) (u : Tok) (l : Addr) (c : Value) (dd : Option Addr) (sl : Array (Option Value)) :
    Meets (Builtin.«str.__eq__» ⟨[.str b u, .ref l], []⟩) (fun _ R s => s.heap.get? l = some { cls := c, dict := dd, data := .plain, slots := sl } ∧ R (.ok (.ret .notImplemented)) s) :=
  .of_wp fun prog w A R s h => by obtain ⟨hp, g, d, tk, os⟩ := s; obtain ⟨hl, h⟩ := h; wp_walk using wpAny_loadPart' hl, wpAny_load hl; exact ⟨_, rfl, h⟩
section
variable {prog : Program} {w : World} {A : Around} {E : Value → Shared → Prop} {s : Shared} {K : Frag} {x C L f : Addr} {hp : Heap} {m : Str → Option Value} {ox : Obj} {od : Option Obj} {z : Str} {t : Tok}
theorem eq_str_own {Q : Value → Shared → Prop} (hu : A.units < cLine) (hFr : Fr hp L s.heap m) (X₀ : K.In hp) (I : InstAt s.heap x ox C od) (hd : ox.data = .plain) (hsub : subIn K (.ref C) (.type "str") = some false)
    (hs : findIn K (.ref C) "__eq__" = some (some (.ref f))) (hf : isFn K (.ref f) = true)
    (h : wpAny (model prog w) A (call (.ref f) [.ref x, .str z t]) (PySem.W.CmpBack Q) E s) : wpAny (model prog w) A (richCompare .Eq (.str z t) (.ref x)) Q E s := by
  have X := X₀.keeps hFr.keep
  have two : wpAny (model prog w) A (tryCompare (.ref x) (Str.ofString "__eq__") (.str z t)) (fun r s' => ∃ v, r = some v ∧ Q v s') E s := by
    unfold tryCompare
    refine wpAny_bind (ifBound_K X I hs hf (wpAny_mono h (fun v s' hv => ?_) fun _ _ e => e))
    cases v <;> first | exact hv.elim | exact wpAny_pure ⟨_, rfl, hv⟩
  have hty := typeIs_str s z t
  simp only [richCompare, cmpInfo, hty.oneThing_none]
  try with_reducible refine wpAny_holding ?_
  refine wpAny_bind (wpAny_cRoomFor_or (.inr hu) ?_)
  refine wpAny_bind (wpAny_typeOf hty (wpAny_bind (I.type.here ?_)))
  rw [if_pos (show (Value.type "str" != Value.ref C) = true from rfl)]
  refine wpAny_bind ((looks_subIn X hsub).here ?_)
  simp only [Bool.false_eq_true, if_false, Bool.not_false, if_true]
  obtain ⟨c, dd, dt, sl⟩ := ox
  simp only at hd
  subst hd
  refine wpAny_bind (m := tryCompare (.str z t) _ (.ref x)) (wpAny_tryCompare_declines hty PySem.F.slot_str_eq (call_meets PySem.F.slot_str_eq hty PySem.F.entry_str_eq (PySem.F.args_str_eq_2 _ _) (str_eq_declines_ins z t x c dd sl) ⟨I.at_, rfl, ?_⟩))
  refine wpAny_bind (m := tryCompare (.ref x) _ (.str z t)) (wpAny_mono two (fun r s' hv => ?_) fun _ _ e => e)
  obtain ⟨v, rfl, q⟩ := hv
  exact wpAny_pure q
end
section
variable {prog : Program} {w : World} {A : Around}
theorem notIn_tupleG {E : Value → Shared → Prop} {s : Shared} {l : Addr} {items : Array Value} {x : Value} {Q : Value → Shared → Prop} (e : Value → Bool) (J : Shared → Prop) (hl : s.heap.IsTuple l items)
    (turn : ∀ y, y ∈ items → ∀ s, J s → wpAny (model prog w) A.in1 (eqBool y x) (fun r s' => r = e y ∧ J s') E s) (fin : ∀ s, J s → Q (.bool (!(items.any e))) s) (h : J s) : wpAny (model prog w) A (compareOp .NotIn x (.ref l)) Q E s := by
  obtain ⟨⟨cls, dd, data, sl⟩, ho, hc, n, hd⟩ := id hl
  simp only at hc hd
  subst hc hd
  show wpAny _ A (do return .bool (!(← contains (.ref l) x))) Q E s
  refine wpAny_bind (wpAny_contains_slot (T := "tuple") ⟨_, ho, rfl⟩ PySem.F.slot_tuple_contains (wpAny_mono (GQ.call_here PySem.F.slot_tuple_contains ⟨_, ho, rfl⟩ PySem.F.entry_tuple_contains (PySem.F.args_tuple_contains_2 _ _) (Q := fun v s' => ∃ b, v = .bool b ∧ Q (.bool (!b)) s') (tuple_containsG (R := wants (fun v s' => ∃ b, v = .bool b ∧ Q (.bool (!b)) s') E) l items n dd sl x e J turn (fun s' q => ⟨_, rfl, fin s' q⟩) ho h)) (fun v s' hv => ?_) fun _ _ e => e))
  obtain ⟨b, rfl, hq⟩ := hv
  exact wpAny_truthy_bool (wpAny_pure hq)
end
section
variable {X : Cx} {C f : Addr} {fd : FuncData} {ps : List Str} {sp : Sp} {k : Nat}
/-- x not in t, t a tuple of texts: x equals none of them -/
def rNotInE (K : PySem.W.Frag) (C : Addr) (sp : Sp) : R2 := fun x y H Q => ∃ (a ax dx : Addr) (fx : List (Str × V)) (zs : List Str), y = .ref a ∧ SqT K H a (zs.map V.str) ∧ x = .ref ax ∧ H ax = some (.ins C dx fx) ∧
  (∀ z ∈ zs, ∀ G, Same H G → sp [.ref ax, .str z] G (fun v G' => v = .bl false ∧ Same H G') E0) ∧ ∀ H', Same H H' → Q (.bl true) H'
theorem op_notInE (F : FnOk X.prog X.w X.K X.mg X.base L2.CX0 k f fd ps sp) (hr : Room (k + 1) X.A) (hsub : subIn X.K (.ref C) (.type "str") = some false) (hs : PySem.W.findIn X.K (.ref C) "__eq__" = some (some (.ref f))) (hf : PySem.W.isFn X.K (.ref f) = true) (hb : Binds X.K fd ps []) : OpR X (compareOp .NotIn) (rNotInE X.K C sp) := by
  intro pins s σ H x y v u Q I rx ry h
  obtain ⟨a, ax, dx, fx, zs, rfl, hS, rfl, eax, heq, q⟩ := h
  obtain rfl : v = Value.ref ax := rx
  obtain rfl : u = Value.ref a := ry
  obtain ⟨its, rv, ht, _⟩ := I.tuple hS
  have hst : ∀ y ∈ its, ∃ z t, z ∈ zs ∧ y = Value.str z t := fun y hy => by
    obtain ⟨i, hi⟩ := List.getElem?_of_mem hy
    have li : i < its.length := (List.getElem?_eq_some_iff.mp hi).1
    have li2 : i < (zs.map V.str).length := by rw [rv.length]; exact li
    obtain ⟨w, ew, rw'⟩ := rv.get (List.getElem?_eq_getElem li2)
    rw [hi] at ew
    obtain rfl := Option.some.inj ew
    rw [List.getElem_map] at rw'
    obtain ⟨t, et⟩ := rw'
    exact ⟨_, t, List.getElem_mem _, et⟩
  refine notIn_tupleG (fun _ => false) (fun s' => ∃ H', Inv X pins σ H' s' ∧ Same H H') ht (fun y hy s' hJ => ?_) (fun s' hJ => ?_) ⟨H, I, Same.refl _⟩
  · obtain ⟨H1, I1, s1⟩ := hJ
    obtain ⟨z, t, hz, rfl⟩ := hst y (by simpa using hy)
    unfold eqBool
    refine wpAny_holding ?_
    rw [if_neg (by simp)]
    refine wpAny_bind (wpAny_mono (?_ : wpAny _ _ _ (fun v s'' => ∃ b, v = Value.bool b ∧ b = false ∧ ∃ H', Inv X pins σ H' s'' ∧ Same H H') _ _) (fun v s'' hv => ?_) fun _ _ e => e)
    · obtain ⟨mB, O', _⟩ := ins_get I1.hok (s1 _ _ eax)
      obtain ⟨od', J', _⟩ := O'.look
      obtain ⟨m, hF⟩ := I1.fr
      have hsp := heq z hz H1 s1
      have hl := F.len _ _ _ _ hsp
      refine eq_str_own (hr.in1.units0) hF I1.ok.mod.kin J' rfl hsub hs hf (wpAny_call (codeAny_mono (F.run X.A.in1 X.stack s' H1 ⟨[.ref ax, .str z t], []⟩ [.ref ax, .str z t] [.ref ax, .str z] _ E0 hr.in1 I1.env0.in1 (by
        have y := hb s' [.ref ax, .str z t] I1.kIn (by simpa using hl)
        simpa using y) (.cons rfl (.cons ⟨t, rfl⟩ .nil)) hsp) fun r s2 hq => ?_))
      match r, hq with
      | .error e, hq => exact hq.elim
      | .ok (.ret u2), hq =>
        obtain ⟨v2, H', I', rv2, ev, sm⟩ := I1.after hq
        rw [ev] at rv2
        obtain rfl : u2 = Value.bool false := rv2
        exact ⟨false, rfl, rfl, H', I', sm⟩
    · obtain ⟨b, rfl, rfl, hq⟩ := hv
      exact wpAny_truthy_bool ⟨rfl, hq⟩
  · obtain ⟨H1, I1, s1⟩ := hJ
    refine ⟨.bl true, H1, I1, ?_, q H1 s1⟩
    show Value.bool _ = Value.bool true
    rw [show (its.toArray.any fun _ => false) = false from by simp]
    rfl
end
end L2.Tb
set_option Elab.async false
set_option linter.all false
set_option maxRecDepth 100000
set_option maxHeartbeats 8000000
namespace L2.K06
open PySem PySem.Spec PyProof.Rows L2.Tb
open SX (S)
abbrev s_closed : Stmt := top 23
abbrev N_closed : List Str := ["words", "start", "left", "sign", "right", "_"]
theorem sc_closed : FnScope N_closed ["words"] (defScope s_closed) := ⟨rfl, rfl, rfl, by decide +kernel, rfl, by decide +kernel, by decide +kernel⟩
abbrev s_parsed : Stmt := top 22
abbrev N_parsed : List Str := ["text", "stack", "word"]
theorem sc_parsed : FnScope N_parsed ["text"] (defScope s_parsed) := ⟨rfl, rfl, rfl, by decide +kernel, rfl, by decide +kernel, by decide +kernel⟩
/-- an item of the stack in the heap -/
inductive ItmAt (FC : Addr) (H : Hp) : V → Itm → Prop where
  | wd (w : List Nat) : ItmAt FC H (.str (S w)) (.wd w)
  | fm {a : Addr} {f : Fm} : FmAt FC H a f → ItmAt FC H (.ref a) (.fm f)
  | no : ItmAt FC H .non .no
theorem ItmAt.same {FC : Addr} {H H' : Hp} {v : V} {x : Itm} (h : ItmAt FC H v x) (s : Same H H') : ItmAt FC H' v x := by
  cases h with
  | wd w => exact .wd w
  | fm h => exact .fm (h.same s)
  | no => exact .no
theorem ItmAt.B {FC p : Addr} {H H' : Hp} {v : V} {x : Itm} (h : ItmAt FC H v x) (s : SameB p H H') (hp : ∃ xs, H p = some (.lst xs)) : ItmAt FC H' v x := by
  cases h with
  | wd w => exact .wd w
  | fm h => exact .fm (h.B s hp)
  | no => exact .no
def spClosed (FC : Addr) : Sp := fun vs H Q _ => ∃ (L : Addr) (xs : List V) (its : List Itm), vs = [.ref L] ∧ H L = some (.lst xs) ∧ Paired (ItmAt FC H) xs its ∧ (∀ x ∈ its, x.ok = true) ∧ wtS its ≤ 8 ∧ ∀ v H', Same H H' → ItmAt FC H' v (closeI its) → Q v H'
theorem close_len {its : List Itm} (h : its.length ≠ 5) : closeI its = .no := by
  unfold closeI
  split
  · exact absurd rfl h
  · rfl
def signsS : List Str := ["*", "//", ">>"]
theorem in_signs : ∀ b : List Nat, inV (.str (S b)) (signsS.map V.str) = (sgOf b).isSome := by
  intro b
  have e : signsS = [[42], [47, 47], [62, 62]].map S := by decide +kernel
  rw [e, List.map_map]
  have := inV_names (a := b) (ls := [[42], [47, 47], [62, 62]])
  refine this.trans ?_
  unfold sgOf
  by_cases h1 : b = [42]
  · rw [if_pos h1, decide_eq_true (by rw [h1]; simp)]; rfl
  · rw [if_neg h1]
    by_cases h2 : b = [47, 47]
    · rw [if_pos h2, decide_eq_true (by rw [h2]; simp)]; rfl
    · rw [if_neg h2]
      by_cases h3 : b = [62, 62]
      · rw [if_pos h3, decide_eq_true (by rw [h3]; simp)]; rfl
      · rw [if_neg h3, decide_eq_false (by simp [h1, h2, h3])]; rfl
section
variable {P : Program} {w : World} {K : PySem.W.Frag} {mg : Str → Option Value} {base : Heap} {f fi aS : Addr} {fd fdi : FuncData} {FC CInvalidName CNotAFormula CTooMany : Addr}
theorem c_closed (T : Bt mg) (FF : FoF K mg FC) (hsi : mg "SIGNS" = some (.ref aS)) (tsi : ∀ H, SqT K H aS (signsS.map V.str)) (hks : PySem.W.kitOne K (.type "str") (.ref FC) = some false) (hkn : PySem.W.kitOne K (.type "NoneType") (.ref FC) = some false) (hns : PySem.W.notFirst K FC (.type "str") = true)
    (hsub : PySem.W.subIn K (.ref FC) (.type "str") = some false) (QQ : SpcM P w K mg base L2.CX0 FC "__eq__" ["self", "other"] 1 (spFeq K FC)) (hne : PySem.W.findIn K (.ref FC) "__ne__" = some (some (.builtin "object.__ne__")))
    (FM : Mk K FC fi) (FiF : FnOk P w K mg base L2.CX0 6 fi fdi ["self", "sign", "name", "left", "right"] (spFinit FC)) (BiF : Binds K fdi ["self", "sign", "name", "left", "right"] []) (F : FnP K "_closed" s_closed f fd) (hm : mg "_closed" = some (.ref f)) : Cal P w K mg base 8 "_closed" (spClosed FC) := by
  have hnd := sc_closed.nd
  obtain ⟨fe_, fde, he, hef, Fe, Be⟩ := QQ
  refine cal_mk F hm sc_closed (fun _ _ _ _ _ _ us hl => match us, hl with | [_], _ => rfl) (fun vs H Q E h => ?_) (fun cdv A outer s H vs Q E hr h => ?_)
  · obtain ⟨L, xs, its, rfl, _⟩ := h
    rfl
  · obtain ⟨L, xs, its, rfl, eL, px, oks, w8, q⟩ := h
    refine ⟨_, (pss_cons (ps_if (pt_cmpR op_ne (pe_callB call_len_seq (by rfl) T.m_len (by decide +kernel) (pa_cons (pv 0) pa_nil)) pe_int (nomark _))
      (pss_one (ps_ret pe_non))
      pss_nil)
      (pss_cons (ps_asg (pv 0) (pg_lst (by rfl) (pgs_cons (pg_name (i := 1) hnd rfl (by first | exact Or.inl rfl | exact Or.inr rfl)) (pgs_cons (pg_name (i := 2) hnd rfl (by first | exact Or.inl rfl | exact Or.inr rfl)) (pgs_cons (pg_name (i := 3) hnd rfl (by first | exact Or.inl rfl | exact Or.inr rfl)) (pgs_cons (pg_name (i := 4) hnd rfl (by first | exact Or.inl rfl | exact Or.inr rfl)) (pgs_cons (pg_name (i := 5) hnd rfl (by first | exact Or.inl rfl | exact Or.inr rfl)) pgs_nil)))))))
      (pss_cons (ps_if (PW.pt (pw_or (pt_cmpR (show OpR _ (compareOp .NotEq) (fun x y H Q => rNe x y H Q ∨ rOwnNe K FC (spFeq K FC) x y H Q) from op_or2 op_ne (op_ownNe Fe (hr.mono (by omega)) FF.ex.hm hne he hef Be)) (pv 1) pe_str (nomark _)) (pw_or (pt_cmpR (show OpR _ (compareOp .NotIn) (fun x y H Q => rIn K true x y H Q ∨ rNotInE K FC (spFeq K FC) x y H Q) from op_or2 op_notIn_seq (op_notInE Fe (hr.mono (by omega)) hsub he hef Be)) (pv 3) (pe_glob (v := .ref aS) (by rfl) hsi rfl) (by rfl)) (pw_or (pt_not (pt_val (pe_callB call_isi (by rfl) T.m_isinstance (by decide +kernel) (pa_cons (pv 2) (pa_cons (pe_glob (v := .ref FC) (by rfl) FF.mgF rfl) pa_nil))))) (pw_or1 (pt_not (pt_val (pe_callB call_isi (by rfl) T.m_isinstance (by decide +kernel) (pa_cons (pv 4) (pa_cons (pe_glob (v := .ref FC) (by rfl) FF.mgF rfl) pa_nil))))))))))
      (pss_one (ps_ret pe_non))
      pss_nil)
      (pss_one (ps_ret (pe_make FM FiF (hr.mono (by omega)) (by rfl) FF.mgF BiF .nil pass0 (pa_cons (pv 3) (pa_cons pe_non (pa_cons (pv 2) (pa_cons (pv 4) pa_nil)))))))))), ?_⟩
    refine ⟨_, rfl, L, xs, rfl, .inl (SqL.of eL), rfl, _, rfl, ?_⟩
    by_cases c5 : its.length = 5
    · obtain ⟨i0, i1, i2, i3, i4, rfl⟩ : ∃ a b c d e, its = [a, b, c, d, e] := by
        match its, c5 with
        | [a, b, c, d, e], _ => exact ⟨a, b, c, d, e, rfl⟩
      cases px with
      | cons r0 px => cases px with
        | cons r1 px => cases px with
          | cons r2 px => cases px with
            | cons r3 px => cases px with
              | cons r4 px =>
                cases px
                rename_i v0 v1 v2 v3 v4
                have ni : ∀ {v x}, ItmAt FC H v x → (∀ g, x ≠ .fm g) → ∃ t, TyX K H v (.type t) ∧ PySem.W.kitOne K (.type t) (.ref FC) = some false := fun {v x} r hx => by
                  cases r with
                  | wd w => exact ⟨"str", .base (.str _), hks⟩
                  | fm _ => exact absurd rfl (hx _)
                  | no => exact ⟨"NoneType", .base .non, hkn⟩
                refine iteN2 rfl ?_
                refine ⟨_, rfl, L, _, rfl, SqL.of eL, rfl, _, _, rfl, _, _, rfl, _, _, rfl, _, _, rfl, _, _, rfl, rfl, ?_⟩
                try dsimp only
                have c40 : Str.ofString "(" = S [40] := by decide +kernel
                have bad : closeI [i0, i1, i2, i3, i4] = .no → Q .non H := fun e => q .non H (Same.refl _) (by rw [e]; exact .no)
                have nof : ∀ z : Str, NoF K FC H (.str z) := fun z => ⟨_, .base (.str z), hks⟩
                have nof2 : ∀ (G : Hp) (z : Str), NoF K FC G (.str z) := fun G z => ⟨_, .base (.str z), hks⟩
                refine ⟨_, rfl, ?_⟩
                cases r0 with
                | no => exact .inl ⟨rfl, _, rfl, iteT2 rfl (iteT (bad rfl))⟩
                | fm h0 =>
                  obtain ⟨dx, fs, e⟩ := h0.ins
                  exact .inr ⟨_, dx, fs, .type "str", rfl, e, .base (.str _), hns, _, _, .str _, rfl, h0, .inr ⟨nof _, _, rfl, _, rfl, iteT2 rfl (iteT (bad rfl))⟩⟩
                | wd a =>
                  refine .inl ⟨rfl, _, rfl, ?_⟩
                  rw [c40, dec_str]
                  by_cases ca : a = [40]
                  · refine iteN2 (by rw [decide_eq_true ca]; rfl) ?_
                    subst ca
                    refine ⟨_, rfl, ?_⟩
                    cases r2 with
                    | no => exact .inl ⟨aS, _, rfl, .inr (tsi _), rfl, by decide +kernel, _, rfl, iteT2 (by decide +kernel) (iteT (bad (by cases i1 <;> cases i3 <;> rfl)))⟩
                    | fm h2 =>
                      obtain ⟨dx, fs, e⟩ := h2.ins
                      exact .inr ⟨aS, _, dx, fs, signsS, rfl, tsi _, rfl, e, fun z hz G sG => ⟨_, _, .str z, rfl, h2.same sG, .inr ⟨nof2 G z, rfl, sG⟩⟩, fun H' s' => ⟨_, rfl, iteT (iteT (q .non H' s' (by rw [show closeI [.wd [40], i1, .fm _, i3, i4] = .no from by cases i1 <;> cases i3 <;> rfl]; exact .no)))⟩⟩
                    | wd b =>
                      refine .inl ⟨aS, _, rfl, .inr (tsi _), rfl, by decide +kernel, _, rfl, ?_⟩
                      rw [if_pos rfl, in_signs]
                      cases hb : sgOf b with
                      | none => exact iteT2 rfl (iteT (bad (by cases i1 <;> cases i3 <;> simp [closeI, hb])))
                      | some s0 =>
                        refine iteN2 rfl ?_
                        cases r1 with
                        | wd _ => exact ⟨_, rfl, _, _, _, _, _, rfl, .own FC, .base (.str _), hks, _, rfl, iteT (iteT (bad rfl))⟩
                        | no => exact ⟨_, rfl, _, _, _, _, _, rfl, .own FC, .base .non, hkn, _, rfl, iteT (iteT (bad rfl))⟩
                        | fm h1 =>
                          refine ⟨_, rfl, _, _, _, _, _, rfl, .own FC, h1.ty FF, FF.self, _, rfl, iteF ?_⟩
                          cases r3 with
                          | wd _ => exact ⟨_, rfl, _, _, _, _, _, rfl, .own FC, .base (.str _), hks, _, rfl, iteT (bad rfl)⟩
                          | no => exact ⟨_, rfl, _, _, _, _, _, rfl, .own FC, .base .non, hkn, _, rfl, iteT (bad rfl)⟩
                          | fm h3 =>
                            refine ⟨_, rfl, _, _, _, _, _, rfl, .own FC, h3.ty FF, FF.self, _, rfl, iteF ?_⟩
                            dsimp only [tNext]
                            obtain ⟨hs0, rfl⟩ := sgOf_ok hb
                            rename_i a1 l a3 r
                            have okl : l.ok = true := oks (.fm l) (by simp)
                            have okr : r.ok = true := oks (.fm r) (by simp)
                            have lw : l.ops + r.ops ≤ 90 := by
                              simp only [wtS, List.map_cons, List.map_nil, List.sum_cons, List.sum_nil, Itm.wt] at w8
                              omega
                            refine ⟨_, rfl, _, rfl, _, rfl, fun x dx nx ndx nex => ?_⟩
                            have sx := new_same (FC := FC) nx ndx
                            exact ⟨x, dx, _, _, _, _, rfl, upd_same, .inr ⟨s0, l, r, a1, a3, rfl, rfl, rfl, rfl, h1.same sx, h3.same sx, okl, okr, lw, fun H' of hf => ⟨rfl, q (.ref x) H' (new_off nx ndx of) (by rw [show closeI [.wd [40], .fm l, .wd (sgL s0), .fm r, i4] = .fm (.op s0 l r) from by simp [closeI, hb]]; exact .fm hf)⟩⟩⟩
                  · exact iteT2 (by rw [decide_eq_false ca]; rfl) (iteT (bad (by cases i1 <;> cases i2 <;> cases i3 <;> simp [closeI, ca])))
    · refine iteT2 ?_ (q .non H (Same.refl _) (by rw [close_len c5]; exact .no))
      rw [px.length]
      exact congrArg (fun b => !b) (decide_eq_false fun z => c5 (by injection z with z; omega))
end
/-! ### _parsed -/
theorem psst_nox {X : Cx} {st : List Stmt} {t : TS} (h : PSsT X.nox st t) : PSsT X st t := fun pins s σ H D h0 I hw =>
  wpAny_mono (h pins s σ H D h0 (I.wish _) hw) (fun _ _ q => q.unwish) fun _ _ z => False.elim z
theorem cal_mkT {P : Program} {w : World} {K : PySem.W.Frag} {mg : Str → Option Value} {base : Heap} {x : Str} {st : Stmt} {f : Addr} {fd : FuncData} {N ps : List Str} {k : Nat} {sp : Sp} (F : FnP K x st f fd) (hm : mg x = some (.ref f)) (S : FnScope N ps (defScope st))
    (hb : ∀ (kV doc pm : Value) (an : Option Addr) (cdv ct : Value) (us : List Value), us.length = ps.length → bindArgs (PySem.W.fnOf x x (defArgs st) (defBody st) (defScope st) .none kV doc pm an cdv ct) ⟨us, []⟩ = pure (ps.zip us))
    (hnc : ∀ y ∈ (defScope st).names, y.2 ≠ .cell) (hps : 1 ≤ ps.length) (len : ∀ vs H Q E, sp vs H Q E → vs.length = ps.length)
    (hbody : ∀ (cdv : Value) (A : Around) (outer : List Env) (s : Shared) (H : Hp) (vs : List V) (Q : VK) (E : XK), Room k (A.deeper (envOfC x (defScope st) s.heap.objs.size f cdv)) → sp vs H Q E →
      ∃ t, PSsT (cxOf L2.CX0 P w K mg base N x (defScope st) f cdv A outer s H E).nox (defBody st) t ∧ t { nx := fun _ H' => Q .non H', rt := Q } (start N vs) H) : Cal P w K mg base (k + 1) x sp := by
  refine ⟨f, fd, ps, ?_, hm, F.kp, F.bindsN hb⟩
  obtain ⟨oc, od, dV, kV, doc, pm, an, cdv, ct, osl, rfl, lk, hcd, _, _⟩ := id F.ex
  exact fn_ofT lk hcd S hnc hps len fun A outer s H vs Q E hr h => let ⟨t, a, b⟩ := hbody cdv A outer s H vs Q E hr h; ⟨t, psst_nox a, b⟩
/-- what _parsed returns -/
def PrR (FC : Addr) (H : Hp) (v : V) (r : Option Fm) : Prop := match r with | some f => ∃ a, v = .ref a ∧ FmAt FC H a f | none => v = .non
def spParsed (K : PySem.W.Frag) (FC : Addr) : Sp := fun vs H Q _ => ∃ v, vs = [v] ∧ ((∃ t : List Nat, v = .str (S t) ∧ t.length ≤ 4000 ∧ ∀ r H', Same H H' → PrR FC H' r (parsedF t) → Q r H') ∨ (NoS K H v ∧ Q .non H))
theorem sbs_len {c : Nat} {z : List Nat} (hz : z.length = 2) : ∀ a : List Nat, (sbs c z a).length ≤ 2 * a.length
  | [] => Nat.le_refl _
  | x :: a => by
    have ih := sbs_len (c := c) hz a
    unfold sbs at ih ⊢
    rw [List.flatMap_cons, List.length_append, List.length_cons]
    split
    · omega
    · simp only [List.length_singleton]; omega
theorem repW_len : ∀ t : List Nat, (repW t).length ≤ 2 * t.length
  | [] => Nat.le_refl _
  | c :: t => by
    have ih := repW_len t
    rw [show c :: t = [c] ++ t from rfl, repW_app, List.length_append, List.length_append, List.length_singleton]
    have h1 : (repW [c]).length ≤ 2 := by
      by_cases h : c = 40
      · subst h; decide
      · by_cases k : c = 41
        · subst k; decide
        · unfold repW
          rw [sbs_no (c := 40) (by simp [Ne.symm h]), sbs_no (c := 41) (by simp [Ne.symm k])]
          simp
    omega
theorem spl_word : ∀ (a acc : List Nat), ∀ w ∈ TL.spl [32] 0 acc a, w.length ≤ acc.length + a.length
  | [], acc, w, hw => by
    rw [TL.spl_nil] at hw
    rw [List.mem_singleton.mp hw]
    exact Nat.le_add_right _ _
  | x :: a, acc, w, hw => by
    cases h : TL.pre [32] (x :: a) with
    | true =>
      rw [TL.spl_hit h] at hw
      rcases List.mem_cons.mp hw with rfl | hw
      · exact Nat.le_add_right _ _
      · have := spl_word a [] w hw
        simp only [List.length_nil, List.length_cons] at this ⊢
        omega
    | false =>
      rw [TL.spl_miss h] at hw
      have := spl_word a _ w hw
      simp only [List.length_append, List.length_cons, List.length_nil] at this ⊢
      omega
theorem spl_cnt (c : Nat) (hc : c ≠ 32) : ∀ (a acc : List Nat), ((TL.spl [32] 0 acc a).map (cnt c)).sum = cnt c acc + cnt c a
  | [], acc => by rw [TL.spl_nil]; simp [cnt]
  | x :: a, acc => by
    cases h : TL.pre [32] (x :: a) with
    | true =>
      have e : x = 32 := of_decide_eq_true (by rw [← pre_one (r := a)]; exact h)
      rw [TL.spl_hit h, List.map_cons, List.sum_cons]
      show cnt c acc + ((TL.spl [32] 0 [] a).map (cnt c)).sum = _
      rw [spl_cnt c hc a []]
      subst e
      unfold cnt
      rw [List.countP_cons, if_neg (by simp [Ne.symm hc])]
      simp
    | false =>
      rw [TL.spl_miss h, spl_cnt c hc a]
      unfold cnt
      rw [List.countP_append, List.countP_cons, List.countP_cons, List.countP_nil]
      omega
theorem sbs_cnt {c : Nat} {z : List Nat} (hz : cnt 40 z = if c = 40 then 1 else 0) : ∀ a : List Nat, cnt 40 (sbs c z a) = cnt 40 a
  | [] => rfl
  | x :: a => by
    have ih := sbs_cnt hz a
    unfold sbs cnt at *
    rw [List.flatMap_cons, List.countP_append, ih, List.countP_cons]
    by_cases h : x = c
    · subst h
      rw [if_pos rfl, hz]
      by_cases k : x = 40
      · simp [k]; omega
      · simp [k]
    · rw [if_neg h]
      simp [List.countP_cons]
      omega
theorem words_cnt (t : List Nat) : ((wordsT t).map (cnt 40)).sum = cnt 40 t := by
  unfold wordsT
  rw [spl_cnt 40 (by decide)]
  unfold repW
  rw [sbs_cnt (by decide), sbs_cnt (by decide)]
  simp [cnt]
theorem run_wt : ∀ (ws : List (List Nat)) (st : List Itm), (∀ x ∈ st, x.ok = true) → wtS (runI st ws) ≤ wtS st + (ws.map (cnt 40)).sum ∧ (runI st ws).length ≤ st.length + ws.length
  | [], st, _ => ⟨by simp [runI], by simp [runI]⟩
  | w :: ws, st, h => by
    obtain ⟨h1, h2, h3, _⟩ := step_ok (w := w) h
    obtain ⟨h4, h5⟩ := run_wt ws _ h1
    rw [runI_cons]
    simp only [List.map_cons, List.sum_cons, List.length_cons]
    omega
theorem run_snoc (st : List Itm) (ws : List (List Nat)) (w : List Nat) : runI st (ws ++ [w]) = stepI (runI st ws) w := by
  unfold runI
  rw [List.foldl_append]
  rfl
theorem cut_tail5 (xs : List V) : cutV xs (some (-5)) none = xs.drop (xs.length - 5) := by
  have e1 : HT.sIx xs.length 0 (some (-5)) = xs.length - 5 := by
    unfold HT.sIx
    simp
    omega
  have e2 : HT.sIx xs.length xs.length none = xs.length := by
    unfold HT.sIx
    rfl
  unfold cutV
  rw [e1, e2]
  exact List.take_of_length_le (by rw [List.length_drop]; exact Nat.le_refl _)
theorem pdr {α β : Type} {R : α → β → Prop} : ∀ (n : Nat) {xs : List α} {ys : List β}, Paired R xs ys → Paired R (xs.drop n) (ys.drop n)
  | 0, _, _, h => h
  | n + 1, _, _, .nil => .nil
  | n + 1, _, _, .cons _ h => pdr n h
theorem ptk {α β : Type} {R : α → β → Prop} : ∀ (n : Nat) {xs : List α} {ys : List β}, Paired R xs ys → Paired R (xs.take n) (ys.take n)
  | 0, _, _, _ => .nil
  | n + 1, _, _, .nil => .nil
  | n + 1, _, _, .cons a h => .cons a (ptk n h)
section
variable {P : Program} {w : World} {K : PySem.W.Frag} {mg : Str → Option Value} {base : Heap} {f fi aS : Addr} {fd fdi : FuncData} {FC CInvalidName CNotAFormula CTooMany : Addr}
theorem c_parsed (T : Bt mg) (mstr : mg "str" = none) (FF : FoF K mg FC) (mo : ∃ t, mg "MOST_OPERATIONS" = some (.int 8 t)) (hks : PySem.W.kitOne K (.type "str") (.ref FC) = some false) (hkn : PySem.W.kitOne K (.type "NoneType") (.ref FC) = some false)
    (SS : SpcM P w K mg base L2.CX0 FC "__str__" ["self"] 1 (spFstr FC)) (k_is_name : Cal P w K mg base 1 "is_name" (spIsName K)) (x_letter : CalX P w K mg base 8 "letter" (spLetter K FC CInvalidName)) (k_closed : Cal P w K mg base 8 "_closed" (spClosed FC)) (F : FnP K "_parsed" s_parsed f fd) (hm : mg "_parsed" = some (.ref f)) : Cal P w K mg base 9 "_parsed" (spParsed K FC) := by
  have hnd := sc_parsed.nd
  obtain ⟨tmo, hmo⟩ := mo
  obtain ⟨fs_, fds, hs, hsf, Fs, Bs⟩ := SS
  refine cal_mkT F hm sc_parsed (fun _ _ _ _ _ _ us hl => match us, hl with | [_], _ => rfl) (by decide +kernel) (by decide) (fun vs H Q E h => ?_) (fun cdv A outer s H vs Q E hr h => ?_)
  · obtain ⟨v, rfl, _⟩ := h
    rfl
  · obtain ⟨v, rfl, h⟩ := h
    refine ⟨_, (psst_cons (PST.of (ps_if (PW.pt (pw_or (pt_not (pt_val (pe_callB call_isi (by rfl) T.m_isinstance (by decide +kernel) (pa_cons (pv 0) (pa_cons (pe_bltn (v := .ty "str") (by rfl) mstr (by decide +kernel) rfl) pa_nil))))) (pw_or1 (pt_cmpR op_gt (pe_m1 PySem.F.slot_str_count PySem.F.type_str_count mt_count (pv 0) pe_str) (pe_glob (v := .int 8) (by rfl) hmo ⟨_, rfl⟩) (nomark _)))))
      (pss_one (ps_ret pe_non))
      pss_nil))
      (psst_cons (PST.of (ps_set (i := 1) hnd rfl (by first | exact Or.inl rfl | exact Or.inr rfl) (pe_lst pa_nil)))
      (psst_cons (pst_for PassesOwn.never (by rfl) (pit_list (pet_split (CwR.pet_replT (CwR.pet_replC (pv 0))) pe_str)) (pg_name (i := 2) hnd rfl (by first | exact Or.inl rfl | exact Or.inr rfl))
      (pss_cons (ps_expr (pe_bm PySem.F.plainAttrs_list PySem.F.slot_list_append PySem.F.type_list_append mt_append (pv 1) (pa_cons (pe_ifExp (pt_val (pe_cal k_is_name hr (by omega) (by rfl) (pa_cons (pv 2) pa_nil))) (pe_calX x_letter hr (by omega) (by rfl) pass_none (pa_cons (pv 2) pa_nil)) (pv 2)) pa_nil)))
      (pss_one (ps_if (pt_cmpR op_eq (pv 2) pe_str (nomark _))
      (pss_one (ps_asg (pe_lst (pa_cons (pe_cal k_closed hr (by omega) (by rfl) (pa_cons (pe_slice sl_list (pv 1) (po_some (pe_un un_neg pe_int)) po_none) pa_nil)) pa_nil)) (pg_tail (pv 1) (po_some (pe_un un_neg pe_int)))))
      pss_nil))))
      (PSsT.of (pss_cons (ps_if (PW.pt (pw_and (pt_val (pe_callB call_isi (by rfl) T.m_isinstance (by decide +kernel) (pa_cons (pe_ix (show IxR _ (rIxL K) from ix_list) (pv 1) pe_int (fun _ _ => rfl)) (pa_cons (pe_glob (v := .ref FC) (by rfl) FF.mgF rfl) pa_nil)))) (pw_and1 (pt_cmpR op_eq (pe_callTy (show CallR _ (.type "str") (rStrOwn FC (spFstr FC)) from call_strOwn Fs (hr.mono (by omega)) hs hsf Bs) (by rfl) mstr (by decide +kernel) (pa_cons (pe_ix (show IxR _ (rIxL K) from ix_list) (pv 1) pe_int (fun _ _ => rfl)) pa_nil)) (pv 0) (nomark _)))))
      (pss_one (ps_ret (pe_ix (show IxR _ (rIxL K) from ix_list) (pv 1) pe_int (fun _ _ => rfl))))
      pss_nil)
      (pss_one (ps_ret pe_non))))))), ?_⟩
    rcases h with ⟨t, rfl, lt, q⟩ | ⟨⟨ty, tyx, kn⟩, q⟩
    · refine ⟨_, rfl, _, _, _, _, _, rfl, .ty _, .base (.str _), (by rfl : PySem.W.kitOne K (.type "str") (.type "str") = some true), _, rfl, iteF ?_⟩
      have c40 : Str.ofString "(" = S [40] := by decide +kernel
      have c41 : Str.ofString ")" = S [41] := by decide +kernel
      have c4s : Str.ofString "( " = S [40, 32] := by decide +kernel
      have cs4 : Str.ofString " )" = S [32, 41] := by decide +kernel
      have c32 : Str.ofString " " = S [32] := by decide +kernel
      refine ⟨_, rfl, ⟨_, rfl⟩, _, _, rfl, rfl, ?_⟩
      rw [c40, count_S (by decide)]
      refine ⟨_, _, rfl, rfl, _, rfl, ?_⟩
      by_cases c8 : 8 < cnt 40 t
      · refine iteT2 (decide_eq_true (by omega)) (q .non H (Same.refl _) ?_)
        unfold PrR parsedF
        rw [if_pos c8]
      refine iteN2 (decide_eq_false (by omega)) ?_
      dsimp only [tNext]
      refine ⟨Nat.le_of_ble_eq_true rfl, fun S0 nS => gname_go ?_⟩
      try dsimp only
      have s0 := same_new (o := .lst []) nS
      have e0 := upd_same (H := H) (a := S0) (o := .lst [])
      generalize upd H S0 (.lst []) = H0 at s0 e0
      refine ⟨_, rfl, S t, rfl, by rw [c4s, SX.S_len, SX.S_len]; simp only [List.length_cons, List.length_nil]; omega, ?_⟩
      rw [c4s, replace_S (by decide)]
      have lr := repW_len t
      have lr1 := sbs_len (c := 40) (z := [40, 32]) rfl t
      refine ⟨_, rfl, by rw [cs4, SX.S_len, SX.S_len]; simp only [List.length_cons, List.length_nil]; omega, ?_⟩
      rw [c41, cs4, replace_S (by decide)]
      refine ⟨⟨_, rfl⟩, _, _, rfl, rfl, by rw [c32]; rfl, by rw [SX.S_len, sizeLine_eq]; show (repW t).length + 2 ≤ _; omega, fun W nW => ?_⟩
      rw [c32, SX.split_S (by simp) (by decide), show ((TL.spl [32] 0 [] (sbs 41 [32, 41] (sbs 40 [40, 32] t))).map S).map V.str = (wordsT t).map nmV from by rw [List.map_map]; rfl]
      have s1 := same_new (o := .lst ((wordsT t).map nmV)) nW
      have eW := upd_same (H := H0) (a := W) (o := .lst ((wordsT t).map nmV))
      have eS1 := s1 _ _ e0
      generalize upd H0 W (.lst ((wordsT t).map nmV)) = H1 at s1 eW eS1
      have nWS : W ≠ S0 := fun z => by
        rw [z, e0] at nW
        cases nW
      have lw : (wordsT t).length ≤ 8001 := by
        unfold wordsT
        rw [spl_one_len]
        have : cnt 32 (repW t) ≤ (repW t).length := List.countP_le_length
        omega
      have wsum := words_cnt t
      have wlen : ∀ x ∈ wordsT t, x.length ≤ 10000 → True := fun _ _ _ => trivial
      refine ⟨W, rfl, ⟨_, SqL.of eW⟩, for_list (K := K) (a := W) (xs := (wordsT t).map nmV) (fun i σ' G => (∀ b o, b ≠ S0 → H1 b = some o → G b = some o) ∧ ∃ (xs : List V) (y2 : Option V), σ' = [some (.str (S t)), some (.ref S0), y2] ∧ G S0 = some (.lst xs) ∧ Paired (ItmAt FC G) xs (runI [] ((wordsT t).take i))) ⟨fun _ _ _ e => e, [], _, rfl, eS1, .nil⟩ (fun i σ' G _ h => SqL.of (h.1 _ _ nWS eW)) ?_ ?_⟩
      · rintro i x σ' G hi ⟨sG, xs, y2, rfl, eS, px⟩
        rw [List.getElem?_map] at hi
        obtain ⟨wd, hwd, rfl⟩ := Option.map_eq_some_iff.mp hi
        have li : i < (wordsT t).length := (List.getElem?_eq_some_iff.mp hwd).1
        have oks : ∀ y ∈ runI [] ((wordsT t).take i), y.ok = true := run_ok _ [] (fun y hy => by cases hy)
        obtain ⟨rw1, rl1⟩ := run_wt ((wordsT t).take i) [] (fun y hy => by cases hy)
        have hsum : (((wordsT t).take i).map (cnt 40)).sum + cnt 40 wd ≤ 8 := by
          have h1 : ((wordsT t).map (cnt 40)).sum = (((wordsT t).take (i + 1)).map (cnt 40)).sum + (((wordsT t).drop (i + 1)).map (cnt 40)).sum := by
            rw [← List.sum_append, ← List.map_append, List.take_append_drop]
          rw [get_take hwd, List.map_append, List.sum_append] at h1
          simp only [List.map_cons, List.map_nil, List.sum_cons, List.sum_nil] at h1
          omega
        have w0 : wtS [] = 0 := rfl
        have lxs : xs.length ≤ 8001 := by
          rw [px.length]
          rw [List.length_take] at rl1
          simp only [List.length_nil] at rl1
          omega
        have lwd : wd.length ≤ 8000 := by
          have := spl_word (repW t) [] wd (List.mem_of_getElem? hwd)
          simp only [List.length_nil] at this
          omega
        refine gname_go ?_
        try dsimp only
        refine ⟨_, rfl, .inl ⟨rfl, _, SqL.of eS⟩, ?_⟩
        refine ⟨_, rfl, .str (S wd), rfl, .inl ⟨wd, rfl, by omega, fun G1 g1 => ⟨_, rfl, ?_⟩⟩⟩
        cases hn : nameB wd with
        | true =>
          refine iteT ⟨_, rfl, .str (S wd), rfl, .inl ⟨wd, rfl, hn, fun a G2 g2 ha => ?_⟩⟩
          have g12 := g1.trans g2
          have iv : ItmAt FC G2 (.ref a) (pushI wd) := by
            unfold pushI
            rw [if_pos hn]
            exact .fm ha
          refine ⟨S0, xs, V.ref a, rfl, rfl, g12 _ _ eS, by rw [sizeLine_eq]; omega, ?_⟩
          have sB : SameB S0 G2 (upd G2 S0 (.lst (xs ++ [V.ref a]))) := fun b o n e => by rw [upd_ne n]; exact e
          have e3 := upd_same (H := G2) (a := S0) (o := .lst (xs ++ [V.ref a]))
          have px3 : Paired (ItmAt FC (upd G2 S0 (.lst (xs ++ [V.ref a])))) (xs ++ [V.ref a]) (runI [] ((wordsT t).take i) ++ [pushI wd]) := paired_app (paired_imp (fun _ _ r => (r.same g12).B sB ⟨_, g12 _ _ eS⟩) px) (.cons ((iv).B sB ⟨_, g12 _ _ eS⟩) .nil)
          have k3 : ∀ b o, b ≠ S0 → H1 b = some o → (upd G2 S0 (.lst (xs ++ [V.ref a]))) b = some o := fun b o n e => sB b o n (g12 _ _ (sG b o n e))
          generalize upd G2 S0 (.lst (xs ++ [V.ref a])) = G3 at sB e3 px3 k3
          refine ⟨_, rfl, rfl, _, rfl, ?_⟩
          try rw [c41]
          first | rw [dec_str] | rw [show decide (nmV wd = V.str (S [41])) = decide (wd = [41]) from dec_str]
          by_cases hw : wd = [41]
          · refine iteT2 (decide_eq_true hw) ?_
            refine ⟨_, rfl, 5, rfl, -5, rfl, S0, _, rfl, SqL.of e3, fun L1 nL1 => ?_⟩
            rw [cut_tail5]
            have l3 := px3.length
            have s4 := same_new (o := .lst ((xs ++ [V.ref a]).drop ((xs ++ [V.ref a]).length - 5))) nL1
            have wt3 : wtS (runI [] ((wordsT t).take i) ++ [pushI wd]) ≤ 8 := by
              have p1 := (push_wt wd).1
              rw [wtS_app]
              show _ + ((pushI wd).wt + 0) ≤ 8
              omega
            have ok3 : ∀ y ∈ runI [] ((wordsT t).take i) ++ [pushI wd], y.ok = true := fun y hy => by
              rcases List.mem_append.mp hy with hy | hy
              · exact oks y hy
              · rw [List.mem_singleton.mp hy]
                exact (push_wt wd).2
            refine ⟨L1, _, (runI [] ((wordsT t).take i) ++ [pushI wd]).drop ((xs ++ [V.ref a]).length - 5), rfl, upd_same, paired_imp (fun _ _ r => r.same s4) (pdr _ px3), fun y hy => ok3 y (List.mem_of_mem_drop hy), ?_, fun v5 G5 s5 iv5 => ⟨by show 1 ≤ sizeLine; decide, fun B nB => ?_⟩⟩
            · have e9 : wtS ((runI [] ((wordsT t).take i) ++ [pushI wd]).take ((xs ++ [V.ref a]).length - 5)) + wtS ((runI [] ((wordsT t).take i) ++ [pushI wd]).drop ((xs ++ [V.ref a]).length - 5)) = wtS (runI [] ((wordsT t).take i) ++ [pushI wd]) := by rw [← wtS_app, List.take_append_drop]
              omega
            have s6 := same_new (o := .lst [v5]) nB
            have s36 := (s4.trans s5).trans s6
            have eS6 := s36 _ _ e3
            have nSB : S0 ≠ B := ne_of_none (s5 _ _ (s4 _ _ e3)) nB
            refine ⟨_, rfl, 5, rfl, -5, rfl, S0, B, _, _, 5, rfl, rfl, rfl, by decide, eS6, upd_same, nSB, ?_, ?_⟩
            · rw [List.length_append, List.length_singleton, sizeLine_eq]
              show xs.length + 1 + 1 ≤ _
              omega
            have sB2 : SameB S0 (upd G5 B (.lst [v5])) (upd (upd G5 B (.lst [v5])) S0 (.lst ((xs ++ [V.ref a]).take ((xs ++ [V.ref a]).length - 5) ++ [v5]))) := fun b o n e => by rw [upd_ne n]; exact e
            refine ⟨fun b o n e => sB2 b o n (s36 _ _ (k3 b o n e)), _, _, rfl, upd_same, ?_⟩
            rw [get_take hwd, run_snoc]
            unfold stepI
            rw [if_pos hw, ← l3]
            exact paired_app (paired_imp (fun _ _ r => (r.same s36).B sB2 ⟨_, eS6⟩) (ptk _ px3)) (.cons ((iv5.same s6).B sB2 ⟨_, eS6⟩) .nil)
          · refine iteN2 (decide_eq_false hw) ⟨k3, xs ++ [V.ref a], _, rfl, e3, ?_⟩
            rw [get_take hwd, run_snoc]
            unfold stepI
            rw [if_neg hw]
            exact px3
        | false =>
          refine iteF ⟨_, rfl, ?_⟩
          have iv : ItmAt FC G1 (.str (S wd)) (pushI wd) := by
            unfold pushI
            rw [if_neg (by rw [hn]; decide)]
            exact .wd wd
          refine ⟨S0, xs, V.str (S wd), rfl, rfl, g1 _ _ eS, by rw [sizeLine_eq]; omega, ?_⟩
          have sB : SameB S0 G1 (upd G1 S0 (.lst (xs ++ [V.str (S wd)]))) := fun b o n e => by rw [upd_ne n]; exact e
          have e3 := upd_same (H := G1) (a := S0) (o := .lst (xs ++ [V.str (S wd)]))
          have px3 : Paired (ItmAt FC (upd G1 S0 (.lst (xs ++ [V.str (S wd)])))) (xs ++ [V.str (S wd)]) (runI [] ((wordsT t).take i) ++ [pushI wd]) := paired_app (paired_imp (fun _ _ r => (r.same g1).B sB ⟨_, g1 _ _ eS⟩) px) (.cons ((iv).B sB ⟨_, g1 _ _ eS⟩) .nil)
          have k3 : ∀ b o, b ≠ S0 → H1 b = some o → (upd G1 S0 (.lst (xs ++ [V.str (S wd)]))) b = some o := fun b o n e => sB b o n (g1 _ _ (sG b o n e))
          generalize upd G1 S0 (.lst (xs ++ [V.str (S wd)])) = G3 at sB e3 px3 k3
          refine ⟨_, rfl, rfl, _, rfl, ?_⟩
          try rw [c41]
          first | rw [dec_str] | rw [show decide (nmV wd = V.str (S [41])) = decide (wd = [41]) from dec_str]
          by_cases hw : wd = [41]
          · refine iteT2 (decide_eq_true hw) ?_
            refine ⟨_, rfl, 5, rfl, -5, rfl, S0, _, rfl, SqL.of e3, fun L1 nL1 => ?_⟩
            rw [cut_tail5]
            have l3 := px3.length
            have s4 := same_new (o := .lst ((xs ++ [V.str (S wd)]).drop ((xs ++ [V.str (S wd)]).length - 5))) nL1
            have wt3 : wtS (runI [] ((wordsT t).take i) ++ [pushI wd]) ≤ 8 := by
              have p1 := (push_wt wd).1
              rw [wtS_app]
              show _ + ((pushI wd).wt + 0) ≤ 8
              omega
            have ok3 : ∀ y ∈ runI [] ((wordsT t).take i) ++ [pushI wd], y.ok = true := fun y hy => by
              rcases List.mem_append.mp hy with hy | hy
              · exact oks y hy
              · rw [List.mem_singleton.mp hy]
                exact (push_wt wd).2
            refine ⟨L1, _, (runI [] ((wordsT t).take i) ++ [pushI wd]).drop ((xs ++ [V.str (S wd)]).length - 5), rfl, upd_same, paired_imp (fun _ _ r => r.same s4) (pdr _ px3), fun y hy => ok3 y (List.mem_of_mem_drop hy), ?_, fun v5 G5 s5 iv5 => ⟨by show 1 ≤ sizeLine; decide, fun B nB => ?_⟩⟩
            · have e9 : wtS ((runI [] ((wordsT t).take i) ++ [pushI wd]).take ((xs ++ [V.str (S wd)]).length - 5)) + wtS ((runI [] ((wordsT t).take i) ++ [pushI wd]).drop ((xs ++ [V.str (S wd)]).length - 5)) = wtS (runI [] ((wordsT t).take i) ++ [pushI wd]) := by rw [← wtS_app, List.take_append_drop]
              omega
            have s6 := same_new (o := .lst [v5]) nB
            have s36 := (s4.trans s5).trans s6
            have eS6 := s36 _ _ e3
            have nSB : S0 ≠ B := ne_of_none (s5 _ _ (s4 _ _ e3)) nB
            refine ⟨_, rfl, 5, rfl, -5, rfl, S0, B, _, _, 5, rfl, rfl, rfl, by decide, eS6, upd_same, nSB, ?_, ?_⟩
            · rw [List.length_append, List.length_singleton, sizeLine_eq]
              show xs.length + 1 + 1 ≤ _
              omega
            have sB2 : SameB S0 (upd G5 B (.lst [v5])) (upd (upd G5 B (.lst [v5])) S0 (.lst ((xs ++ [V.str (S wd)]).take ((xs ++ [V.str (S wd)]).length - 5) ++ [v5]))) := fun b o n e => by rw [upd_ne n]; exact e
            refine ⟨fun b o n e => sB2 b o n (s36 _ _ (k3 b o n e)), _, _, rfl, upd_same, ?_⟩
            rw [get_take hwd, run_snoc]
            unfold stepI
            rw [if_pos hw, ← l3]
            exact paired_app (paired_imp (fun _ _ r => (r.same s36).B sB2 ⟨_, eS6⟩) (ptk _ px3)) (.cons ((iv5.same s6).B sB2 ⟨_, eS6⟩) .nil)
          · refine iteN2 (decide_eq_false hw) ⟨k3, xs ++ [V.str (S wd)], _, rfl, e3, ?_⟩
            rw [get_take hwd, run_snoc]
            unfold stepI
            rw [if_neg hw]
            exact px3
      · rintro σ' G ⟨sG, xs, y2, rfl, eS, px⟩
        rw [List.length_map, List.take_length] at px
        have sHG : Same H G := fun b o e => sG b o (ne_of_none e nS) (s1 _ _ (s0 _ _ e))
        have ne : runI [] (wordsT t) ≠ [] := by
          obtain ⟨ws, wl, ew⟩ : ∃ ws wl, wordsT t = ws ++ [wl] := ⟨_, _, (List.dropLast_concat_getLast (spl_one_ne 32 _ _)).symm⟩
          rw [ew, run_snoc]
          exact (step_ok (run_ok _ [] fun y hy => by cases hy)).2.2.2
        have pe : parsedF t = (match (runI [] (wordsT t)).head? with | some (.fm f) => if f.txt = t then some f else none | _ => none) := by
          unfold parsedF
          rw [if_neg c8]
          first | done | rfl
        generalize runI [] (wordsT t) = its at px ne pe
        cases px with
        | nil => exact absurd rfl ne
        | cons r0 pr =>
          rename_i v0 x0 vs0 is0
          have qn : parsedF t = none → Q .non G := fun e => q .non G sHG (by unfold PrR; rw [e])
          dsimp only
          cases r0 with
          | wd u =>
            refine ⟨_, rfl, S0, _, _, .str (S u), rfl, rfl, SqL.of eS, atI_nat (j := 0) rfl, _, _, _, _, _, rfl, .own FC, .base (.str _), hks, _, rfl, iteF (iteF ?_)⟩
            exact qn pe
          | no =>
            refine ⟨_, rfl, S0, _, _, .non, rfl, rfl, SqL.of eS, atI_nat (j := 0) rfl, _, _, _, _, _, rfl, .own FC, .base .non, hkn, _, rfl, iteF (iteF ?_)⟩
            exact qn pe
          | fm h0 =>
            rename_i a0 g0
            obtain ⟨dx, fx, ex⟩ := h0.ins
            refine ⟨_, rfl, S0, _, _, .ref a0, rfl, rfl, SqL.of eS, atI_nat (j := 0) rfl, _, _, _, _, _, rfl, .own FC, h0.ty FF, FF.self, _, rfl, iteT ?_⟩
            refine ⟨_, rfl, S0, _, _, .ref a0, rfl, rfl, SqL.of eS, atI_nat (j := 0) rfl, a0, dx, fx, rfl, ex, a0, g0, rfl, h0, _, rfl, _, rfl, rfl, _, rfl, ?_⟩
            rw [dec_str]
            have pe2 : parsedF t = if g0.txt = t then some g0 else none := pe
            by_cases ct : g0.txt = t
            · refine iteT2 (decide_eq_true ct) ⟨_, rfl, S0, _, _, .ref a0, rfl, rfl, SqL.of eS, atI_nat (j := 0) rfl, q _ G sHG ?_⟩
              unfold PrR
              rw [pe2, if_pos ct]
              exact ⟨a0, rfl, h0⟩
            · refine iteN2 (decide_eq_false ct) (qn (by rw [pe2, if_neg ct]))
    · refine ⟨_, rfl, _, _, _, _, _, rfl, .ty _, tyx, kn, _, rfl, iteT (iteT q)⟩
end
end L2.K06
set_option Elab.async false
set_option linter.all false
set_option maxRecDepth 100000
set_option maxHeartbeats 8000000
namespace L2.K06
open PySem PySem.Spec PyProof.Rows L2.Tb
open SX (S)
abbrev s_lread : Stmt := top 40
abbrev N_lread : List Str := ["_law_line", "_law_found_here"]
theorem sc_lread : FnScope N_lread ["_law_line"] (defScope s_lread) := ⟨rfl, rfl, rfl, by decide +kernel, rfl, by decide +kernel, by decide +kernel⟩
/-- what _law_read returns: nothing, or the formula whose text this is -/
def RdR (H : Hp) (v : V) (r : Option Fm) : Prop := match r with
  | none => ∃ T : Addr, v = .ref T ∧ H T = some (.tup [])
  | some f => ∃ (T : Addr) (tv : V), v = .ref T ∧ H T = some (.tup [tv]) ∧ TrAt H tv f
def spLread : Sp := fun vs H Q _ => ∃ t : List Nat, vs = [.str (S t)] ∧ t.length ≤ 4000 ∧ ∀ r H', Same H H' → RdR H' r (parsedF t) → Q r H'
theorem fnd_parsed {t : List Nat} (h8 : cnt 40 t ≤ 8) : parsedF t = match fnd 9 t with | some (f, []) => some f | _ => none := by
  cases hp : parsedF t with
  | some f =>
    obtain ⟨ok, o8, rfl⟩ := parsed_iff.mp hp
    have := fnd_complete f 9 [] ok (by have := Fm.dep_ops f; omega) rfl
    rw [List.append_nil] at this
    rw [this]
  | none =>
    split
    · rename_i f e
      obtain ⟨ok, et⟩ := fnd_sound _ _ _ _ e
      rw [List.append_nil] at et
      have : parsedF t = some f := parsed_iff.mpr ⟨ok, by have := Fm.cnt_ops f ok; rw [← et] at this; omega, et.symm⟩
      rw [hp] at this
      cases this
    · rfl
section
variable {P : Program} {w : World} {K : PySem.W.Frag} {mg : Str → Option Value} {base : Heap} {f : Addr} {fd : FuncData}
theorem c_lread (T : Bt mg) (k_lfound : Cal P w K mg base 10 "_law_found" (spFound 8)) (F : FnP K "_law_read" s_lread f fd) (hm : mg "_law_read" = some (.ref f)) : Cal P w K mg base 11 "_law_read" spLread := by
  have hnd := sc_lread.nd
  refine cal_mk F hm sc_lread (fun _ _ _ _ _ _ us hl => match us, hl with | [_], _ => rfl) (fun vs H Q E h => ?_) (fun cdv A outer s H vs Q E hr h => ?_)
  · obtain ⟨t, rfl, _⟩ := h
    rfl
  · obtain ⟨t, rfl, lt, q⟩ := h
    refine ⟨_, (pss_cons (ps_if (pt_cmpR op_gt (pe_m1 PySem.F.slot_str_count PySem.F.type_str_count mt_count (pv 0) pe_str) pe_int (nomark _))
      (pss_one (ps_ret (pe_tup pa_nil)))
      pss_nil)
      (pss_cons (ps_set (i := 1) hnd rfl (by first | exact Or.inl rfl | exact Or.inr rfl) (pe_cal k_lfound hr (by omega) (by rfl) (pa_cons (pv 0) (pa_cons pe_int pa_nil))))
      (pss_one (ps_ret (pe_ifExp (PW.pt (pw_and (pt_cmpR (show OpR _ (compareOp .NotEq) (rNeD K) from op_neD hr.units) (pv 1) (pe_tup pa_nil) (nomark _)) (pw_and1 (pt_cmpR op_eq (pe_ix (show IxR _ (rIxT K) from ix_tup) (pv 1) pe_int (fun _ _ => rfl)) (pe_callB call_len_str (by rfl) T.m_len (by decide +kernel) (pa_cons (pv 0) pa_nil)) (nomark _))))) (pe_tup (pa_cons (pe_ix (show IxR _ (rIxT K) from ix_tup) (pv 1) pe_int (fun _ _ => rfl)) pa_nil)) (pe_tup pa_nil)))))), ?_⟩
    have sl := slenB (l := t) (by omega)
    have c40 : Str.ofString "(" = S [40] := by decide +kernel
    have none_ : ∀ (G : Hp), Same H G → parsedF t = none → ∀ T : Addr, G T = none → Q (.ref T) (upd G T (.tup [])) := fun G sG e T nT => q (.ref T) _ (sG.trans (same_new nT)) (by rw [e]; exact ⟨T, rfl, upd_same⟩)
    refine ⟨_, rfl, ⟨_, rfl⟩, _, _, rfl, rfl, ?_⟩
    rw [c40, count_S (by decide)]
    refine ⟨_, _, rfl, rfl, _, rfl, ?_⟩
    by_cases c8 : 8 < cnt 40 t
    · exact iteT2 (decide_eq_true (by omega)) ⟨by show 0 ≤ sizeLine; decide, fun T nT => none_ H (Same.refl _) (by unfold parsedF; rw [if_pos c8]) T nT⟩
    refine iteN2 (decide_eq_false (by omega)) ?_
    dsimp only [tNext]
    have hp := fnd_parsed (t := t) (by omega)
    refine ⟨_, rfl, t, 0, rfl, lt, Nat.zero_le _, by rw [List.drop_zero]; omega, by rw [List.drop_zero]; omega, fun r H1 s1 fr => gname_go ?_⟩
    try dsimp only
    rw [List.drop_zero] at fr
    replace fr : FdR H1 r t (fnd 9 t) := fr
    refine ret_go ?_
    cases e1 : fnd 9 t with
    | none =>
      rw [e1] at fr hp
      obtain ⟨T1, rfl, eT1⟩ := fr
      refine ⟨_, rfl, by show 0 ≤ sizeLine; decide, fun T nT => ?_⟩
      have s2 := s1.trans (same_new (o := .tup []) nT)
      refine ⟨.tuple [], .tuple [], .tup (SqT.of ((same_new nT) _ _ eT1)) .nil, .tup (SqT.of upd_same) .nil, by decide, by decide, _, rfl, iteN2 (by decide) (iteF ?_)⟩
      exact ⟨by show 0 ≤ sizeLine; decide, fun T2 nT2 => none_ _ s2 hp T2 nT2⟩
    | some p =>
      obtain ⟨f0, u⟩ := p
      rw [e1] at fr hp
      obtain ⟨T1, tv, rfl, eT1, tr⟩ := fr
      obtain ⟨ok, et⟩ := fnd_sound _ _ _ _ e1
      have lu : t.length = f0.txt.length + u.length := by
        have := congrArg List.length et
        rwa [List.length_append] at this
      have lp : 1 ≤ f0.txt.length := List.length_pos_iff.mpr (Fm.txt_pos f0 ok)
      have hc : cnt 40 t = f0.ops + cnt 40 u := by
        rw [et]
        have := Fm.cnt_ops f0 ok
        unfold cnt at this ⊢
        rw [List.countP_append, this]
      have df := Fm.dep_ops f0
      refine ⟨_, rfl, by show 0 ≤ sizeLine; decide, fun T nT => ?_⟩
      have s2 := s1.trans (same_new (o := .tup []) nT)
      have eT2 := (same_new (o := .tup []) nT) _ _ eT1
      have tr2 := tr.same (same_new (o := .tup []) nT)
      refine ⟨.tuple [trD f0, .int _], .tuple [], .tup (SqT.of eT2) (.cons tr2.dp (.cons (.int _) .nil)), .tup (SqT.of upd_same) .nil, shaped_two ok (by omega), by decide, _, rfl, iteT2 (by simp [PyData.eqv, PyData.eqvAll]) ?_⟩
      refine ⟨_, rfl, T1, _, _, .int _, rfl, rfl, SqT.of eT2, atI_nat (j := 1) rfl, _, rfl, _, rfl, sl, rfl, _, rfl, ?_⟩
      rw [SX.S_len]
      cases u with
      | nil =>
        refine iteT2 (decide_eq_true (by simp)) ?_
        refine ⟨_, rfl, T1, _, _, tv, rfl, rfl, SqT.of eT2, atI_nat (j := 0) rfl, by show 1 ≤ sizeLine; decide, fun T3 nT3 => q (.ref T3) _ (s2.trans (same_new nT3)) ?_⟩
        rw [hp]
        exact ⟨T3, tv, rfl, upd_same, tr2.same (same_new nT3)⟩
      | cons c u' =>
        refine iteN2 (decide_eq_false fun z => by injection z with z; simp only [List.length_cons] at z lu; omega) ?_
        exact ⟨by show 0 ≤ sizeLine; decide, fun T3 nT3 => none_ _ s2 hp T3 nT3⟩
end
end L2.K06
set_option Elab.async false
set_option linter.all false
set_option maxRecDepth 100000
set_option maxHeartbeats 8000000
namespace L2.K06
open PySem PySem.Spec PyProof.Rows L2.Tb
open SX (S)
abbrev s_told : Stmt := top 41
abbrev N_told : List Str := ["_law_act", "_law_mine", "_law_heard", "e"]
theorem sc_told : FnScope N_told ["_law_act"] (defScope s_told) := ⟨rfl, rfl, rfl, by decide +kernel, rfl, by decide +kernel, by decide +kernel⟩
/-- what the law hears of an error of the class at C with its attribute, told by the word z -/
def HeardE (C : Addr) (at_ z : Str) (cls : Value) (d : Option Addr) (H : Hp) (Q : VK) : Prop := cls = .ref C ∧ ∃ dd v, d = some dd ∧ H dd = some (.xd [(at_, v)]) ∧ ∀ T H2, Same H H2 → H2 T = some (.tup [.str z, v]) → Q (.ref T) H2
/-- the law's look at what is refused -/
def TTf6 (CT : Addr) : (XK → Hp → VK → Prop) → Hp → VK → Prop := fun tl H Q => tl (fun cls d H1 => HeardE CT "given" "text" cls d H1 Q) H (fun _ _ => False)
structure Told6 (K : PySem.W.Frag) (mg : Str → Option Value) (CT : Addr) : Prop where
  gT : mg "InvalidText" = some (.ref CT)
  xT : XfC K CT
  nT : PySem.W.findIn K (.ref CT) "given" = some none
  tt : PySem.W.exmOne K (.ref CT) (.ref CT) = some true
section
variable {X : Cx} {FC CT fs fl : Addr} {fds fdl : FuncData} {k : Nat}
theorem told_gives (T : Bt X.mg) (mstr : X.mg "str" = none) (TF : Told6 X.K X.mg CT) (Fs : FnOk X.prog X.w X.K X.mg X.base L2.CX0 1 fs fds ["self"] (spFstr FC)) (Fl : FnOk X.prog X.w X.K X.mg X.base L2.CX0 1 fl fdl ["self"] (spFlen FC)) (hr : Room 7 X.A) (hs : PySem.W.findIn X.K (.ref FC) "__str__" = some (some (.ref fs))) (hf : PySem.W.isFn X.K (.ref fs) = true) (hb : Binds X.K fds ["self"] [])
    (hl : PySem.W.findIn X.K (.ref FC) "__len__" = some (some (.ref fl))) (hlf : PySem.W.isFn X.K (.ref fl) = true) (hbl : Binds X.K fdl ["self"] [])
    {g : Addr} {cdg : Value} {q : Str} : LamX.GivesTo X N_told "_law_told" (defScope s_told) g cdg (defBody s_told) "_law_act" q (TTf6 CT) := by
  have hnd := sc_told.nd
  intro f c' s H Q tl act hc h
  have hr2 : Room 6 (X.A.deeper (envOfC "_law_told" (defScope s_told) s.heap.objs.size g cdg)) := hr.deeper _
  refine ⟨_, pss_cons (ps_try_asMany (X := (cxOf C8.CX0 X.prog X.w X.K X.mg X.base N_told "_law_told" (defScope s_told) g cdg X.A X.stack s H C8.E0).nox)
      (tb := fun W D σ H => ∃ Ech : XK, (∀ cls d σ' H', Ech cls d H' → W cls d σ' H') ∧ tSeq (tAsg (tUp fun σZ HZ Q => σZ[0]? = some (some (.ref f)) ∧ HZ c' = some (LamX.CodeO c' q) ∧ tl Ech HZ Q) (gName 1)) (tAsg (tTup (tCons (tC (.str "formula")) (tCons (tCB (rStrOwn FC (spFstr FC)) (tCons (tVar 1) tNil)) (tCons (tCB (rLenOwn FC (spFlen FC)) (tCons (tVar 1) tNil)) tNil)))) (gName 2)) D σ H)
      rfl rfl hnd (fun W pn xe tk _ => ?_)
      (.cons (i := 3) rfl rfl ⟨rfl, by decide, .inl TF.gT⟩ (fun a oe cls d pn hz hf => pss_one (ps_set (i := 2) hnd rfl (by first | exact Or.inl rfl | exact Or.inr rfl) (pe_tup (pa_cons pe_str (pa_cons (pe_xf TF.xT TF.nT hz hf (pv 3)) pa_nil)))))
      (.stop _))) (pss_one (ps_ret (pv 2))), ?_⟩
  · refine ⟨fun pins s' σ H' D I h' => ?_⟩
    obtain ⟨Ech, hW, h'⟩ := h'
    refine PSs.run (X := ((cxOf C8.CX0 X.prog X.w X.K X.mg X.base N_told "_law_told" (defScope s_told) g cdg X.A X.stack s H C8.E0).nox.tr pn xe)) (t := tSeq (tAsg (tUp fun σZ HZ Q => σZ[0]? = some (some (.ref f)) ∧ HZ c' = some (LamX.CodeO c' q) ∧ tl Ech HZ Q) (gName 1)) (tAsg (tTup (tCons (tC (.str "formula")) (tCons (tCB (rStrOwn FC (spFstr FC)) (tCons (tVar 1) tNil)) (tCons (tCB (rLenOwn FC (spFlen FC)) (tCons (tVar 1) tNil)) tNil)))) (gName 2))) ?_ pins s' σ H' D I h'
    have act1 := fun p1 p2 => pe_up (act W pn xe Ech p1 p2 tk hW)
    refine pss_cons (ps_set (i := 1) hnd rfl (by first | exact Or.inl rfl | exact Or.inr rfl) (act1 _ _)) (pss_one (ps_set (i := 2) hnd rfl (by first | exact Or.inl rfl | exact Or.inr rfl) (pe_tup (pa_cons pe_str (pa_cons (pe_callTy (call_strOwn (X := ((cxOf C8.CX0 X.prog X.w X.K X.mg X.base N_told "_law_told" (defScope s_told) g cdg X.A X.stack s H C8.E0).nox.tr pn xe)) Fs (hr2.mono (by decide)) hs hf hb) (by rfl) mstr (by decide +kernel) (pa_cons (pv 1) pa_nil)) (pa_cons (pe_callB (call_lenOwn (X := ((cxOf C8.CX0 X.prog X.w X.K X.mg X.base N_told "_law_told" (defScope s_told) g cdg X.A X.stack s H C8.E0).nox.tr pn xe)) Fl (hr2.mono (by decide)) hl hlf hbl) (by rfl) T.m_len (by decide +kernel) (pa_cons (pv 1) pa_nil)) pa_nil))))))
  · refine ⟨fun cls d H1 => HeardE CT "given" "text" cls d H1 Q, fun cls d σ' H1 e hl => ?_, _, ⟨rfl, hc, h⟩, ?_⟩
    · obtain ⟨s0, s1, s2, s3, rfl⟩ : ∃ s0 s1 s2 s3, σ' = [s0, s1, s2, s3] := by
        match σ', hl with
        | [s0, s1, s2, s3], _ => exact ⟨s0, s1, s2, s3, rfl⟩
      obtain ⟨rfl, dd, v, rfl, ed, q⟩ := e
      exact ⟨true, TF.tt, fun _ a na => ⟨_, rfl, rfl, rfl, dd, _, v, rfl, ed, rfl, Nat.le_of_ble_eq_true rfl, fun T nT => ⟨_, rfl, q T _ (same_new nT) upd_same⟩⟩, (fun z => Bool.noConfusion z)⟩
    · exact fun v H1 z => z.elim
end
end L2.K06
set_option Elab.async false
set_option linter.all false
set_option maxRecDepth 100000
set_option maxHeartbeats 8000000
namespace L2.K06
open PySem PySem.Spec PyProof.Rows L2.Tb
open SX (S)
abbrev s_fread : Stmt := inClass (top 18) 1
abbrev N_fread : List Str := ["cls", "text", "formula"]
theorem sc_fread : FnScope N_fread ["cls", "text"] (defScope s_fread) := ⟨rfl, rfl, rfl, by decide +kernel, rfl, by decide +kernel, by decide +kernel⟩
def spFread (K : PySem.W.Frag) (FC CT : Addr) : Sp := fun vs H Q E => ∃ c v, vs = [c, v] ∧ ((∃ t : List Nat, v = .str (S t) ∧ t.length ≤ 4000 ∧ ((∃ f, parsedF t = some f ∧ ∀ a H', Same H H' → FmAt FC H' a f → Q (.ref a) H') ∨ (parsedF t = none ∧ ErrW H CT E "given" v))) ∨ (NoS K H v ∧ ErrW H CT E "given" v))
section
variable {P : Program} {w : World} {K : PySem.W.Frag} {mg : Str → Option Value} {base : Heap} {f : Addr} {fd : FuncData} {FC CInvalidText : Addr}
theorem c_fread (T : Bt mg) (k_parsed : Cal P w K mg base 9 "_parsed" (spParsed K FC)) (eInvalidText : ErC P w K mg base "InvalidText" "given" bVE CInvalidText) (tyInvalidText : PySem.W.typeIn K (.ref CInvalidText) = some (.type "type"))
    (F : FunD K "read" "Formula.read" (defArgs s_fread) (defBody s_fread) (defScope s_fread) [] [] f fd) : FnOk P w K mg base (L2.CX P w) 10 f fd ["cls", "text"] (spFread K FC CInvalidText) := by
  have hnd := sc_fread.nd
  refine F.ok sc_fread (fun vs H Q E h => ?_) (fun cdv A outer s H vs Q E hr h => ?_)
  · obtain ⟨c, v, rfl, _⟩ := h
    rfl
  · obtain ⟨c, v, rfl, h⟩ := h
    refine ⟨_, (pss_cons (ps_set (i := 2) hnd rfl (by first | exact Or.inl rfl | exact Or.inr rfl) (pe_cal k_parsed hr (by omega) (by rfl) (pa_cons (pv 1) pa_nil)))
      (pss_cons (ps_if (pt_cmpR op_isN (pv 2) pe_non (nomark _))
      (pss_one (ps_raise (by rfl) (takes_of rfl rfl rfl rfl) (pmk_er eInvalidText tyInvalidText hr (by omega) (by rfl) (pv 1))))
      pss_nil)
      (pss_one (ps_ret (pv 2))))), ?_⟩
    rcases h with ⟨t, rfl, lt, h⟩ | ⟨hn, q⟩
    · refine ⟨_, rfl, .str (S t), rfl, .inl ⟨t, rfl, lt, fun r H1 s1 pr => gname_go ?_⟩⟩
      try dsimp only
      rcases h with ⟨g, eg, q⟩ | ⟨en, q⟩
      · rw [eg] at pr
        obtain ⟨a, rfl, ha⟩ := pr
        exact ⟨_, rfl, rfl, _, rfl, iteF ⟨_, rfl, q a H1 s1 ha⟩⟩
      · rw [en] at pr
        obtain rfl : r = .non := pr
        exact ⟨_, rfl, rfl, _, rfl, iteT ⟨_, rfl, fun d H' s nd x => q d H' (s1.trans s) (none_back s1 nd) x⟩⟩
    · refine ⟨_, rfl, v, rfl, .inr ⟨hn, gname_go ?_⟩⟩
      try dsimp only
      exact ⟨_, rfl, rfl, _, rfl, iteT ⟨_, rfl, fun d H' s nd x => q d H' s nd x⟩⟩
end
end L2.K06
set_option Elab.async false
set_option linter.all false
set_option maxRecDepth 100000
set_option maxHeartbeats 4000000
/-! repr of texts, ints, bools and None, or of data; x is True -/
namespace L2.Tb
open PySem PySem.Spec PyProof.Rows
/-- what repr tells of a plain value -/
inductive ReprV : V → Str → Prop
  | str (x : Str) (h : (reprText x).length ≤ sizeLine) : ReprV (.str x) (reprText x)
  | int (i : Int) (h : i.natAbs.log2 < 1920) : ReprV (.int i) (toString i)
  | bl (b : Bool) : ReprV (.bl b) (if b then "True" else "False")
  | non : ReprV .non "None"
def rReprA (K : PySem.W.Frag) : List V → Hp → VK → Prop := fun vs H Q => rReprD K vs H Q ∨ ∃ v t, vs = [v] ∧ ReprV v t ∧ Q (.str t) H
theorem call_reprA {X : Cx} (hg : X.A.guards = some []) (hu : X.A.units + 64 < cLine) : CallR X (.builtin "repr") (rReprA X.K) := by
  intro pins s σ H vs us Q I r h
  rcases h with h | ⟨v, t, rfl, e, q⟩
  · exact call_reprD hg hu pins s σ H vs us Q I r h
  · obtain ⟨u, rfl, rx⟩ := vals1 r
    cases e with
    | str x hl =>
      obtain ⟨k, rfl⟩ := rx
      exact PySem.P.repr_of_str ⟨.str _, H, I.tok _, ⟨_, rfl⟩, q⟩ hl
    | int i hl =>
      obtain ⟨k, rfl⟩ := rx
      exact PySem.P.repr_of_int hl ⟨.str _, H, I.tok _, ⟨_, rfl⟩, q⟩
    | bl b =>
      cases (show u = Value.bool b from rx)
      exact PySem.P.repr_of_bool ⟨.str _, H, I.tok _, ⟨_, rfl⟩, q⟩
    | non =>
      cases rx
      exact PySem.P.repr_of_none ⟨.str _, H, I.tok _, ⟨_, rfl⟩, q⟩
theorem op_isB {X : Cx} : OpR X (compareOp .Is) (fun x y H Q => ∃ b, y = .bl b ∧ Q (.bl (decide (x = .bl b))) H) := by
  intro pins s σ H x y v u Q I rx ry h
  obtain ⟨b, rfl, q⟩ := h
  cases (show u = Value.bool b from ry)
  by_cases e : x = .bl b
  · subst e
    cases (show v = Value.bool b from rx)
    exact wpAny_is_self rfl ⟨.bl true, H, I, rfl, by simpa using q⟩
  · have q2 : Q (.bl false) H := by simpa [e] using q
    have fin : ∀ {w : Value}, v = w → w ≠ .bool b → (plainIs w (.bool b) = true) → wpAny (model X.prog X.w) X.A (compareOp .Is v (.bool b)) (EP X pins σ Q) X.xe s := fun e1 e2 e3 => by
      rw [e1]
      exact wpAny_is_other e3 e2 ⟨.bl false, H, I, rfl, q2⟩
    cases x with
    | bl c =>
      cases (show v = Value.bool c from rx)
      exact fin rfl (fun z => e (by injection z with z; rw [z])) rfl
    | non => exact fin rx (fun z => nomatch z) rfl
    | ref a => exact fin rx (fun z => nomatch z) rfl
    | ty n => exact fin rx (fun z => nomatch z) rfl
    | int i =>
      obtain ⟨t, e1⟩ := rx
      exact fin e1 (fun z => nomatch z) rfl
    | str i =>
      obtain ⟨t, e1⟩ := rx
      exact fin e1 (fun z => nomatch z) rfl
    | byt i =>
      obtain ⟨t, e1⟩ := rx
      exact fin e1 (fun z => nomatch z) rfl
    | flt i =>
      obtain ⟨t, e1⟩ := rx
      exact fin e1 (fun z => nomatch z) rfl
end L2.Tb
set_option Elab.async false
set_option linter.all false
set_option maxRecDepth 100000
set_option maxHeartbeats 4000000
/-! for i, x in enumerate(t), t a list or a tuple -/
namespace L2.Tb
open PySem PySem.Spec PyProof.Rows
def iEnumA (K : PySem.W.Frag) (ta : TA) : TI := fun σ H R => iEnumT K ta σ H R ∨ iEnum K ta σ H R
theorem pi_enumA {X : Cx} {e : Expr} {ta : TA} {p pos tpos : Pos} {elts : List Expr} {kk : Nat} (hg : Gl X "enumerate") (hm : X.mg "enumerate" = none) (ha : PA X [e] ta) (hs : starEach [e] X.env = [(false, eval e X.env)] := by rfl) :
    PI X (.Tuple elts kk tpos) (.Call (.Name "enumerate" p) [e] [] pos) (iEnumA X.K ta) :=
  ⟨fun pins s σ H R I h => h.elim (fun h => (pi_enumT hg hm ha hs).run pins s σ H R I h) fun h => (pi_enum hg hm ha hs).run pins s σ H R I h⟩
/-- a tuple (true) or a list -/
def SqX (b : Bool) (K : PySem.W.Frag) (H : Hp) (a : Addr) (xs : List V) : Prop := if b = true then SqT K H a xs else SqL K H a xs
theorem SqX.same {b : Bool} {K : PySem.W.Frag} {H H' : Hp} {a : Addr} {xs : List V} (h : SqX b K H a xs) (s : Same H H') : SqX b K H' a xs := by
  cases b with
  | true =>
    rcases h with (h | ⟨o, h⟩) | h
    · exact .inl (.inl (s _ _ h))
    · exact .inl (.inr ⟨o, s _ _ h⟩)
    · exact .inr h
  | false =>
    rcases h with (h | ⟨o, h⟩) | h
    · exact .inl (.inl (s _ _ h))
    · exact .inl (.inr ⟨o, s _ _ h⟩)
    · exact .inr h
theorem SqX.seq {b : Bool} {K : PySem.W.Frag} {H : Hp} {a : Addr} {xs : List V} (h : SqX b K H a xs) : SqL K H a xs ∨ SqT K H a xs := by
  cases b with
  | true => exact .inr h
  | false => exact .inl h
theorem for_enumA {K : PySem.W.Frag} {a : Addr} {xs : List V} {ta : TA} {g : TG} {tb : TS} {D : Ends} {σ : St} {H : Hp} (b : Bool) (hta : ∀ R : List V → Hp → Prop, R [.ref a] H → ta σ H R) (Pv : Nat → St → Hp → Prop) (h0 : Pv 0 σ H) (hl : ∀ i σ H, i ≤ xs.length → Pv i σ H → SqX b K H a xs)
    (hs : ∀ i x σ H T, xs[i]? = some x → Pv i σ H → H T = none → g (.ref T) σ (upd H T (.tup [.int (i : Nat), x])) fun σ2 H2 => tb { D with nx := Pv (i + 1), ct := Pv (i + 1), bk := D.nx } σ2 H2) (hd : ∀ σ H, Pv xs.length σ H → D.nx σ H) :
    tFor (iEnumA K ta) g tb D σ H := by
  cases b with
  | true => exact .inl (hta _ ⟨a, xs, rfl, hl 0 σ H (Nat.zero_le _) h0, for_enumT Pv h0 hl hs hd⟩)
  | false =>
    refine .inr (hta _ ⟨a, xs, rfl, hl 0 σ H (Nat.zero_le _) h0, ?_⟩)
    refine ⟨fun i m σ H => m = xs.length - i ∧ i ≤ xs.length ∧ Pv i σ H, ⟨xs.length, by simp, Nat.zero_le _, h0⟩, ?_⟩
    rintro i m σ H ⟨rfl, hi, p⟩
    have q : SqL K H a xs := hl i σ H hi p
    by_cases hlt : i < xs.length
    · refine .inr ⟨⟨xs, xs[i], q, by simp [hlt]⟩, Pv (i + 1), fun σ' H' p' => ⟨xs.length - (i + 1), by omega, rfl, hlt, p'⟩, fun x H' y => ?_⟩
      obtain ⟨T, z, rfl, nT, rfl, hz⟩ := y
      exact hs i z σ H T (hz xs q) p nT
    · have e : i = xs.length := by omega
      subst e
      exact .inl ⟨⟨xs, q, Nat.le_refl _⟩, hd σ H p⟩
end L2.Tb
set_option Elab.async false
set_option linter.all false
set_option maxRecDepth 100000
set_option maxHeartbeats 8000000
namespace L2.K06
open PySem PySem.Spec PyProof.Rows L2.Tb
open SX (S)
/-! ### what repr asks of data -/
structure Rp (n w : Nat) (d : PyData) : Prop where
  sh : d.showable = true
  nd : d.hasDict = false
  dp : d.depth ≤ n
  ls : d.leavesShort 40 = true
  bk : d.bulk ≤ w
theorem Rp.up {n w n' w' : Nat} {d : PyData} (h : Rp n w d) (hn : n ≤ n') (hw : w ≤ w') : Rp n' w' d := ⟨h.sh, h.nd, Nat.le_trans h.dp hn, h.ls, Nat.le_trans h.bk hw⟩
/-- what rReprD asks -/
def Rok (d : PyData) : Prop := d.showable = true ∧ d.hasDict = false ∧ d.depth ≤ 60 ∧ d.shown.length ≤ sizeLine
theorem Rp.ok {n w : Nat} {d : PyData} (h : Rp n w d) (hn : n ≤ 60) (hw : w ≤ 300000) : Rok d := by
  refine ⟨h.sh, h.nd, Nat.le_trans h.dp hn, ?_⟩
  have := PyData.shown_le_bulk 40 (by decide) _ h.ls
  have := h.bk
  rw [sizeLine_eq]
  omega
structure RpAll (n w : Nat) (ds : List PyData) : Prop where
  sh : PyData.showableAll ds = true
  nd : PyData.hasDictAll ds = false
  dp : PyData.depthAll ds ≤ n
  ls : PyData.leavesShortAll 40 ds = true
  bk : PyData.bulkAll ds ≤ w
theorem RpAll.nil : RpAll 0 1 [] := ⟨rfl, rfl, by simp [PyData.depthAll], rfl, by simp [PyData.bulkAll]⟩
theorem RpAll.cons {n w m v k : Nat} {d : PyData} {ds : List PyData} (h : Rp n w d) (hs : RpAll m v ds) (hn : n ≤ k) (hm : m ≤ k) : RpAll k (w + v + 1) (d :: ds) := by
  have := h.bk
  have := hs.bk
  have := h.dp
  have := hs.dp
  refine ⟨?_, ?_, ?_, ?_, ?_⟩
  · simp only [PyData.showableAll, h.sh, hs.sh, Bool.and_true]
  · simp only [PyData.hasDictAll, h.nd, hs.nd, Bool.or_false]
  · simp only [PyData.depthAll]; omega
  · simp only [PyData.leavesShortAll, h.ls, hs.ls, Bool.and_true]
  · simp only [PyData.bulkAll]; omega
theorem RpAll.tup {n w : Nat} {ds : List PyData} (h : RpAll n w ds) : Rp (n + 1) (w + 1) (.tuple ds) := by
  have := h.bk
  have := h.dp
  refine ⟨?_, ?_, ?_, ?_, ?_⟩
  · simp only [PyData.showable, h.sh]
  · simp only [PyData.hasDict, h.nd]
  · simp only [PyData.depth]; omega
  · simp only [PyData.leavesShort, h.ls]
  · simp only [PyData.bulk]; omega
theorem RpAll.lst {n w : Nat} {ds : List PyData} (h : RpAll n w ds) : Rp (n + 1) (w + 1) (.list ds) := by
  have := h.bk
  have := h.dp
  refine ⟨?_, ?_, ?_, ?_, ?_⟩
  · simp only [PyData.showable, h.sh]
  · simp only [PyData.hasDict, h.nd]
  · simp only [PyData.depth]; omega
  · simp only [PyData.leavesShort, h.ls]
  · simp only [PyData.bulk]; omega
def rpB (n w : Nat) (d : PyData) : Bool := d.showable && (!d.hasDict && (decide (d.depth ≤ n) && (d.leavesShort 40 && decide (d.bulk ≤ w))))
theorem rpB_ok {n w : Nat} {d : PyData} (h : rpB n w d = true) : Rp n w d := by
  unfold rpB at h
  obtain ⟨h1, h⟩ := He.ba h
  obtain ⟨h2, h⟩ := He.ba h
  obtain ⟨h3, h⟩ := He.ba h
  obtain ⟨h4, h5⟩ := He.ba h
  exact ⟨h1, by simpa using h2, of_decide_eq_true h3, h4, of_decide_eq_true h5⟩
theorem rp_non : Rp 1 9 .none := rpB_ok (by decide +kernel)
theorem rp_bl (b : Bool) : Rp 1 9 (.bool b) := by cases b <;> exact rpB_ok (by decide +kernel)
theorem rp_int {i : Int} (h : -1000000 < i ∧ i < 1000000) : Rp 1 9 (.int i) := by
  have l1 : i.natAbs.log2 < 1920 := by
    have := Nat.log2_le_self i.natAbs
    by_cases z : i.natAbs = 0
    · rw [z]; decide +kernel
    · exact (Nat.log2_lt z).mpr (Nat.lt_of_le_of_lt (m := 2 ^ 20) (by omega) (Nat.pow_lt_pow_right (by decide) (by decide)))
  have l2 : (toString i).length ≤ 8 := PySem.int_text_length_le10 (k := 7) (by decide) (by omega)
  refine ⟨?_, ?_, ?_, ?_, ?_⟩
  · simp only [PyData.showable]
    exact decide_eq_true l1
  · simp only [PyData.hasDict]
  · simp only [PyData.depth]; omega
  · rw [PyData.leavesShort]
    refine decide_eq_true ?_
    show (Str.ofString (toString i)).length ≤ 40
    rw [PySem.ofString_length]
    omega
  · simp only [PyData.bulk]; omega
theorem rp_nat {k : Nat} (h : k < 1000000) : Rp 1 9 (.int (k : Int)) := rp_int ⟨by omega, by omega⟩
mutual
theorem Dp.same {K : PySem.W.Frag} {H H' : Hp} (s : Same H H') : ∀ {v : V} {d : PyData}, Dp K H v d → Dp K H' v d
  | _, _, .non => .non
  | _, _, .bl b => .bl b
  | _, _, .int i => .int i
  | _, _, .str x => .str x
  | _, _, .lst h a => .lst (SqX.same (b := false) h s) (DpAll.same s a)
  | _, _, .tup h a => .tup (SqX.same (b := true) h s) (DpAll.same s a)
theorem DpAll.same {K : PySem.W.Frag} {H H' : Hp} (s : Same H H') : ∀ {vs : List V} {ds : List PyData}, DpAll K H vs ds → DpAll K H' vs ds
  | _, _, .nil => .nil
  | _, _, .cons h a => .cons (Dp.same s h) (DpAll.same s a)
end
theorem nnv (v : V) : (!decide (v = v)) = false := by rw [decide_eq_true rfl]; rfl
theorem eev (v : V) : decide (v = v) = true := decide_eq_true rfl
abbrev s_lline : Stmt := top 42
abbrev N_lline : List Str := ["_law_line", "_law_tree_here", "_law_mine"]
theorem sc_lline : FnScope N_lline ["_law_line"] (defScope s_lline) := ⟨rfl, rfl, rfl, by decide +kernel, rfl, by decide +kernel, by decide +kernel⟩
abbrev s_ldeep : Stmt := top 43
abbrev N_ldeep : List Str := ["_law_line", "_law_long_one", "_law_longer"]
theorem sc_ldeep : FnScope N_ldeep [] (defScope s_ldeep) := ⟨rfl, rfl, rfl, by decide +kernel, rfl, by decide +kernel, by decide +kernel⟩
abbrev s_right : Stmt := top 44
abbrev N_right : List Str := ["_law_purse_here", "_law_names_here", "_law_tree_here", "_law_line", "_law_again", "_law_bent_here", "_law_odd_here"]
theorem sc_right : FnScope N_right ["_law_purse_here"] (defScope s_right) := ⟨rfl, rfl, rfl, by decide +kernel, rfl, by decide +kernel, by decide +kernel⟩
abbrev q_line : Str := (envOfC "_law_line_right" (defScope s_lline) 0 0 .none).qual ++ "<lambda>"
abbrev q_deep : Str := (envOfC "_law_deep_right" (defScope s_ldeep) 0 0 .none).qual ++ "<lambda>"
abbrev q_right : Str := (envOfC "_law_right" (defScope s_right) 0 0 .none).qual ++ "<lambda>"
def tabsT (P1 P2 P3 : Addr) : List (Addr × Str) := [(P1, q_line), (P2, q_deep), (P3, q_right)]
def spLine (T : List (Addr × Str)) : Sp := fun vs H Q _ => ∃ t : List Nat, vs = [.str (S t)] ∧ t.length ≤ 4000 ∧ (∀ c ∈ t, c < 128) ∧ LamX.Tabs T H ∧ ∀ H', LamX.ExtN H H' → LamX.Tabs T H' → Q (.bl true) H'
theorem tabs_u {P1 P2 P3 : Addr} (n1 : P1 ≠ P2) (n2 : P1 ≠ P3) (n3 : P2 ≠ P3) : (∀ p ∈ tabsT P1 P2 P3, p.1 = P1 → p.2 = q_line) ∧ (∀ p ∈ tabsT P1 P2 P3, p.1 = P2 → p.2 = q_deep) ∧ ∀ p ∈ tabsT P1 P2 P3, p.1 = P3 → p.2 = q_right := by
  have three : ∀ {R : Addr × Str → Prop}, R (P1, q_line) → R (P2, q_deep) → R (P3, q_right) → ∀ p ∈ tabsT P1 P2 P3, R p := fun {R} a b c p hp => by
    rcases List.mem_cons.mp hp with rfl | hp
    · exact a
    · rcases List.mem_cons.mp hp with rfl | hp
      · exact b
      · rw [List.mem_singleton.mp hp]
        exact c
  exact ⟨three (fun _ => rfl) (fun e => absurd e.symm n1) (fun e => absurd e.symm n2), three (fun e => absurd e n1) (fun _ => rfl) (fun e => absurd e.symm n3), three (fun e => absurd e n2) (fun e => absurd e n3) (fun _ => rfl)⟩
theorem tabs_m1 {P1 P2 P3 : Addr} : (P1, q_line) ∈ tabsT P1 P2 P3 := List.mem_cons_self
theorem tabs_m2 {P1 P2 P3 : Addr} : (P2, q_deep) ∈ tabsT P1 P2 P3 := List.mem_cons_of_mem _ List.mem_cons_self
theorem tabs_m3 {P1 P2 P3 : Addr} : (P3, q_right) ∈ tabsT P1 P2 P3 := List.mem_cons_of_mem _ (List.mem_cons_of_mem _ List.mem_cons_self)
theorem data_eq {K : PySem.W.Frag} {H : Hp} {x y : V} {d : PyData} {Q : VK} (hx : Dp K H x d) (hy : Dp K H y d) (lay : d.canLay0 = true) (dep : d.depth ≤ 64) (q : Q (.bl true) H) : rEqD K x y H Q := by
  have sh : SeqAt.shaped d = true := by
    show (PyData.canLay0 _ && decide (PyData.depth _ ≤ 64)) = true
    rw [Bool.and_eq_true]
    exact ⟨lay, decide_eq_true dep⟩
  refine ⟨_, _, hx, hy, sh, sh, ?_⟩
  rw [PySem.SeqAt.eqv_refl _ lay]
  exact q
theorem rp_str {l : List Nat} {n : Nat} (h : ∀ c ∈ l, c < 128) (hl : l.length ≤ n) : Rp 1 n (.str (S l)) := by
  refine ⟨rfl, rfl, by simp [PyData.depth], ?_, ?_⟩
  · rw [PyData.leavesShort, List.all_eq_true]
    exact fun c hc => decide_eq_true (Nat.lt_trans (h c hc) (by decide))
  · simp only [PyData.bulk]
    exact hl
theorem text_ok : PyData.strOk (Str.ofString "text") = true := by decide +kernel
theorem shaped_one {f : Fm} (ok : f.ok = true) (hd : f.dep ≤ 60) : SeqAt.shaped (.tuple [trD f]) = true := by
  obtain ⟨a, b⟩ := trD_lay f ok
  show (PyData.canLay0 _ && decide (PyData.depth _ ≤ 64)) = true
  rw [Bool.and_eq_true]
  refine ⟨by simp only [PyData.canLay0, PyData.canLayAll0, a, Bool.and_self], decide_eq_true ?_⟩
  simp only [PyData.depth, PyData.depthAll]
  omega
/-- what the law hears of a text that is refused -/
theorem rd_tl {K : PySem.W.Frag} {FC CT : Addr} {G : Hp} {v : V} {mk : XK → Hp → VK → Prop} {Q : VK} (hv : (∃ t : List Nat, v = .str (S t) ∧ t.length ≤ 4000 ∧ parsedF t = none) ∨ NoS K G v)
    (hmk : ∀ (E : XK) (Qf : VK), spFread K FC CT [.ref FC, v] G Qf E → mk E G Qf) (q : ∀ T G2, Same G G2 → G2 T = some (.tup [.str (Str.ofString "text"), v]) → Q (.ref T) G2) : TTf6 CT mk G Q := by
  refine hmk _ _ ⟨.ref FC, v, rfl, ?_⟩
  have ew : ErrW G CT (fun cls d H1 => HeardE CT "given" "text" cls d H1 Q) "given" v := fun d H' s nd x => ⟨rfl, d, v, rfl, x, fun T H2 s2 e2 => q T H2 (s.trans s2) e2⟩
  rcases hv with ⟨t, rfl, lt, pn⟩ | hn
  · exact .inl ⟨t, rfl, lt, .inr ⟨pn, ew⟩⟩
  · exact .inr ⟨hn, ew⟩
section
variable {P : Program} {w : World} {K : PySem.W.Frag} {mg : Str → Option Value} {base : Heap} {at_ : Str × Option Str} {f : Addr} {fd fdt fdr : FuncData} {mc : Value} {ft fr pr FC CInvalidText P1 P2 P3 : Addr}
theorem c_lline (T : Bt mg) (mstr : mg "str" = none) (FF : FoF K mg FC) (TF : Told6 K mg CInvalidText) (RC : ClX.CRead K FC mc) (RM : ClX.CMet K FC mc "read" pr fr) (Fr : FnOk P w K mg base (L2.CX P w) 10 fr fdr ["cls", "text"] (spFread K FC CInvalidText)) (FR : FnR P w K mg base (L2.CX P w) 10 fr (spFread K FC CInvalidText))
    (BR : ∀ (sh : Shared) (zs : List Value), zs.length = (["text"] : List Str).length → BindsTo sh fdr ⟨[.ref FC], (["text"] : List Str).zip zs⟩ ((["cls", "text"] : List Str).zip (Value.ref FC :: zs)))
    (SS : SpcM P w K mg base L2.CX0 FC "__str__" ["self"] 1 (spFstr FC)) (LL : SpcM P w K mg base L2.CX0 FC "__len__" ["self"] 1 (spFlen FC)) (QQ : SpcM P w K mg base L2.CX0 FC "__eq__" ["self", "other"] 1 (spFeq K FC)) (hne : PySem.W.findIn K (.ref FC) "__ne__" = some (some (.builtin "object.__ne__"))) (NN : PrpM P w K mg base FC "name" 1 (spFname FC))
    (n1 : P1 ≠ P2) (n2 : P1 ≠ P3) (n3 : P2 ≠ P3) (Ft : FnP K "_law_told" s_told ft fdt) (mt : mg "_law_told" = some (.ref ft)) (TB : LamX.TabB base mg (He.codeOf K at_) P1)
    (k_lread : Cal P w K mg base 11 "_law_read" spLread) (k_lmade : Cal P w K mg base 19 "_law_made" (spLmade FC 8)) (k_lmany : Cal P w K mg base 9 "_law_many" (spLmany 8))
    (F : FnP K "_law_line_right" s_lline (He.fAd K at_) fd) (hm : mg "_law_line_right" = some (.ref (He.fAd K at_))) : CalG P w K mg base 22 "_law_line_right" (spLine (tabsT P1 P2 P3)) := by
  have hnd := sc_lline.nd
  obtain ⟨fs_, fds, hs, hsf, Fs, Bs⟩ := SS
  obtain ⟨fl_, fdl, hl, hlf, Fl, Bl⟩ := LL
  obtain ⟨fe_, fde, he, hef, Fe, Be⟩ := QQ
  obtain ⟨pn, gn, fdn, PN9, FN9, BN9⟩ := NN
  obtain ⟨tu1, tu2, tu3⟩ := tabs_u n1 n2 n3
  have b_told : Binds K fdt ["_law_act"] [] := Ft.bindsN fun _ _ _ _ _ _ us hl => match us, hl with | [_], _ => rfl
  refine calG_mkC F hm sc_lline (fun _ _ _ _ _ _ us hl => match us, hl with | [_], _ => rfl) (fun vs H Q E h => ?_) (fun cdv A outer s H vs Q E hcd hg2 hr h => ?_)
  · obtain ⟨t, rfl, _⟩ := h
    rfl
  · subst hcd
    obtain ⟨t, rfl, lt, asc, hT, q⟩ := h
    have ktold := Ft.kp
    obtain ⟨oc, od, dV, kV, doc, pm, an, cdt, ct, osl, rfl, lk, hct, _, _⟩ := id Ft.ex
    refine ⟨_, (pss_cons (ps_set (i := 1) hnd rfl (by first | exact Or.inl rfl | exact Or.inr rfl) (pe_cal k_lread hr (by omega) (by rfl) (pa_cons (pv 0) pa_nil)))
      (pss_cons (ps_if (pt_cmpR (show OpR _ (compareOp .Eq) (rEqD K) from op_eqD hr.units) (pv 1) (pe_tup pa_nil) (nomark _))
      (pss_one (ps_ret (pe_cmpR (show OpR _ (compareOp .Eq) (rEqD K) from op_eqD hr.units) (LamX.pe_lamcall (T := tabsT P1 P2 P3) (k := 10) (P := P1) (by rfl) mt ktold lk hct b_told sc_told rfl (by first | exact .inl rfl | exact .inr (.inl rfl)) (told_gives T mstr TF Fs Fl (hr.mono (by decide)) hs hsf Bs hl hlf Bl) TB rfl tabs_m1 tu1 (hr.mono (by decide)) (LamX.lamS_by (sc := defScope s_lline) (by decide +kernel)) rfl (fun _ _ _ _ _ => rfl) (fun A outer s H E f c' hr5 => (ClX.pe_cmeth (pe_glob (v := .ref FC) (by rfl) FF.mgF rfl) RC RM FR (hr5.mono (by decide)) (passes_call (takes_of rfl rfl rfl rfl) (fun _ _ _ _ h => h)) (pa_cons (pv 0) pa_nil)))) (pe_tup (pa_cons pe_str (pa_cons (pv 0) pa_nil))) (nomark _))))
      pss_nil)
      (pss_cons (ps_set (i := 2) hnd rfl (by first | exact Or.inl rfl | exact Or.inr rfl) (ClX.pe_cmeth (pe_glob (v := .ref FC) (by rfl) FF.mgF rfl) RC RM FR (hr.mono (by omega)) pass_none (pa_cons (pv 0) pa_nil)))
      (pss_cons (ps_if (PW.pt (pw_or (pt_not (pt_val (pe_callB call_isi (by rfl) T.m_isinstance (by decide +kernel) (pa_cons (pv 2) (pa_cons (pe_glob (v := .ref FC) (by rfl) FF.mgF rfl) pa_nil))))) (pw_or (pt_cmpR (show OpR _ (compareOp .NotEq) (rOwnNe K FC (spFeq K FC)) from op_ownNe Fe (hr.mono (by omega)) FF.ex.hm hne he hef Be) (pv 2) (pe_cal k_lmade hr (by omega) (by rfl) (pa_cons (pe_ix (show IxR _ (rIxT K) from ix_tup) (pv 1) pe_int (fun _ _ => rfl)) pa_nil)) (nomark _)) (pw_or1 (pt_cmpR (show OpR _ (compareOp .NotEq) (rOwnNe K FC (spFeq K FC)) from op_ownNe Fe (hr.mono (by omega)) FF.ex.hm hne he hef Be) (pe_cmethK (pe_glob (v := .ref FC) (by rfl) FF.mgF rfl) RC RM Fr (hr.mono (by omega)) pass_none (pk_cons (pv 0) pk_nil) rfl BR) (pv 2) (nomark _))))))
      (pss_one (ps_ret pe_bl))
      pss_nil)
      (pss_one (ps_ret (pe_cmpR op_eq (pe_callB (show CallR _ (.builtin "repr") (rReprD K) from call_reprD hg2 hr.units) (by rfl) T.m_repr (by decide +kernel) (pa_cons (pe_lst (pa_cons (pe_callTy (show CallR _ (.type "str") (rStrOwn FC (spFstr FC)) from call_strOwn Fs (hr.mono (by omega)) hs hsf Bs) (by rfl) mstr (by decide +kernel) (pa_cons (pv 2) pa_nil)) (pa_cons (pe_callB (show CallR _ (.builtin "len") (rLenOwn FC (spFlen FC)) from call_lenOwn Fl (hr.mono (by omega)) hl hlf Bl) (by rfl) T.m_len (by decide +kernel) (pa_cons (pv 2) pa_nil)) (pa_cons (pe_prop (E := L2.E0) (pv 2) FF.cls PN9 FN9 (hr.mono (by omega)) BN9 .nil (fun _ _ _ _ _ _ _ h => h.elim) (by rfl)) pa_nil)))) pa_nil)) (pe_callB (show CallR _ (.builtin "repr") (rReprD K) from call_reprD hg2 hr.units) (by rfl) T.m_repr (by decide +kernel) (pa_cons (pe_lst (pa_cons (pv 0) (pa_cons (pe_cal k_lmany hr (by omega) (by rfl) (pa_cons (pe_ix (show IxR _ (rIxT K) from ix_tup) (pv 1) pe_int (fun _ _ => rfl)) pa_nil)) (pa_cons (pe_ifExp (pt_cmpR op_in_sign pe_str (pv 0) (by rfl)) pe_non (pv 0)) pa_nil)))) pa_nil)) (nomark _)))))))), ?_⟩
    refine ⟨_, rfl, t, rfl, lt, fun r H1 s1 rr => gname_go ?_⟩
    try dsimp only
    have hT1 := hT.ext s1
    cases pf : parsedF t with
    | none =>
      rw [pf] at rr
      obtain ⟨T1, rfl, eT1⟩ := rr
      refine ⟨_, rfl, by show 0 ≤ sizeLine; decide, fun T2 nT2 => ?_⟩
      have sT2 := same_new (o := .tup []) nT2
      refine ⟨.tuple [], .tuple [], .tup (SqT.of (sT2 _ _ eT1)) .nil, .tup (SqT.of upd_same) .nil, by decide, by decide, _, rfl, iteT2 (by decide) ?_⟩
      have hT2 := hT1.ext sT2
      refine ⟨hT2, fun G y w => rd_tl (K := K) (.inl ⟨t, rfl, lt, pf⟩) (fun E9 Qf h => ⟨rfl, _, rfl, h⟩) fun T3 G2 s3 e3 => ?_⟩
      refine ⟨_, rfl, by show 2 ≤ sizeLine; decide, fun T4 nT4 => ?_⟩
      have s4 := same_new (o := .tup [.str (Str.ofString "text"), .str (S t)]) nT4
      refine data_eq (d := .tuple [.str (Str.ofString "text"), .str (S t)]) (.tup (SqT.of (s4 _ _ e3)) (.cons (.str _) (.cons (.str _) .nil))) (.tup (SqT.of upd_same) (.cons (.str _) (.cons (.str _) .nil))) (by simp only [PyData.canLay0, PyData.canLayAll0, strOk_of asc, text_ok, Bool.and_self]) (by simp [PyData.depth, PyData.depthAll]) ?_
      exact q _ (((LamX.ExtN.of (s1.trans sT2)).trans y).trans (LamX.ExtN.of (s3.trans s4))) ((w.ext s3).ext s4)
    | some f0 =>
      rw [pf] at rr
      obtain ⟨T1, tv, rfl, eT1, tr⟩ := rr
      obtain ⟨ok, o8, et⟩ := parsed_iff.mp pf
      have df := Fm.dep_ops f0
      have tl := Fm.txt_len f0 ok
      refine ⟨_, rfl, by show 0 ≤ sizeLine; decide, fun T2 nT2 => ?_⟩
      have sT2 := same_new (o := .tup []) nT2
      refine ⟨.tuple [trD f0], .tuple [], .tup (SqT.of (sT2 _ _ eT1)) (.cons ((tr.same sT2).dp) .nil), .tup (SqT.of upd_same) .nil, shaped_one ok (by omega), by decide, _, rfl, iteN2 (by simp [PyData.eqv, PyData.eqvAll]) ?_⟩
      dsimp only [tNext]
      have s2 := s1.trans sT2
      have eT2 := sT2 _ _ eT1
      have tr2 := tr.same sT2
      generalize upd H1 T2 (.tup []) = H2 at s2 eT2 tr2
      refine ⟨rfl, _, rfl, .ref FC, _, rfl, .inl ⟨t, rfl, lt, .inl ⟨f0, pf, fun a H3 s3 ha => gname_go ?_⟩⟩⟩
      try dsimp only
      have eT3 := s3 _ _ eT2
      have tr3 := tr2.same s3
      refine ⟨_, rfl, _, _, _, _, _, rfl, .own FC, ha.ty FF, FF.self, _, rfl, iteF ?_⟩
      refine ⟨_, rfl, _, rfl, T1, _, _, tv, rfl, rfl, SqT.of eT3, atI_nat (j := 0) rfl, tv, f0, rfl, tr3, ok, o8, by omega, fun m H4 s4 hm4 => ?_⟩
      have ha4 := ha.same s4
      obtain ⟨da, fa, ea⟩ := ha4.ins
      refine ⟨a, da, fa, .ref FC, rfl, ea, hm4.ty FF, by simp [PySem.W.notFirst], a, f0, .ref m, rfl, ha4, .inl ⟨m, f0, rfl, hm4, _, rfl, _, rfl, iteN2 (by rw [decide_eq_true rfl]; rfl) ?_⟩⟩
      refine ⟨rfl, _, rfl, .ref FC, _, rfl, .inl ⟨t, rfl, lt, .inl ⟨f0, pf, fun b H5 s5 hb => ?_⟩⟩⟩
      have ha5 := ha4.same s5
      have ea5 := s5 _ _ ea
      obtain ⟨db, fb, eb⟩ := hb.ins
      refine ⟨_, rfl, b, db, fb, .ref FC, rfl, eb, ha5.ty FF, by simp [PySem.W.notFirst], b, f0, .ref a, rfl, hb, .inl ⟨a, f0, rfl, ha5, _, rfl, _, rfl, iteN2 (by rw [decide_eq_true rfl]; rfl) ?_⟩⟩
      dsimp only [tNext]
      have eT5 := s5 _ _ (s4 _ _ eT3)
      have tr5 := (tr3.same s4).same s5
      have s15 := ((s2.trans s3).trans s4).trans s5
      clear s1 s2 s3 s4 s5 eT1 eT2 eT3 tr tr2 tr3 hb eb hm4 ha4 ea
      have c40 : Str.ofString "(" = S [40] := by decide +kernel
      have hT5 := hT.ext s15
      refine ⟨_, rfl, a, da, fa, rfl, ea5, a, f0, rfl, ha5, _, rfl, _, rfl, a, da, fa, rfl, ea5, a, f0, rfl, ha5, (f0.ops : Nat), rfl, Int.natCast_nonneg _, by omega, _, rfl, a, da, fa, rfl, ea5, a, f0, rfl, ha5, by show 3 ≤ sizeLine; decide, fun La nLa => ?_⟩
      have sa := same_new (o := .lst [.str (S f0.txt), .int (f0.ops : Nat), f0.nm]) nLa
      subst et
      cases f0 with
      | lt nm =>
        have hn : nameB nm = true := ok
        have no40 : (40 : Nat) ∉ nm := fun z => by have := name_ge hn _ z; omega
        have rk : Rok (.list [.str (S nm), .int ((0 : Nat) : Int), .str (S nm)]) := (RpAll.cons (k := 1) (rp_str (n := 200) asc (by have := (nameB_len hn).2; show nm.length ≤ 200; omega)) (RpAll.cons (k := 1) (rp_nat (k := 0) (by omega)) (RpAll.cons (k := 1) (rp_str (n := 200) asc (by have := (nameB_len hn).2; show nm.length ≤ 200; omega)) RpAll.nil (by decide) (by decide)) (by decide) (by decide)) (by decide) (by decide)).lst.ok (by decide) (by decide)
        refine ⟨La, .list [.str (S nm), .int ((0 : Nat) : Int), .str (S nm)], rfl, .lst (SqL.of upd_same) (.cons (.str _) (.cons (.int _) (.cons (.str _) .nil))), rk.1, rk.2.1, rk.2.2.1, rk.2.2.2, ?_⟩
        refine ⟨_, rfl, _, rfl, T1, _, _, tv, rfl, rfl, SqT.of (sa _ _ eT5), atI_nat (j := 0) rfl, tv, _, rfl, tr5.same sa, by omega, ?_⟩
        rw [c40]
        refine ⟨_, rfl, 40, S nm, rfl, rfl, _, rfl, ?_⟩
        refine iteN2 (decide_eq_false no40) ⟨_, rfl, by show 3 ≤ sizeLine; decide, fun Lb nLb => ?_⟩
        refine ⟨Lb, .list [.str (S nm), .int ((0 : Nat) : Int), .str (S nm)], rfl, .lst (SqL.of upd_same) (.cons (.str _) (.cons (.int _) (.cons (.str _) .nil))), rk.1, rk.2.1, rk.2.2.1, rk.2.2.2, rfl, ?_⟩
        have sab := s15.trans (sa.trans (same_new (o := .lst [.str (S nm), .int ((0 : Nat) : Int), .str (S nm)]) nLb))
        have qq := q _ (LamX.ExtN.of sab) (hT.ext sab)
        rw [decide_eq_true rfl]
        exact qq
      | op s0 l r =>
        have in40 : (40 : Nat) ∈ (Fm.op s0 l r).txt := by simp [Fm.txt]
        have rk : Rok (.list [.str (S (Fm.op s0 l r).txt), .int (((Fm.op s0 l r).ops : Nat) : Int), .none]) := (RpAll.cons (k := 1) (rp_str (n := 300) asc (by omega)) (RpAll.cons (k := 1) (rp_nat (by omega)) (RpAll.cons (k := 1) rp_non RpAll.nil (by decide) (by decide)) (by decide) (by decide)) (by decide) (by decide)).lst.ok (by decide) (by decide)
        refine ⟨La, .list [.str (S (Fm.op s0 l r).txt), .int (((Fm.op s0 l r).ops : Nat) : Int), .none], rfl, .lst (SqL.of upd_same) (.cons (.str _) (.cons (.int _) (.cons .non .nil))), rk.1, rk.2.1, rk.2.2.1, rk.2.2.2, ?_⟩
        refine ⟨_, rfl, _, rfl, T1, _, _, tv, rfl, rfl, SqT.of (sa _ _ eT5), atI_nat (j := 0) rfl, tv, _, rfl, tr5.same sa, by omega, ?_⟩
        rw [c40]
        refine ⟨_, rfl, 40, S (Fm.op s0 l r).txt, rfl, rfl, _, rfl, ?_⟩
        refine iteT2 (decide_eq_true in40) ⟨by show 3 ≤ sizeLine; decide, fun Lb nLb => ?_⟩
        refine ⟨Lb, .list [.str (S (Fm.op s0 l r).txt), .int (((Fm.op s0 l r).ops : Nat) : Int), .none], rfl, .lst (SqL.of upd_same) (.cons (.str _) (.cons (.int _) (.cons .non .nil))), rk.1, rk.2.1, rk.2.2.1, rk.2.2.2, rfl, ?_⟩
        have sab := s15.trans (sa.trans (same_new (o := .lst [.str (S (Fm.op s0 l r).txt), .int (((Fm.op s0 l r).ops : Nat) : Int), .non]) nLb))
        have qq := q _ (LamX.ExtN.of sab) (hT.ext sab)
        rw [decide_eq_true rfl]
        exact qq
end
end L2.K06
set_option Elab.async false
set_option linter.all false
set_option maxRecDepth 100000
set_option maxHeartbeats 4000000
/-! s * n, n up to 4000 -/
namespace L2.Tb
open PySem PySem.Spec PyProof.Rows
section
variable {X : Cx}
def rMulSL : R2 := fun x y H Q => ∃ (z : Str) (n : Nat), x = .str z ∧ y = .int (n : Int) ∧ 1 ≤ n ∧ z.length ≠ 0 ∧ n ≤ 4000 ∧ z.length ≤ 1000 ∧ Q (.str ⟨((List.replicate n z.cps.toList).flatten).toArray⟩) H
theorem op_mulSL : OpR X (binaryOp .Mult) rMulSL := by
  intro pins s σ H x y v u Q I rx ry h
  obtain ⟨z, n, rfl, rfl, n1, z1, nb, zb, q⟩ := h
  obtain ⟨t, rfl⟩ := (show ∃ t, v = Value.str z t from rx)
  obtain ⟨t', rfl⟩ := (show ∃ t', u = Value.int (n : Int) t' from ry)
  have hlt : ¬ (n : Int) < 1 := by omega
  have mul : z.length * n ≤ 1000 * 4000 := Nat.mul_le_mul zb nb
  have eq1 : (⟨(List.replicate n z.cps).foldl (· ++ ·) #[]⟩ : Str) = ⟨((List.replicate n z.cps.toList).flatten).toArray⟩ := by
    congr 1
    apply Array.toList_inj.mp
    rw [rep_arr]
    simp
  refine P.mul_str ?_ (fun _ _ => ?_) (fun _ _ => ?_) ?_
  · rw [decide_eq_false (by omega), decide_eq_false (by omega)]
    rfl
  · have d : (1000 : Int) ≤ (2 ^ 63 - 1) / (n : Int) := by
      refine Int.le_ediv_of_mul_le (by omega) ?_
      omega
    omega
  · rw [Int.toNat_natCast]
    have : sizeLine = 16777216 := sizeLine_eq
    simp only [Builtin.Str.tooLong, decide_eq_false_iff_not]
    omega
  · rw [if_neg hlt]
    by_cases c : ((n : Int) == 1 || z.length == 0) = true
    · rw [if_pos c]
      have n1' : n = 1 := by
        rcases (Bool.or_eq_true _ _).mp c with c | c
        · have := beq_iff_eq.mp c
          omega
        · exact absurd (beq_iff_eq.mp c) z1
      subst n1'
      refine ⟨.str z, H, I, ⟨_, rfl⟩, ?_⟩
      simpa using q
    · rw [if_neg c]
      refine ⟨?_, ?_⟩
      · rw [Int.toNat_natCast, eq1]
        have e : (⟨((List.replicate n z.cps.toList).flatten).toArray⟩ : Str).length = n * z.length := by
          show ((List.replicate n z.cps.toList).flatten).toArray.size = _
          rw [List.size_toArray, List.length_flatten, List.map_replicate, List.sum_replicate_nat]
          rfl
        rw [e, Nat.mul_comm, sizeLine_eq]
        omega
      · rw [Int.toNat_natCast, eq1]
        exact ⟨.str _, H, I.tok _, ⟨_, rfl⟩, q⟩
end
end L2.Tb
set_option Elab.async false
set_option linter.all false
set_option maxRecDepth 100000
set_option maxHeartbeats 8000000
namespace L2.K06
open PySem PySem.Spec PyProof.Rows L2.Tb
open SX (S)
def spDeep (T : List (Addr × Str)) : Sp := fun vs H Q _ => vs = [] ∧ LamX.Tabs T H ∧ ∀ H', LamX.ExtN H H' → LamX.Tabs T H' → Q (.bl true) H'
theorem data_ne {K : PySem.W.Frag} {H : Hp} {x y : V} {d : PyData} {Q : VK} (hx : Dp K H x d) (hy : Dp K H y d) (lay : d.canLay0 = true) (dep : d.depth ≤ 64) (q : Q (.bl false) H) : rNeD K x y H Q := by
  have sh : SeqAt.shaped d = true := by
    show (PyData.canLay0 _ && decide (PyData.depth _ ≤ 64)) = true
    rw [Bool.and_eq_true]
    exact ⟨lay, decide_eq_true dep⟩
  refine ⟨_, _, hx, hy, sh, sh, ?_⟩
  rw [PySem.SeqAt.eqv_refl _ lay]
  exact q
theorem long_none {t : List Nat} (h : 120 < t.length) : parsedF t = none := by
  cases hp : parsedF t with
  | none => rfl
  | some f =>
    obtain ⟨ok, o8, rfl⟩ := parsed_iff.mp hp
    have := Fm.txt_len f ok
    omega
theorem rep_len (n : Nat) (l : List Nat) : (List.replicate n l).flatten.length = n * l.length := by
  rw [List.length_flatten, List.map_replicate, List.sum_replicate_nat]
theorem rep_asc {n : Nat} {l : List Nat} (h : ∀ c ∈ l, c < 128) : ∀ c ∈ (List.replicate n l).flatten, c < 128 := by
  intro c hc
  obtain ⟨x, hx, hc⟩ := List.mem_flatten.mp hc
  rw [List.eq_of_mem_replicate hx] at hc
  exact h c hc
def deepL : List (List Nat) := [(List.replicate 3000 [40]).flatten, (List.replicate 600 [40]).flatten ++ [97] ++ (List.replicate 600 [32, 42, 32, 97, 41]).flatten, (List.replicate 900 [40, 97]).flatten ++ (List.replicate 900 [41]).flatten, (List.replicate 3000 [97]).flatten, (List.replicate 3000 [32]).flatten]
theorem deep_ok : ∀ t ∈ deepL, 120 < t.length ∧ t.length ≤ 4000 ∧ ∀ c ∈ t, c < 128 := by
  intro t ht
  simp only [deepL, List.mem_cons, List.not_mem_nil, or_false] at ht
  have app : ∀ {a b : List Nat}, (∀ c ∈ a, c < 128) → (∀ c ∈ b, c < 128) → ∀ c ∈ a ++ b, c < 128 := fun ha hb c hc => (List.mem_append.mp hc).elim (ha c) (hb c)
  rcases ht with rfl | rfl | rfl | rfl | rfl
  · exact ⟨by rw [rep_len]; decide, by rw [rep_len]; decide, rep_asc (by decide)⟩
  · exact ⟨by simp only [List.length_append, rep_len]; decide, by simp only [List.length_append, rep_len]; decide, app (app (rep_asc (by decide)) (by decide)) (rep_asc (by decide))⟩
  · exact ⟨by simp only [List.length_append, rep_len]; decide, by simp only [List.length_append, rep_len]; decide, app (rep_asc (by decide)) (rep_asc (by decide))⟩
  · exact ⟨by rw [rep_len]; decide, by rw [rep_len]; decide, rep_asc (by decide)⟩
  · exact ⟨by rw [rep_len]; decide, by rw [rep_len]; decide, rep_asc (by decide)⟩
def longL : List Nat := (List.replicate 8 [40]).flatten ++ [97] ++ (List.replicate 8 [32, 62, 62, 32, 98, 41]).flatten
def longerL : List Nat := [40] ++ longL ++ [32, 42, 32, 97, 41]
theorem long_ok : longL.length ≤ 4000 ∧ (∀ c ∈ longL, c < 128) ∧ longerL.length ≤ 4000 ∧ (∀ c ∈ longerL, c < 128) ∧ parsedF longerL = none := by
  refine ⟨by decide +kernel, by decide +kernel, by decide +kernel, by decide +kernel, ?_⟩
  unfold parsedF
  rw [if_pos (by decide +kernel)]
theorem pe_calG0 {X : Cx} {k j : Nat} {x : Str} {sp : Sp} {p pos : Pos} (c : CalG X.prog X.w X.K X.mg X.base k x sp) (hr : Room j X.A) (hk : k ≤ j) (free : X.A.guards = some []) (hg : Gl X x) (hdb : (x == ("__debug__" : Str)) = false := by decide) :
    PE X (.Call (.Name x p) [] [] pos) (fun _ H Q => sp [] H Q E0) := by
  obtain ⟨f, fd, ps, len, R, hm, kp, b⟩ := c.ex
  refine ⟨fun pins s σ H Q I h => ?_⟩
  have hl := len _ _ _ _ h
  obtain rfl : ps = [] := List.eq_nil_of_length_eq_zero hl.symm
  exact (pe_at0 (R X.A (hr.mono hk) free) hg hm kp (fun s hK => b s [] hK rfl) hdb).run pins s σ H Q I h
section
variable {P : Program} {w : World} {K : PySem.W.Frag} {mg : Str → Option Value} {base : Heap} {at_ : Str × Option Str} {f : Addr} {fd fdt fdr : FuncData} {mc : Value} {ft fr pr FC CInvalidText P1 P2 P3 : Addr}
theorem c_ldeep (T : Bt mg) (mstr : mg "str" = none) (FF : FoF K mg FC) (TF : Told6 K mg CInvalidText) (RC : ClX.CRead K FC mc) (RM : ClX.CMet K FC mc "read" pr fr) (FR : FnR P w K mg base (L2.CX P w) 10 fr (spFread K FC CInvalidText))
    (SS : SpcM P w K mg base L2.CX0 FC "__str__" ["self"] 1 (spFstr FC)) (LL : SpcM P w K mg base L2.CX0 FC "__len__" ["self"] 1 (spFlen FC))
    (n1 : P1 ≠ P2) (n2 : P1 ≠ P3) (n3 : P2 ≠ P3) (Ft : FnP K "_law_told" s_told ft fdt) (mt : mg "_law_told" = some (.ref ft)) (TB : LamX.TabB base mg (He.codeOf K at_) P2)
    (k_lread : Cal P w K mg base 11 "_law_read" spLread) (k_lline : CalG P w K mg base 22 "_law_line_right" (spLine (tabsT P1 P2 P3)))
    (F : FnP K "_law_deep_right" s_ldeep (He.fAd K at_) fd) (hm : mg "_law_deep_right" = some (.ref (He.fAd K at_))) : CalG P w K mg base 24 "_law_deep_right" (spDeep (tabsT P1 P2 P3)) := by
  have hnd := sc_ldeep.nd
  obtain ⟨fs_, fds, hs, hsf, Fs, Bs⟩ := SS
  obtain ⟨fl_, fdl, hl, hlf, Fl, Bl⟩ := LL
  obtain ⟨tu1, tu2, tu3⟩ := tabs_u n1 n2 n3
  have b_told : Binds K fdt ["_law_act"] [] := Ft.bindsN fun _ _ _ _ _ _ us hl => match us, hl with | [_], _ => rfl
  refine calG_mkC F hm sc_ldeep (fun _ _ _ _ _ _ us hl => match us, hl with | [], _ => rfl) (fun vs H Q E h => ?_) (fun cdv A outer s H vs Q E hcd hg2 hr h => ?_)
  · obtain ⟨rfl, _⟩ := h
    rfl
  · subst hcd
    obtain ⟨rfl, hT, q⟩ := h
    have free := hg2
    have ktold := Ft.kp
    obtain ⟨oc, od, dV, kV, doc, pm, an, cdt, ct, osl, rfl, lk, hct, _, _⟩ := id Ft.ex
    refine ⟨_, (pss_cons (ps_for PassesOwn.never (by rfl) (pi_list (pe_lst (pa_cons (pe_op op_mulSL pe_str pe_int) (pa_cons (pe_op op_add_str (pe_op op_add_str (pe_op op_mulSL pe_str pe_int) pe_str) (pe_op op_mulSL pe_str pe_int)) (pa_cons (pe_op op_add_str (pe_op op_mulSL pe_str pe_int) (pe_op op_mulSL pe_str pe_int)) (pa_cons (pe_op op_mulSL pe_str pe_int) (pa_cons (pe_op op_mulSL pe_str pe_int) pa_nil))))))) (pg_name (i := 0) hnd rfl (by first | exact Or.inl rfl | exact Or.inr rfl))
      (pss_one (ps_if (pt_cmpR (show OpR _ (compareOp .NotEq) (rNeD K) from op_neD hr.units) (LamX.pe_lamcall (T := tabsT P1 P2 P3) (k := 10) (P := P2) (by rfl) mt ktold lk hct b_told sc_told rfl (by first | exact .inl rfl | exact .inr (.inl rfl)) (told_gives T mstr TF Fs Fl (hr.mono (by decide)) hs hsf Bs hl hlf Bl) TB rfl tabs_m2 tu2 (hr.mono (by decide)) (LamX.lamS_by (sc := defScope s_ldeep) (by decide +kernel)) rfl (fun _ _ _ _ _ => rfl) (fun A outer s H E f c' hr5 => (ClX.pe_cmeth (pe_glob (v := .ref FC) (by rfl) FF.mgF rfl) RC RM FR (hr5.mono (by decide)) (passes_call (takes_of rfl rfl rfl rfl) (fun _ _ _ _ h => h)) (pa_cons (pv 0) pa_nil)))) (pe_tup (pa_cons pe_str (pa_cons (pv 0) pa_nil))) (nomark _))
      (pss_one (ps_ret pe_bl))
      pss_nil)))
      (pss_cons (ps_set (i := 1) hnd rfl (by first | exact Or.inl rfl | exact Or.inr rfl) (pe_op op_add_str (pe_op op_add_str (pe_op op_mulSL pe_str pe_int) pe_str) (pe_op op_mulSL pe_str pe_int)))
      (pss_cons (ps_set (i := 2) hnd rfl (by first | exact Or.inl rfl | exact Or.inr rfl) (pe_op op_add_str (pe_op op_add_str pe_str (pv 1)) pe_str))
      (pss_one (ps_ret (pe_and (pe_calG k_lline hr (by omega) free (by rfl) (pa_cons (pv 1) pa_nil)) (pe_and (pe_calG k_lline hr (by omega) free (by rfl) (pa_cons (pv 2) pa_nil)) (pe_one (pe_cmpR (show OpR _ (compareOp .Eq) (rEqD K) from op_eqD hr.units) (pe_cal k_lread hr (by omega) (by rfl) (pa_cons (pv 2) pa_nil)) (pe_tup pa_nil) (nomark _)))))))))), ?_⟩
    have c1 : Str.ofString "(" = S [40] := by decide +kernel
    have c2 : Str.ofString "a" = S [97] := by decide +kernel
    have c3 : Str.ofString " * a)" = S [32, 42, 32, 97, 41] := by decide +kernel
    have c4 : Str.ofString "(a" = S [40, 97] := by decide +kernel
    have c5 : Str.ofString ")" = S [41] := by decide +kernel
    have c6 : Str.ofString " " = S [32] := by decide +kernel
    have c7 : Str.ofString " >> b)" = S [32, 62, 62, 32, 98, 41] := by decide +kernel
    rw [c1, c2, c3, c4, c5, c6, c7]
    have sz : ∀ {a b : List Nat}, a.length ≤ 4000 → b.length ≤ 4000 → (S a).length + (S b).length ≤ sizeLine := fun ha hb => by rw [SX.S_len, SX.S_len, sizeLine_eq]; omega
    have nz : ∀ {c : Nat} {l : List Nat}, (S (c :: l)).length ≠ 0 := fun {c l} => by rw [SX.S_len]; simp
    have l1 : ∀ {l : List Nat}, l.length ≤ 10 → (S l).length ≤ 1000 := fun h => by rw [SX.S_len]; omega
    refine ⟨S [40], 3000, rfl, rfl, by decide, nz, by decide, l1 (by decide), ?_⟩
    refine ⟨S [40], 600, rfl, rfl, by decide, nz, by decide, l1 (by decide), _, _, rfl, rfl, sz (by rw [rep_len]; decide) (by decide), ?_⟩
    rw [SX.S_cat]
    refine ⟨S [32, 42, 32, 97, 41], 600, rfl, rfl, by decide, nz, by decide, l1 (by decide), _, _, rfl, rfl, sz (by rw [List.length_append, rep_len]; decide) (by rw [rep_len]; decide), ?_⟩
    rw [SX.S_cat]
    refine ⟨S [40, 97], 900, rfl, rfl, by decide, nz, by decide, l1 (by decide), S [41], 900, rfl, rfl, by decide, nz, by decide, l1 (by decide), _, _, rfl, rfl, sz (by rw [rep_len]; decide) (by rw [rep_len]; decide), ?_⟩
    rw [SX.S_cat]
    refine ⟨S [97], 3000, rfl, rfl, by decide, nz, by decide, l1 (by decide), ?_⟩
    refine ⟨S [32], 3000, rfl, rfl, by decide, nz, by decide, l1 (by decide), ?_⟩
    refine ⟨by show 5 ≤ sizeLine; decide, fun W nW => ?_⟩
    have sW := same_new (o := .lst (deepL.map nmV)) nW
    have eW : (upd H W (.lst (deepL.map nmV))) W = some (.lst (deepL.map nmV)) := upd_same
    have hT1 := hT.ext sW
    refine ⟨W, rfl, ⟨_, SqL.of eW⟩, ?_⟩
    refine for_list (K := K) (a := W) (xs := deepL.map nmV) (fun i σ' G => LamX.ExtN (upd H W (.lst (deepL.map nmV))) G ∧ LamX.Tabs (tabsT P1 P2 P3) G ∧ ∃ y0 : Option V, σ' = [y0, none, none]) ⟨LamX.ExtN.refl _, hT1, _, rfl⟩ (fun i σ' G _ z => SqL.of (z.1 _ _ eW (fun ps z => by cases z))) ?_ ?_
    · rintro i x σ' G hi ⟨xG, tG, y0, rfl⟩
      rw [List.getElem?_map] at hi
      obtain ⟨t, ht, rfl⟩ := Option.map_eq_some_iff.mp hi
      obtain ⟨g1, g2, g3⟩ := deep_ok t (List.mem_of_getElem? ht)
      refine gname_go ?_
      try dsimp only
      refine ⟨tG, fun G2 y w => rd_tl (K := K) (.inl ⟨t, rfl, g2, long_none g1⟩) (fun E9 Qf h => ⟨rfl, _, rfl, h⟩) fun T3 G3 s3 e3 => ?_⟩
      refine ⟨_, rfl, by show 2 ≤ sizeLine; decide, fun T4 nT4 => ?_⟩
      have s4 := same_new (o := .tup [.str (Str.ofString "text"), .str (S t)]) nT4
      refine data_ne (d := .tuple [.str (Str.ofString "text"), .str (S t)]) (.tup (SqT.of (s4 _ _ e3)) (.cons (.str _) (.cons (.str _) .nil))) (.tup (SqT.of upd_same) (.cons (.str _) (.cons (.str _) .nil))) (by simp only [PyData.canLay0, PyData.canLayAll0, strOk_of g3, text_ok, Bool.and_self]) (by simp [PyData.depth, PyData.depthAll]) ⟨_, rfl, iteF ?_⟩
      exact ⟨(xG.trans y).trans (LamX.ExtN.of (s3.trans s4)), (w.ext s3).ext s4, _, rfl⟩
    · rintro σ' G ⟨xG, tG, y0, rfl⟩
      obtain ⟨k1, k2, k3, k4, k5⟩ := long_ok
      refine ⟨S [40], 8, rfl, rfl, by decide, nz, by decide, l1 (by decide), _, _, rfl, rfl, sz (by rw [rep_len]; decide) (by decide), ?_⟩
      rw [SX.S_cat]
      refine ⟨S [32, 62, 62, 32, 98, 41], 8, rfl, rfl, by decide, nz, by decide, l1 (by decide), _, _, rfl, rfl, sz (by rw [List.length_append, rep_len]; decide) (by rw [rep_len]; decide), ?_⟩
      rw [SX.S_cat]
      refine gname_go ?_
      try dsimp only
      refine ⟨_, rfl, _, _, rfl, rfl, sz (by decide) (by decide +kernel), ?_⟩
      rw [SX.S_cat]
      refine ⟨_, _, rfl, rfl, sz (by decide +kernel) (by decide), ?_⟩
      rw [SX.S_cat]
      refine gname_go ?_
      try dsimp only
      have xH := (LamX.ExtN.of sW).trans xG
      refine ret_go ?_
      refine ⟨_, rfl, longL, rfl, k1, k2, tG, fun G1 x1 t1 => ⟨_, rfl, iteT ⟨_, rfl, longerL, rfl, k3, k4, t1, fun G2 x2 t2 => ⟨_, rfl, iteT ⟨_, rfl, longerL, rfl, k3, fun r G3 s3 rr => ?_⟩⟩⟩⟩⟩
      rw [k5] at rr
      obtain ⟨T1, rfl, eT1⟩ := rr
      refine ⟨by show 0 ≤ sizeLine; decide, fun T2 nT2 => ?_⟩
      have s4 := same_new (o := .tup []) nT2
      refine ⟨.tuple [], .tuple [], .tup (SqT.of (s4 _ _ eT1)) .nil, .tup (SqT.of upd_same) .nil, by decide, by decide, ?_⟩
      rw [show PyData.eqv (.tuple []) (.tuple []) = true from by decide]
      exact q _ (((xH.trans x1).trans x2).trans (LamX.ExtN.of (s3.trans s4))) ((t2.ext s3).ext s4)
end
end L2.K06
set_option Elab.async false
set_option linter.all false
set_option maxRecDepth 100000
set_option maxHeartbeats 8000000
namespace L2.K06
open PySem PySem.Spec PyProof.Rows L2.Tb
open SX (S)
def spRight6 (T : List (Addr × Str)) : Sp := fun vs H Q _ => ∃ p : Addr, vs = [.ref p] ∧ Purse H p ∧ LamX.Tabs T H ∧ ∀ H' : Hp, ExtB p H H' → Purse H' p → LamX.Tabs T H' → Q (.bl true) H'
theorem near_ok : 0 < (Str.ofString "()*/> az09").length ∧ (Str.ofString "()*/> az09").length ≤ 1000 ∧ Okz (Str.ofString "()*/> az09") := ⟨by decide +kernel, by decide +kernel, okz_iff.mpr (by decide +kernel)⟩
section
variable {P : Program} {w : World} {K : PySem.W.Frag} {mg : Str → Option Value} {base : Heap} {at_ : Str × Option Str} {f : Addr} {fd fdt fdr : FuncData} {mc : Value} {ft fr pr FC CInvalidText P1 P2 P3 : Addr}
theorem c_right (T : Bt mg) (mstr : mg "str" = none) (FF : FoF K mg FC) (TF : Told6 K mg CInvalidText) (RC : ClX.CRead K FC mc) (RM : ClX.CMet K FC mc "read" pr fr) (FR : FnR P w K mg base (L2.CX P w) 10 fr (spFread K FC CInvalidText))
    (SS : SpcM P w K mg base L2.CX0 FC "__str__" ["self"] 1 (spFstr FC)) (LL : SpcM P w K mg base L2.CX0 FC "__len__" ["self"] 1 (spFlen FC))
    (n1 : P1 ≠ P2) (n2 : P1 ≠ P3) (n3 : P2 ≠ P3) (Ft : FnP K "_law_told" s_told ft fdt) (mt : mg "_law_told" = some (.ref ft)) (TB : LamX.TabB base mg (He.codeOf K at_) P3)
    (k_draw : Cal P w K mg base 1 "_law_draw" spDraw) (k_names : Cal P w K mg base 3 "_law_names" spNames) (k_ltree : Cal P w K mg base 11 "_law_tree" (spLtree 9)) (k_ltext : Cal P w K mg base 10 "_law_text" (spLtext 9)) (k_odd : Cal P w K mg base 2 "_law_odd" spOdd3) (k_bent : Cal P w K mg base 3 "_law_bent" spBent) (k_alike : Cal P w K mg base 6 "_law_alike" (spAlike 5))
    (k_lline : CalG P w K mg base 22 "_law_line_right" (spLine (tabsT P1 P2 P3)))
    (F : FnP K "_law_right" s_right (He.fAd K at_) fd) (hm : mg "_law_right" = some (.ref (He.fAd K at_))) : CalG P w K mg base 24 "_law_right" (spRight6 (tabsT P1 P2 P3)) := by
  have hnd := sc_right.nd
  obtain ⟨fs_, fds, hs, hsf, Fs, Bs⟩ := SS
  obtain ⟨fl_, fdl, hl, hlf, Fl, Bl⟩ := LL
  obtain ⟨tu1, tu2, tu3⟩ := tabs_u n1 n2 n3
  have b_told : Binds K fdt ["_law_act"] [] := Ft.bindsN fun _ _ _ _ _ _ us hl => match us, hl with | [_], _ => rfl
  refine calG_mkC F hm sc_right (fun _ _ _ _ _ _ us hl => match us, hl with | [_], _ => rfl) (fun vs H Q E h => ?_) (fun cdv A outer s H vs Q E hcd hg2 hr h => ?_)
  · obtain ⟨p, rfl, _⟩ := h
    rfl
  · subst hcd
    obtain ⟨p, rfl, hp, hT, q⟩ := h
    have free := hg2
    have ktold := Ft.kp
    obtain ⟨oc, od, dV, kV, doc, pm, an, cdt, ct, osl, rfl, lk, hct, _, _⟩ := id Ft.ex
    refine ⟨_, (pss_cons (ps_set (i := 1) hnd rfl (by first | exact Or.inl rfl | exact Or.inr rfl) (pe_cal k_names hr (by omega) (by rfl) (pa_cons (pv 0) (pa_cons (pe_op op_add pe_int (pe_cal k_draw hr (by omega) (by rfl) (pa_cons (pv 0) (pa_cons pe_int pa_nil)))) pa_nil))))
      (pss_cons (ps_set (i := 2) hnd rfl (by first | exact Or.inl rfl | exact Or.inr rfl) (pe_cal k_ltree hr (by omega) (by rfl) (pa_cons (pv 0) (pa_cons (pv 1) (pa_cons (pe_cal k_draw hr (by omega) (by rfl) (pa_cons (pv 0) (pa_cons pe_int pa_nil))) pa_nil)))))
      (pss_cons (ps_set (i := 3) hnd rfl (by first | exact Or.inl rfl | exact Or.inr rfl) (pe_cal k_ltext hr (by omega) (by rfl) (pa_cons (pv 2) pa_nil)))
      (pss_cons (ps_if (pt_not (pt_val (pe_calG k_lline hr (by omega) free (by rfl) (pa_cons (pv 3) pa_nil))))
      (pss_one (ps_ret pe_bl))
      pss_nil)
      (pss_cons (ps_for PassesOwn.never (by rfl) (pi_range1 (by rfl) T.m_range (pa_cons pe_int pa_nil)) (pg_name (i := 4) hnd rfl (by first | exact Or.inl rfl | exact Or.inr rfl))
      (pss_cons (ps_set (i := 5) hnd rfl (by first | exact Or.inl rfl | exact Or.inr rfl) (pe_cal k_bent hr (by omega) (by rfl) (pa_cons (pv 0) (pa_cons (pv 3) (pa_cons pe_str pa_nil)))))
      (pss_one (ps_if (PW.pt (pw_or (pt_not (pt_val (pe_calG k_lline hr (by omega) free (by rfl) (pa_cons (pv 5) pa_nil)))) (pw_or1 (pt_not (pt_val (pe_calG k_lline hr (by omega) free (by rfl) (pa_cons (pe_cal k_bent hr (by omega) (by rfl) (pa_cons (pv 0) (pa_cons (pv 5) (pa_cons pe_str pa_nil)))) pa_nil)))))))
      (pss_one (ps_ret pe_bl))
      pss_nil))))
      (pss_cons (ps_set (i := 6) hnd rfl (by first | exact Or.inl rfl | exact Or.inr rfl) (pe_cal k_odd hr (by omega) (by rfl) (pa_cons (pv 0) pa_nil)))
      (pss_cons (ps_if (pt_val (pe_callB call_isi (by rfl) T.m_isinstance (by decide +kernel) (pa_cons (pv 6) (pa_cons (pe_bltn (v := .ty "str") (by rfl) mstr (by decide +kernel) rfl) pa_nil))))
      (pss_one (ps_ret (pe_calG k_lline hr (by omega) free (by rfl) (pa_cons (pv 6) pa_nil))))
      pss_nil)
      (pss_one (ps_ret (pe_cal k_alike hr (by omega) (by rfl) (pa_cons (LamX.pe_lamcall (T := tabsT P1 P2 P3) (k := 10) (P := P3) (by rfl) mt ktold lk hct b_told sc_told rfl (by first | exact .inl rfl | exact .inr (.inl rfl)) (told_gives T mstr TF Fs Fl (hr.mono (by decide)) hs hsf Bs hl hlf Bl) TB rfl tabs_m3 tu3 (hr.mono (by decide)) (LamX.lamS_by (sc := defScope s_right) (by decide +kernel)) rfl (fun _ _ _ _ _ => rfl) (fun A outer s H E f c' hr5 => (ClX.pe_cmeth (pe_glob (v := .ref FC) (by rfl) FF.mgF rfl) RC RM FR (hr5.mono (by decide)) (passes_call (takes_of rfl rfl rfl rfl) (fun _ _ _ _ h => h)) (pa_cons (pv 6) pa_nil)))) (pa_cons (pe_tup (pa_cons pe_str (pa_cons (pv 6) pa_nil))) pa_nil)))))))))))), ?_⟩
    refine ⟨_, rfl, _, rfl, p, 3, rfl, hp, by decide, by decide, fun d H1 d0 d1 b1 p1 => ⟨_, _, rfl, rfl, ?_⟩⟩
    obtain ⟨k, rfl⟩ := Int.eq_ofNat_of_zero_le d0
    refine ⟨p, 1 + k, by rw [show ((1 + k : Nat) : Int) = 1 + (k : Int) by omega]; rfl, p1, by omega, fun ls L H2 ll nl b2 p2 nLp nL eL => gname_go ?_⟩
    try dsimp only
    refine ⟨_, rfl, _, rfl, _, rfl, p, 10, rfl, p2, by decide, by decide, fun d H3 d0 d1 b3 p3 => ?_⟩
    obtain ⟨m, rfl⟩ := Int.eq_ofNat_of_zero_le d0
    have eL3 := b3 _ _ nLp eL
    refine ⟨p, L, ls, m, rfl, p3, eL3, nLp, by omega, by omega, fun l hl => nl.ok l hl, by omega, by omega, fun v f0 H4 b4 p4 tv okf of => gname_go ?_⟩
    try dsimp only
    have b04 := ((b1.trans b2).trans b3).trans b4
    have t4 := tabs_B hT hp b04
    have df := Fm.dep_ops f0
    have tl := Fm.txt_len f0 okf
    have asc := txt_asc f0 okf
    refine ⟨_, rfl, v, f0, rfl, tv, okf, by omega, by omega, gname_go ?_⟩
    try dsimp only
    refine ⟨_, rfl, f0.txt, rfl, by omega, asc, t4, fun H5 x5 t5 => ⟨_, rfl, iteF ?_⟩⟩
    dsimp only [tNext]
    have X5 : ExtB p H H5 := (ExtB.ofB b04).trans (ExtB.ofN x5)
    have p5 := purse_N p4 x5
    obtain ⟨y0, y1, yz⟩ := near_ok
    have lz : ∀ z : Str, z.cps.toList.length = z.length := fun z => by rw [Array.length_toList]; rfl
    refine ⟨_, rfl, by decide, by decide, ?_⟩
    refine for_range (n := (3 : Int).toNat) (fun i σ' G => ExtB p H G ∧ Purse G p ∧ LamX.Tabs (tabsT P1 P2 P3) G ∧ ∃ a4 a5 : Option V, σ' = [some (.ref p), some (.ref L), some v, some (.str (S f0.txt)), a4, a5, none]) ⟨X5, p5, t5, _, _, rfl⟩ ?_ ?_
    · rintro i σ' G hi ⟨xG, pG, tG, a4, a5, rfl⟩
      refine gname_go ?_
      try dsimp only
      refine ⟨_, rfl, _, rfl, p, S f0.txt, _, rfl, pG, by rw [SX.S_len]; omega, y0, y1, fun c hc => asc c hc, yz, fun c G2 b2 p2 lc oc => gname_go ?_⟩
      try dsimp only
      have t2 := tabs_B tG pG b2
      have lS : (S f0.txt).length = f0.txt.length := SX.S_len _
      have l1 := lz c
      refine ⟨_, rfl, c.cps.toList, rfl, by omega, oc, t2, fun G3 x3 t3 => ⟨_, rfl, iteF ?_⟩⟩
      refine ⟨_, rfl, _, rfl, p, c, _, rfl, purse_N p2 x3, by omega, y0, y1, oc, yz, fun c2 G4 b4' p4' lc2 oc2 => ?_⟩
      have l2 := lz c2
      have t4' := tabs_B t3 (purse_N p2 x3) b4'
      refine ⟨c2.cps.toList, rfl, by omega, oc2, t4', fun G5 x5' t5' => ⟨_, rfl, iteF ?_⟩⟩
      exact ⟨(((xG.trans (ExtB.ofB b2)).trans (ExtB.ofN x3)).trans (ExtB.ofB b4')).trans (ExtB.ofN x5'), purse_N p4' x5', t5', _, _, rfl⟩
    · rintro σ' G ⟨xG, pG, tG, a4, a5, rfl⟩
      dsimp only
      refine ⟨_, rfl, p, rfl, pG, fun o G2 b2 p2 od os ot => gname_go ?_⟩
      try dsimp only
      have t2 := tabs_B tG pG b2
      have X2 := xG.trans (ExtB.ofB b2)
      rcases od_th (K := K) od os with ⟨l, rfl, l9⟩ | hn
      · have oa := ot.1
        simp only [okA, Bool.and_eq_true, decide_eq_true_eq, List.all_eq_true] at oa
        refine ⟨_, rfl, _, _, _, _, _, rfl, .ty _, .base (.str _), (by rfl : PySem.W.kitOne K (.type "str") (.type "str") = some true), _, rfl, iteT ?_⟩
        exact ⟨_, rfl, l, rfl, by have := oa.1; rw [SX.S_len] at this; omega, oa.2, t2, fun G3 x3 t3 => q _ (X2.trans (ExtB.ofN x3)) (purse_N p2 x3) t3⟩
      · obtain ⟨ty, tyx, kit⟩ := hn.ex
        refine ⟨_, rfl, _, _, _, _, _, rfl, .ty _, tyx, kit, _, rfl, iteF ?_⟩
        dsimp only [tNext]
        have al8 := (od_up od).al
        refine ret_go ⟨t2, fun G3 y3 w3 => rd_tl (K := K) (.inr (hn.N y3)) (fun E9 Qf h => ⟨rfl, _, rfl, h⟩) fun T3 G4 s4 e4 => ?_⟩
        refine ⟨_, rfl, by show 2 ≤ sizeLine; decide, fun T4 nT4 => ?_⟩
        have s5 := same_new (o := .tup [.str (Str.ofString "text"), o]) nT4
        have y5 := y3.trans (LamX.ExtN.of (s4.trans s5))
        refine ⟨_, _, rfl, al_two (s5 _ _ e4) upd_same (al_N y5 al8), fun G6 s6 => ?_⟩
        exact q _ (X2.trans (ExtB.ofN (y5.trans (LamX.ExtN.of s6)))) (purse_N p2 (y5.trans (LamX.ExtN.of s6))) (((w3.ext s4).ext s5).ext s6)
end
end L2.K06
set_option Elab.async false
set_option linter.all false
set_option maxRecDepth 100000
set_option maxHeartbeats 8000000
namespace L2.K06
open PySem PySem.Spec PyProof.Rows L2.Tb
open SX (S)
abbrev s_law : Stmt := top 45
abbrev N_law : List Str := ["_law_cells", "_law_k"]
theorem sc_law : FnScope N_law ["_law_cells"] (defScope s_law) := ⟨rfl, rfl, rfl, by decide +kernel, rfl, by decide +kernel, by decide +kernel⟩
theorem sq_same {K : PySem.W.Frag} {H H' : Hp} {a : Addr} {xs : List V} (h : SqL K H a xs) (s : LamX.ExtN H H') : SqL K H' a xs := by
  rcases h with (h | ⟨o, h⟩) | h
  · exact .inl (.inl (s _ _ h (fun ps z => by cases z)))
  · exact .inl (.inr ⟨o, s _ _ h (fun ps z => by cases z)⟩)
  · exact .inr h
def spLaw (K : PySem.W.Frag) (T : List (Addr × Str)) : Sp := fun vs H Q _ => ∃ (a : Addr) (ns : List Int), vs = [.ref a] ∧ SqL K H a (ns.map V.int) ∧ (∀ z ∈ ns, iBits z ≤ 1048576) ∧ ns.length ≤ 63 ∧ LamX.Tabs T H ∧ ∀ H' : Hp, Q (.bl true) H'
section
variable {P : Program} {w : World} {K : PySem.W.Frag} {mg : Str → Option Value} {base : Heap} {f : Addr} {fd : FuncData} {TT : List (Addr × Str)} {A : Around}
theorem r_law (T : Bt mg) (F : FnP K "law" s_law f fd) (hroom : Room 27 A) (hg : A.guards = some []) (k_cell : Cal P w K mg base 1 "_law_cell" (spCell K)) (k_purse : Cal P w K mg base 1 "_law_purse" spPurse) (k_ldeep : CalG P w K mg base 24 "_law_deep_right" (spDeep TT)) (k_right : CalG P w K mg base 24 "_law_right" (spRight6 TT)) : RunsAt P w K mg base f fd ["_law_cells"] (spLaw K TT) A := by
  have hnd := sc_law.nd
  refine runs_body F sc_law hroom fun cdv outer s H vs Q E hr h => ?_
  have free : (A.deeper (envOfC "law" (defScope s_law) s.heap.objs.size f cdv)).guards = some [] := hg
  obtain ⟨a, ns, rfl, hs, hb, hl, hT, q⟩ := h
  refine ⟨_, PSs.nox (pss_cons (ps_if (pt_not (pt_val (pe_calG0 k_ldeep hr (by omega) free (by rfl))))
      (pss_one (ps_ret pe_bl))
      pss_nil)
      (pss_one (ps_ret (pe_callB (cr_all (by rfl)) (by rfl) T.m_all (by decide +kernel) (pa_cons (pe_lc (own := [("_law_k", 1)]) (tt := tYes) (by rfl) hnd (pi_range1 (by rfl) T.m_range (pa_cons (pe_callB (call_max2 (by rfl)) (by rfl) T.m_max (by decide +kernel) (pa_cons pe_int (pa_cons (pe_callB (call_min2 (by rfl)) (by rfl) T.m_min (by decide +kernel) (pa_cons (pe_callB call_len_seq (by rfl) T.m_len (by decide +kernel) (pa_cons (pv 0) pa_nil)) (pa_cons pe_int pa_nil))) pa_nil))) pa_nil)) (blkOk_by (own := [("_law_k", 1)]) (N := N_law) (sc := defScope s_law) (by decide +kernel)) (fun _ _ _ _ _ => (pg_name (i := 1) hnd rfl (by first | exact Or.inl rfl | exact Or.inr rfl))) (fun _ _ _ _ _ => pts_nil) (fun _ _ _ _ _ => (pe_calG k_right hr (by omega) free (by rfl) (pa_cons (pe_cal k_purse hr (by omega) (by rfl) (pa_cons (pe_cal k_cell hr (by omega) (by rfl) (pa_cons (pv 0) (pa_cons (pv 1) pa_nil))) pa_nil)) pa_nil)))) pa_nil))))), ?_⟩
  refine ⟨rfl, hT, fun G7 x0 t7 => ⟨_, rfl, iteF ?_⟩⟩
  dsimp only [tNext]
  refine ret_go (cb_one ?_)
  refine ⟨_, rfl, a, _, rfl, .inl (sq_same hs x0), _, _, rfl, _, _, rfl, _, rfl, ?_⟩
  have hb0 : ∀ z : Int, 0 ≤ (if (if 4 < z then 4 else z) > 2 then if 4 < z then 4 else z else 2) ∧ (if (if 4 < z then 4 else z) > 2 then if 4 < z then 4 else z else 2) ≤ 4 := fun z => by
    by_cases h1 : 4 < z
    · rw [if_pos h1, if_pos (by decide)]
      decide
    · rw [if_neg h1]
      by_cases h2 : z > 2
      · rw [if_pos h2]
        omega
      · rw [if_neg h2]
        decide
  have hm := hb0 ((ns.map V.int).length : Nat)
  generalize (if (if 4 < (((ns.map V.int).length : Nat) : Int) then 4 else (((ns.map V.int).length : Nat) : Int)) > 2 then if 4 < (((ns.map V.int).length : Nat) : Int) then 4 else (((ns.map V.int).length : Nat) : Int) else 2) = m at hm ⊢
  refine ⟨by omega, by omega, fun D nD => ?_⟩
  refine lc_range (fun n H' => LamX.ExtN G7 H' ∧ LamX.Tabs _ H' ∧ H' D = some (.lst (List.replicate n (.bl true)))) ⟨LamX.ExtN.of (same_new nD), t7.ext (same_new nD), upd_same⟩ ?_ ?_
  · rintro j H1 hj ⟨x1, t1, e1⟩
    refine ⟨rfl, ?_⟩
    unfold tYes
    dsimp only
    rw [if_pos rfl]
    refine ⟨_, rfl, _, rfl, a, ns, j, by rw [Int.zero_add]; rfl, sq_same hs (x0.trans x1), hb, by omega, fun z H2 s2 hz => ⟨z, rfl, hz, fun p H3 s3 np hp => ⟨p, rfl, hp, (t1.ext s2).ext s3, fun H4 x4 u4 t4 => ?_⟩⟩⟩
    have x24 : LamX.ExtN H2 H4 := fun b o e n => x4 b o (ne_of_none e np) (s3 b o e) n
    have x14 := (LamX.ExtN.of s2).trans x24
    have e4 := x14 _ _ e1 (fun ps z => by cases z)
    have nDx : ∀ {H5 : Hp} {o : HO}, LamX.ExtN G7 H5 → LamX.ExtN G7 (upd H5 D o) := fun {H5 o} x b u e n => by
      rw [upd_ne (ne_of_none e nD)]
      exact x b u e n
    refine ⟨_, e4, by rw [List.length_replicate, sizeLine_eq]; omega, nDx (x1.trans x14), ?_, by rw [upd_same, ← List.replicate_succ']⟩
    have out : ∀ {b o}, H4 b = some o → (∀ xs, o ≠ .lst xs) → (upd H4 D (.lst (List.replicate j (.bl true) ++ [.bl true]))) b = some o := fun {b o} eb no => by
      rw [upd_ne fun z => ?_]
      · exact eb
      · rw [z, e4] at eb
        exact no _ (Option.some.inj eb).symm
    intro q' hq
    obtain ⟨ps, h1, h2, h3⟩ := t4 q' hq
    refine ⟨ps, out h1 (fun xs z => by cases z), h2, fun pos cv hc => ?_⟩
    obtain ⟨c', y1, y2⟩ := h3 pos cv hc
    refine ⟨c', y1, out y2 fun xs z => ?_⟩
    unfold LamX.CodeO at z
    cases z
  · rintro H1 ⟨x1, t1, e1⟩
    refine ⟨D, List.replicate _ true, rfl, SqL.of (by rw [e1, List.map_replicate]), ?_⟩
    rw [show (List.replicate m.toNat true).all id = true from List.all_eq_true.mpr fun b' hb' => by rw [List.eq_of_mem_replicate hb']; rfl]
    exact q _
end
theorem fread_kw {K : PySem.W.Frag} {f : Addr} {fd : FuncData} (F : FunD K "read" "Formula.read" (defArgs s_fread) (defBody s_fread) (defScope s_fread) [] [] f fd) (C : Addr) (sh : Shared) (zs : List Value) (hl : zs.length = (["text"] : List Str).length) : BindsTo sh fd ⟨[.ref C], (["text"] : List Str).zip zs⟩ ((["cls", "text"] : List Str).zip (Value.ref C :: zs)) := by
  obtain ⟨oc, od, dV, kV, doc, pm, an, cdv, ct, osl, rfl, lk, hcd, hD, hK⟩ := F.ex
  match zs, hl with
  | [v], _ =>
    rcases hD with ⟨_, rfl⟩ | ⟨e, _⟩
    · exact .of_eq rfl
    · exact absurd rfl e
end L2.K06
set_option Elab.async false
set_option linter.all false
set_option maxRecDepth 100000
set_option maxHeartbeats 0
namespace L2.K06
open PySem PySem.Spec PyProof.Rows L2.Tb
open SX (S)
section
variable {P : Program} {w : World} {K : PySem.W.Frag} {mg : Str → Option Value} {h : Heap}
theorem ends {f : Addr} (G : h.Ns mainGlobals mg) (hfa : mg ("law" : Str) = some (.ref f)) (c : SaysH factB fnA tabL cdL w h K) :
    ∃ (fd : FuncData) (T : List (Addr × Str)), (∀ (s : Shared) (v : Value), BindsTo s fd ⟨[v], []⟩ [("_law_cells", v)]) ∧ (∀ H : Hp, (∀ p ∈ cdL.map (He.cT K), H p.2 = some (.tbl #[])) → LamX.Tabs T H) ∧
      
      ∀ base : Heap, K.In base → base.Ns mainGlobals mg → (∀ p ∈ cdL.map (He.cT K), LamX.TabB base mg p.1 p.2) → RunsAt P w K mg base f fd ["_law_cells"] (spLaw K T) callerA := by
  have X := c.kin
  obtain ⟨f1, z⟩ := He.ba (show factB K = true from c.fb)
  obtain ⟨f2, z⟩ := He.ba z
  obtain ⟨fErr, z⟩ := He.ba z
  obtain ⟨fMany, z⟩ := He.ba z
  obtain ⟨fL, z⟩ := He.ba z
  obtain ⟨fD, z⟩ := He.ba z
  obtain ⟨fM, z⟩ := He.ba z
  obtain ⟨fMo, z⟩ := He.ba z
  obtain ⟨c_cls, z⟩ := He.ba z
  obtain ⟨c_n1, z⟩ := He.ba z
  obtain ⟨c_n2, z⟩ := He.ba z
  obtain ⟨c_n3, z⟩ := He.ba z
  obtain ⟨c_n4, z⟩ := He.ba z
  obtain ⟨c_n5, z⟩ := He.ba z
  obtain ⟨c_n6, z⟩ := He.ba z
  obtain ⟨c_n7, z⟩ := He.ba z
  obtain ⟨c_mkr, z⟩ := He.ba z
  obtain ⟨c_ins, z⟩ := He.ba z
  obtain ⟨c_self, z⟩ := He.ba z
  obtain ⟨c_fmt, z⟩ := He.ba z
  obtain ⟨c_ne, z⟩ := He.ba z
  obtain ⟨c_m___mul__, z⟩ := He.ba z
  obtain ⟨c_m___floordiv__, z⟩ := He.ba z
  obtain ⟨c_m___rshift__, z⟩ := He.ba z
  obtain ⟨c_m___contains__, z⟩ := He.ba z
  obtain ⟨c_m___len__, z⟩ := He.ba z
  obtain ⟨c_m___eq__, z⟩ := He.ba z
  obtain ⟨c_m___str__, z⟩ := He.ba z
  obtain ⟨c_p_sign, z⟩ := He.ba z
  obtain ⟨c_p_name, z⟩ := He.ba z
  obtain ⟨c_p_left, z⟩ := He.ba z
  obtain ⟨c_p_right, z⟩ := He.ba z
  obtain ⟨c_p_parts, z⟩ := He.ba z
  obtain ⟨c_sf, z⟩ := He.ba z
  obtain ⟨c_r_Mult, z⟩ := He.ba z
  obtain ⟨c_r_FloorDiv, z⟩ := He.ba z
  obtain ⟨c_r_RShift, z⟩ := He.ba z
  obtain ⟨fSig, z⟩ := He.ba z
  obtain ⟨fKs, z⟩ := He.ba z
  obtain ⟨fKn, z⟩ := He.ba z
  obtain ⟨fNs, z⟩ := He.ba z
  obtain ⟨fSub, z⟩ := He.ba z
  obtain ⟨fCr, z⟩ := He.ba z
  obtain ⟨fCm, z⟩ := He.ba z
  obtain ⟨ne01, z⟩ := He.ba z
  obtain ⟨ne02, z⟩ := He.ba z
  have ne12 := z
  have T : Bt mg := ⟨He.free_ok X G (all_get f2 0), He.free_ok X G (all_get f2 1), He.free_ok X G (all_get f2 2), He.free_ok X G (all_get f2 3), He.free_ok X G (all_get f2 4), He.free_ok X G (all_get f2 5), He.free_ok X G (all_get f2 6), He.free_ok X G (all_get f2 7), He.free_ok X G (all_get f2 8), He.free_ok X G (all_get f2 9), He.free_ok X G (all_get f2 10), He.free_ok X G (all_get f2 11), He.free_ok X G (all_get f2 12), He.free_ok X G (all_get f2 13), He.free_ok X G (all_get f2 14), He.free_ok X G (all_get f2 15), He.free_ok X G (all_get f2 16), He.free_ok X G (all_get f2 17), He.free_ok X G (all_get f2 18)⟩
  have mstr : mg "str" = none := He.free_ok X G (all_get f2 19)
  obtain ⟨fd_is_name, F_is_name⟩ := c.nth (d := dTop "is_name" 13) 0
  have g_is_name := He.glo_ok X G (all_get f1 6)
  obtain ⟨fd_letter, F_letter⟩ := c.nth (d := dTop "letter" 17) 1
  have g_letter := He.glo_ok X G (all_get f1 7)
  obtain ⟨fd_check_formula, F_check_formula⟩ := c.nth (d := dTop "check_formula" 19) 2
  have g_check_formula := He.glo_ok X G (all_get f1 8)
  obtain ⟨fd__signed, F__signed⟩ := c.nth (d := dTop "_signed" 20) 3
  have g__signed := He.glo_ok X G (all_get f1 9)
  obtain ⟨fd__in_order, F__in_order⟩ := c.nth (d := dTop "_in_order" 21) 4
  have g__in_order := He.glo_ok X G (all_get f1 10)
  obtain ⟨fd__parsed, F__parsed⟩ := c.nth (d := dTop "_parsed" 22) 5
  have g__parsed := He.glo_ok X G (all_get f1 11)
  obtain ⟨fd__closed, F__closed⟩ := c.nth (d := dTop "_closed" 23) 6
  have g__closed := He.glo_ok X G (all_get f1 12)
  obtain ⟨fd_cell, F_cell⟩ := c.nth (d := dTop "_law_cell" 25) 7
  have g_cell := He.glo_ok X G (all_get f1 13)
  obtain ⟨fd_purse, F_purse⟩ := c.nth (d := dTop "_law_purse" 26) 8
  have g_purse := He.glo_ok X G (all_get f1 14)
  obtain ⟨fd_draw, F_draw⟩ := c.nth (d := dTop "_law_draw" 27) 9
  have g_draw := He.glo_ok X G (all_get f1 15)
  obtain ⟨fd_alike, F_alike⟩ := c.nth (d := dTop "_law_alike" 28) 10
  have g_alike := He.glo_ok X G (all_get f1 16)
  obtain ⟨fd_odd, F_odd⟩ := c.nth (d := dTop "_law_odd" 29) 11
  have g_odd := He.glo_ok X G (all_get f1 17)
  obtain ⟨fd_name, F_name⟩ := c.nth (d := dTop "_law_name" 30) 12
  have g_name := He.glo_ok X G (all_get f1 18)
  obtain ⟨fd_names, F_names⟩ := c.nth (d := dTop "_law_names" 31) 13
  have g_names := He.glo_ok X G (all_get f1 19)
  obtain ⟨fd_Lis_name, F_Lis_name⟩ := c.nth (d := dTop "_law_is_name" 32) 14
  have g_Lis_name := He.glo_ok X G (all_get f1 20)
  obtain ⟨fd_tree, F_tree⟩ := c.nth (d := dTop "_law_tree" 33) 15
  have g_tree := He.glo_ok X G (all_get f1 21)
  obtain ⟨fd_text, F_text⟩ := c.nth (d := dTop "_law_text" 34) 16
  have g_text := He.glo_ok X G (all_get f1 22)
  obtain ⟨fd_many, F_many⟩ := c.nth (d := dTop "_law_many" 35) 17
  have g_many := He.glo_ok X G (all_get f1 23)
  obtain ⟨fd_made, F_made⟩ := c.nth (d := dTop "_law_made" 36) 18
  have g_made := He.glo_ok X G (all_get f1 24)
  obtain ⟨fd_sign, F_sign⟩ := c.nth (d := dTop "_law_sign" 37) 19
  have g_sign := He.glo_ok X G (all_get f1 25)
  obtain ⟨fd_bent, F_bent⟩ := c.nth (d := dTop "_law_bent" 38) 20
  have g_bent := He.glo_ok X G (all_get f1 26)
  obtain ⟨fd_found, F_found⟩ := c.nth (d := dTop "_law_found" 39) 21
  have g_found := He.glo_ok X G (all_get f1 27)
  obtain ⟨fd_read, F_read⟩ := c.nth (d := dTop "_law_read" 40) 22
  have g_read := He.glo_ok X G (all_get f1 28)
  obtain ⟨fd_told, F_told⟩ := c.nth (d := dTop "_law_told" 41) 23
  have g_told := He.glo_ok X G (all_get f1 29)
  obtain ⟨fd_line_right, F_line_right⟩ := c.nth (d := dTop "_law_line_right" 42) 24
  have g_line_right := He.glo_ok X G (all_get f1 30)
  obtain ⟨fd_deep_right, F_deep_right⟩ := c.nth (d := dTop "_law_deep_right" 43) 25
  have g_deep_right := He.glo_ok X G (all_get f1 31)
  obtain ⟨fd_right, F_right⟩ := c.nth (d := dTop "_law_right" 44) 26
  have g_right := He.glo_ok X G (all_get f1 32)
  obtain ⟨fd_law, F_law⟩ := c.nth (d := dTop "law" 45) 27
  have g_law := He.glo_ok X G (all_get f1 33)
  have e := hfa.symm.trans g_law
  cases e
  obtain ⟨er1, er2⟩ := errsB_ok fErr
  obtain ⟨m1, m2⟩ := He.ba fMany
  obtain ⟨m2, m3⟩ := He.ba m2
  obtain ⟨m3, m4⟩ := He.ba m3
  refine ⟨_, tabsT (He.cT K ("_law_line_right", none)).2 (He.cT K ("_law_deep_right", none)).2 (He.cT K ("_law_right", none)).2, fun s v => FunD.bindsA (ps := ["_law_cells"]) F_law (fun _ _ _ _ _ _ us hl => match us, hl with | [_], _ => rfl) s [v] rfl, fun H hH => ?_, fun base _ _ TB => ?_⟩
  · intro p hp
    rcases List.mem_cons.mp hp with rfl | hp
    · exact LamX.TabS.nil (hH _ List.mem_cons_self)
    · rcases List.mem_cons.mp hp with rfl | hp
      · exact LamX.TabS.nil (hH _ (List.mem_cons_of_mem _ List.mem_cons_self))
      · rw [List.mem_singleton.mp hp]
        exact LamX.TabS.nil (hH _ (List.mem_cons_of_mem _ (List.mem_cons_of_mem _ List.mem_cons_self)))
  have e_InvalidName : ErC P w K mg base "InvalidName" "given" bVE (He.ga K "InvalidName") := erc_of (st := inClass (top 3) 0) X G (er1 "InvalidName" (by decide)).1 bVE_ok (c.nth (d := dIn (fun K => He.ma K (He.ga K "InvalidName") "__init__") "__init__" "InvalidName.__init__" (inClass (top 3) 0) []) 28) rfl ⟨rfl, rfl, rfl, by decide +kernel, rfl, by decide +kernel, by decide +kernel⟩ rfl rfl (by decide) (by decide) (fun _ _ _ _ _ _ us hl => match us, hl with | [_, _], _ => rfl) (fun _ _ _ _ _ _ _ _ => rfl)
  have e_NotAFormula : ErC P w K mg base "NotAFormula" "given" bVE (He.ga K "NotAFormula") := erc_of (st := inClass (top 5) 0) X G (er1 "NotAFormula" (by decide)).1 bVE_ok (c.nth (d := dIn (fun K => He.ma K (He.ga K "NotAFormula") "__init__") "__init__" "NotAFormula.__init__" (inClass (top 5) 0) []) 29) rfl ⟨rfl, rfl, rfl, by decide +kernel, rfl, by decide +kernel, by decide +kernel⟩ rfl rfl (by decide) (by decide) (fun _ _ _ _ _ _ us hl => match us, hl with | [_, _], _ => rfl) (fun _ _ _ _ _ _ _ _ => rfl)
  have e_InvalidText : ErC P w K mg base "InvalidText" "given" bVE (He.ga K "InvalidText") := erc_of (st := inClass (top 4) 0) X G (er1 "InvalidText" (by decide)).1 bVE_ok (c.nth (d := dIn (fun K => He.ma K (He.ga K "InvalidText") "__init__") "__init__" "InvalidText.__init__" (inClass (top 4) 0) []) 30) rfl ⟨rfl, rfl, rfl, by decide +kernel, rfl, by decide +kernel, by decide +kernel⟩ rfl rfl (by decide) (by decide) (fun _ _ _ _ _ _ us hl => match us, hl with | [_, _], _ => rfl) (fun _ _ _ _ _ _ _ _ => rfl)
  have eM : ErC P w K mg base "TooMany" "limit" bAE (He.ga K "TooMany") := erc_of (st := inClass (top 8) 0) X G m1 bAE_ok (c.nth (d := dIn (fun K => He.ma K (He.ga K "TooMany") "__init__") "__init__" "TooMany.__init__" (inClass (top 8) 0) []) 31) rfl ⟨rfl, rfl, rfl, by decide +kernel, rfl, by decide +kernel, by decide +kernel⟩ rfl rfl (by decide) (by decide) (fun _ _ _ _ _ _ us hl => match us, hl with | [_, _], _ => rfl) (fun _ _ _ _ _ _ _ _ => rfl)
  obtain ⟨fdFi, Fi⟩ := c.nth (d := dIn (fun K => He.ma K (He.ga K "Formula") "__init__") "__init__" "Formula.__init__" (inClass (top 18) 0) []) 32
  obtain ⟨fdF_mul_, F_mul_⟩ := c.nth (d := dIn (fun K => He.ma K (He.ga K "Formula") "__mul__") "__mul__" "Formula.__mul__" (inClass (top 18) 9) []) 33
  obtain ⟨fdF_floordiv_, F_floordiv_⟩ := c.nth (d := dIn (fun K => He.ma K (He.ga K "Formula") "__floordiv__") "__floordiv__" "Formula.__floordiv__" (inClass (top 18) 10) []) 34
  obtain ⟨fdF_rshift_, F_rshift_⟩ := c.nth (d := dIn (fun K => He.ma K (He.ga K "Formula") "__rshift__") "__rshift__" "Formula.__rshift__" (inClass (top 18) 11) []) 35
  obtain ⟨fdF_contains_, F_contains_⟩ := c.nth (d := dIn (fun K => He.ma K (He.ga K "Formula") "__contains__") "__contains__" "Formula.__contains__" (inClass (top 18) 12) []) 36
  obtain ⟨fdF_len_, F_len_⟩ := c.nth (d := dIn (fun K => He.ma K (He.ga K "Formula") "__len__") "__len__" "Formula.__len__" (inClass (top 18) 13) []) 37
  obtain ⟨fdF_eq_, F_eq_⟩ := c.nth (d := dIn (fun K => He.ma K (He.ga K "Formula") "__eq__") "__eq__" "Formula.__eq__" (inClass (top 18) 15) []) 38
  obtain ⟨fdF_str_, F_str_⟩ := c.nth (d := dIn (fun K => He.ma K (He.ga K "Formula") "__str__") "__str__" "Formula.__str__" (inClass (top 18) 16) []) 39
  obtain ⟨fdP_sign_, P_sign_⟩ := c.nth (d := dIn (fun K => pAd K (He.ga K "Formula") "sign") "sign" "Formula.sign" (inClass (top 18) 2) []) 40
  obtain ⟨fdP_name_, P_name_⟩ := c.nth (d := dIn (fun K => pAd K (He.ga K "Formula") "name") "name" "Formula.name" (inClass (top 18) 3) []) 41
  obtain ⟨fdP_left_, P_left_⟩ := c.nth (d := dIn (fun K => pAd K (He.ga K "Formula") "left") "left" "Formula.left" (inClass (top 18) 4) []) 42
  obtain ⟨fdP_right_, P_right_⟩ := c.nth (d := dIn (fun K => pAd K (He.ga K "Formula") "right") "right" "Formula.right" (inClass (top 18) 5) []) 43
  obtain ⟨fdP_parts_, P_parts_⟩ := c.nth (d := dIn (fun K => pAd K (He.ga K "Formula") "parts") "parts" "Formula.parts" (inClass (top 18) 7) []) 44
  have CF : ChF mg := ⟨He.str_ok X G fL, He.str_ok X G fD, He.int_ok X G fM⟩
  have FF : FoF K mg (He.ga K "Formula") := ⟨He.glo_ok X G (all_get f1 4), He.cls_ok c_cls, He.noat_ok c_n1, He.noat_ok c_n2, He.noat_ok c_n3, He.noat_ok c_n4, He.noat_ok c_n5, He.noat_ok c_n6, He.noat_ok c_n7, insB_ok c_ins, of_decide_eq_true c_self⟩
  have FM := He.mkr_ok c_mkr
  have Q_sign : PrpM P w K mg base (He.ga K "Formula") "sign" 1 (spFsign (He.ga K "Formula")) := ⟨_, _, fdP_sign_, propB_ok c_p_sign, c_fsign FF P_sign_, P_sign_.bindsN (fun _ _ _ _ _ _ us hl => match us, hl with | [_], _ => rfl)⟩
  have Q_name : PrpM P w K mg base (He.ga K "Formula") "name" 1 (spFname (He.ga K "Formula")) := ⟨_, _, fdP_name_, propB_ok c_p_name, c_fname FF P_name_, P_name_.bindsN (fun _ _ _ _ _ _ us hl => match us, hl with | [_], _ => rfl)⟩
  have Q_left : PrpM P w K mg base (He.ga K "Formula") "left" 1 (spFleft (He.ga K "Formula")) := ⟨_, _, fdP_left_, propB_ok c_p_left, c_fleft FF P_left_, P_left_.bindsN (fun _ _ _ _ _ _ us hl => match us, hl with | [_], _ => rfl)⟩
  have Q_right : PrpM P w K mg base (He.ga K "Formula") "right" 1 (spFright (He.ga K "Formula")) := ⟨_, _, fdP_right_, propB_ok c_p_right, c_fright FF P_right_, P_right_.bindsN (fun _ _ _ _ _ _ us hl => match us, hl with | [_], _ => rfl)⟩
  have Q_parts : PrpM P w K mg base (He.ga K "Formula") "parts" 1 (spFparts (He.ga K "Formula")) := ⟨_, _, fdP_parts_, propB_ok c_p_parts, c_fparts FF P_parts_, P_parts_.bindsN (fun _ _ _ _ _ _ us hl => match us, hl with | [_], _ => rfl)⟩
  have S_str : SpcM P w K mg base L2.CX0 (He.ga K "Formula") "__str__" ["self"] 1 (spFstr (He.ga K "Formula")) := ⟨_, fdF_str_, (He.meth_ok c_m___str__).at_, (He.meth_ok c_m___str__).fn, c_fstr mstr FF F_str_, F_str_.bindsN (fun _ _ _ _ _ _ us hl => match us, hl with | [_], _ => rfl)⟩
  have S_len : SpcM P w K mg base L2.CX0 (He.ga K "Formula") "__len__" ["self"] 1 (spFlen (He.ga K "Formula")) := ⟨_, fdF_len_, (He.meth_ok c_m___len__).at_, (He.meth_ok c_m___len__).fn, c_flen T FF F_len_, F_len_.bindsN (fun _ _ _ _ _ _ us hl => match us, hl with | [_], _ => rfl)⟩
  have S_eq : SpcM P w K mg base L2.CX0 (He.ga K "Formula") "__eq__" ["self", "other"] 1 (spFeq K (He.ga K "Formula")) := ⟨_, fdF_eq_, (He.meth_ok c_m___eq__).at_, (He.meth_ok c_m___eq__).fn, c_feq T FF F_eq_, F_eq_.bindsN (fun _ _ _ _ _ _ us hl => match us, hl with | [_, _], _ => rfl)⟩
  have S_contains : SpcM P w K mg base L2.CX0 (He.ga K "Formula") "__contains__" ["self", "value"] 4 (spFcont K (He.ga K "Formula")) := ⟨_, fdF_contains_, (He.meth_ok c_m___contains__).at_, (He.meth_ok c_m___contains__).fn, c_fcont T FF Q_parts S_eq F_contains_, F_contains_.bindsN (fun _ _ _ _ _ _ us hl => match us, hl with | [_, _], _ => rfl)⟩
  have k_is_name := c_is_name (P := P) (w := w) (base := base) T mstr CF F_is_name g_is_name
  have k_in_order := c_in_order T mstr FF S_str S_len F__in_order g__in_order
  have c_fi := c_finit T FF (He.eqO_ok c_fmt) S_str Q_parts k_in_order Fi
  have BiF : Binds K fdFi ["self", "sign", "name", "left", "right"] [] := Fi.bindsN (fun _ _ _ _ _ _ us hl => match us, hl with | [_, _, _, _, _], _ => rfl)
  have x_letter := c_letter T FF k_is_name FM c_fi BiF e_InvalidName (er1 "InvalidName" (by decide)).2.1 F_letter g_letter
  have x_cf := c_check_formula T FF e_NotAFormula (er1 "NotAFormula" (by decide)).2.1 F_check_formula g_check_formula
  have x_signed := c_signed T FF (He.int_ok X G fMo) S_len FM c_fi BiF x_cf eM (of_decide_eq_true m2) F__signed g__signed
  have B_fmul : BinM P w K mg base (He.ga K "Formula") (He.ga K "NotAFormula") (He.ga K "TooMany") .Mult 0 := ⟨_, fdF_mul_, (He.meth_ok c_m___mul__).at_, (He.meth_ok c_m___mul__).fn, He.eqO_ok c_r_Mult, c_fmul x_signed F_mul_, F_mul_.bindsN (fun _ _ _ _ _ _ us hl => match us, hl with | [_, _], _ => rfl)⟩
  have B_ffdiv : BinM P w K mg base (He.ga K "Formula") (He.ga K "NotAFormula") (He.ga K "TooMany") .FloorDiv 1 := ⟨_, fdF_floordiv_, (He.meth_ok c_m___floordiv__).at_, (He.meth_ok c_m___floordiv__).fn, He.eqO_ok c_r_FloorDiv, c_ffdiv x_signed F_floordiv_, F_floordiv_.bindsN (fun _ _ _ _ _ _ us hl => match us, hl with | [_, _], _ => rfl)⟩
  have B_frsh : BinM P w K mg base (He.ga K "Formula") (He.ga K "NotAFormula") (He.ga K "TooMany") .RShift 2 := ⟨_, fdF_rshift_, (He.meth_ok c_m___rshift__).at_, (He.meth_ok c_m___rshift__).fn, He.eqO_ok c_r_RShift, c_frsh x_signed F_rshift_, F_rshift_.bindsN (fun _ _ _ _ _ _ us hl => match us, hl with | [_, _], _ => rfl)⟩
  obtain ⟨fdRd, Rd⟩ := c.nth (d := dIn (fun K => cAd K (He.ga K "Formula") "read") "read" "Formula.read" (inClass (top 18) 1) []) 45
  have m1' := of_decide_eq_true ne01
  have m2' := of_decide_eq_true ne02
  have m3' := of_decide_eq_true ne12
  have TB1 := TB _ List.mem_cons_self
  have TB2 := TB _ (List.mem_cons_of_mem _ List.mem_cons_self)
  have TB3 := TB _ (List.mem_cons_of_mem _ (List.mem_cons_of_mem _ List.mem_cons_self))
  have TF : Told6 K mg (He.ga K "InvalidText") := ⟨He.glo_ok X G (all_get f1 2), (er1 "InvalidText" (by decide)).2.2.1, e_InvalidText.no, er2 "InvalidText" (by decide) "InvalidText" (by decide)⟩
  have hks := of_decide_eq_true fKs
  have hkn := of_decide_eq_true fKn
  have k_closed := c_closed T FF (He.glo_ok X G (all_get f1 5)) (tupB_ok fSig) hks hkn fNs (of_decide_eq_true fSub) S_eq (He.eqO_ok c_ne) FM c_fi BiF F__closed g__closed
  have k_parsed := c_parsed T mstr FF (He.int_ok X G fMo) hks hkn S_str k_is_name x_letter k_closed F__parsed g__parsed
  have c_rd := c_fread T k_parsed e_InvalidText (er1 "InvalidText" (by decide)).2.1 Rd
  have b_rd : Binds K fdRd ["cls", "text"] [] := Rd.bindsN (fun _ _ _ _ _ _ us hl => match us, hl with | [_, _], _ => rfl)
  have FR : FnR P w K mg base (L2.CX P w) 10 _ (spFread K (He.ga K "Formula") (He.ga K "InvalidText")) := fun A outer s H us vs Q E hr e0 r hs => c_rd.raw b_rd .nil A outer s H us vs Q E hr e0 r (by show spFread _ _ _ (vs ++ []) _ _ _; rw [List.append_nil]; exact hs)
  have room : Room 27 callerA := ⟨rfl, by decide, by decide⟩
  have k_cell := c_cell (P := P) (w := w) (base := base) T F_cell g_cell
  have k_purse := c_purse (P := P) (w := w) (base := base) T F_purse g_purse
  have k_draw := c_draw (P := P) (w := w) (base := base) T F_draw g_draw
  have k_odd := c_odd3 T F_odd g_odd k_draw
  have k_alike := c_alike (P := P) (w := w) (base := base) T F_alike g_alike 5
  have k_sign := c_sign T F_sign g_sign k_draw
  have k_bent := c_bent T F_bent g_bent k_draw k_sign
  have k_name := c_name T F_name g_name k_draw
  have k_names := c_names T F_names g_names k_draw k_name
  have k_lis_name := c_lis_name (P := P) (w := w) (base := base) T mstr F_Lis_name g_Lis_name
  have k_ltree := c_ltree T k_draw F_tree g_tree 9
  have k_ltext := c_ltext (P := P) (w := w) (base := base) T mstr F_text g_text 9
  have k_lmany := c_lmany (P := P) (w := w) (base := base) T mstr F_many g_many 8
  have k_lmade := c_lmade T mstr FF c_sf B_fmul B_ffdiv B_frsh x_letter F_made g_made 8
  have k_lfound := c_lfound T k_lis_name F_found g_found 8
  have k_lread := c_lread T k_lfound F_read g_read
  have k_lline := c_lline T mstr FF TF (creadB_ok fCr) (cmetB_ok fCm) c_rd FR (fread_kw Rd _) S_str S_len S_eq (He.eqO_ok c_ne) Q_name m1' m2' m3' F_told g_told TB1 k_lread k_lmade k_lmany F_line_right g_line_right
  have k_ldeep := c_ldeep T mstr FF TF (creadB_ok fCr) (cmetB_ok fCm) FR S_str S_len m1' m2' m3' F_told g_told TB2 k_lread k_lline F_deep_right g_deep_right
  have k_r := c_right T mstr FF TF (creadB_ok fCr) (cmetB_ok fCm) FR S_str S_len m1' m2' m3' F_told g_told TB3 k_draw k_names k_ltree k_ltext k_odd k_bent k_alike k_lline F_right g_right
  exact r_law T F_law room rfl k_cell k_purse k_ldeep k_r
end
end L2.K06
open PySem PySem.W PySem.Calls PyProof.Rows
theorem PySem.Challenge.cw_thirdback_k06_whole_texts_of_formulas_holds : PySem.Challenge.rw_thirdback_k06_whole_texts_of_formulas.Holds := by
  w_on; o_law
  refine HandSHeadRun.head_any (r := OpenLaw.row PySem.Challenge.rw_thirdback_k06_whole_texts_of_formulas) (q := view (OpenLaw.row PySem.Challenge.rw_thirdback_k06_whole_texts_of_formulas).prog [45]) (H := L2.K06.hookX) (ob := L2.K06.ob) (M := 20000) (loose := L2.K06.looseN) (d := HandSHeadRun.topDef (OpenLaw.row PySem.Challenge.rw_thirdback_k06_whole_texts_of_formulas).prog 45) (kwd := []) L2.K06.ob_eq
    (by kernel_rfl) (fun s => by kernel_rfl) L2.K06.run (by kernel_rfl) (by kernel_rfl) (by kernel_rfl) (by rfl) (by first | assumption | decide +kernel) (by decide +kernel) ⟨rfl, rfl, rfl, rfl, rfl, by decide +kernel⟩ ?hw ?hc
  case hw => w_witness2
  case hc =>
    refine L2.Tb.walk_atT (l := PySem.Challenge.rw_thirdback_k06_whole_texts_of_formulas) (n := 63) (x := "_law_cells") rfl (by decide) (by kernel_rfl) ?F
    intro w mg fa h Y G hmg0
    obtain ⟨K, c⟩ := Y
    have hmg : mg ("law" : PySem.Str) = some (.ref fa) := by
      have e : (HandSHeadRun.topDef (OpenLaw.row PySem.Challenge.rw_thirdback_k06_whole_texts_of_formulas).prog 45).name = ("law" : PySem.Str) := by kernel_rfl
      rw [← e]
      exact hmg0
    obtain ⟨fd, T, hb, hT, hF⟩ := L2.K06.ends (P := (PySem.Challenge.rw_thirdback_k06_whole_texts_of_formulas).prog) (w := w) G hmg c
    obtain ⟨y1, y2, y3⟩ := c.cs
    exact ⟨K, fd, L2.K06.spLaw K T, L2.K06.cdL.map (He.cT K), c.kin, y1, y2, y3, hb, fun H a ns hl hbits hH hS => ⟨a, ns, rfl, hS, hbits, hl, hT H hH, fun _ => rfl⟩, hF⟩
