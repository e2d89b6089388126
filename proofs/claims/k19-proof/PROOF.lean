import PyProof.Rows.All
import Wide.All
import OpenK.AllK
import Wide.FinOn
import KE.KExcInit
import KE.KExcMake
import KE.KIsAll
import HandS.ForMost
import HandS.Exc
import HandS.ExcOwn
import HandS.ExcInit
import HandS.ExcIs
import HandS.ExcField
import HandS.IsInst
import HandS.Defaults
import KE.KExcIs
import HandS.Walk
import HandS.Zip
import HandS.Wide
import HandS.WideBits
import HandS.DeepEq
import HandS.EndBits
import PyProof.ReprRoads
import HandS.Head2
import HandS.HeadHook2
import KE.KCallOwn
import HandS.MakeKwOnly
import HandS.Codes
import HandS.TryMany
import HandS.ClsMeth
import HandS.More
import PyProof.InstEq
import HandS.EndTab
import HandS.HeadHook4
import HandS.Property
import HandS.HeadNt
import HandS.HeadHook3
import HandS.TupSets
import HandS.Keys
import HandS.SetBool
import HandS.Deep
import HandS.Iter
import OpenK.KMeth
import KE.KOpsOwn
import OpenK.KOps
import PyProof.Conv_bool
import PyProof.StrOps2
import HandS.Text
import HandS.Small
import HandS.Conv
import HandS.StrMore
import HandS.TupLe
import HandS.FStr
import HandS.RaiseMore
import HandS.GenList
import HandS.GenYield
import HandS.GenCall
import HandS.Gcd
import KE.KMathGC
import KE.GoesEnum
import KE.GoesMore
import PyProof.Draws
import HandS.DictSub
import KE.SortData
import HandS.OwnEq
import KE.KFmtOwn
import HandS.TupAny
import HandS.Lambda
import HandS.DictComp
import HandS.SortInts
import HandS.Dict
import HandS.SetFor
import HandS.Strs
import HandS.SetKeys
import PyProof.DictMoreH
import KE.DataMinMax
import HandS.Star
import PySem.Challenge.RW_thirdback_k19_whole_alike_by_own_closing
set_option Elab.async false
set_option linter.all false
set_option maxRecDepth 100000
set_option maxHeartbeats 4000000
/-! an own error class over ValueError, LookupError, ArithmeticError alike: it is called (by place or by name), its object gets its first attribute -/
namespace L2.Tb
open PySem PySem.W PySem.Calls PyProof.Rows PySem.HandSPX
/-- a built-in base: its name, its makers, its mro -/
structure Bs where
  B : String
  newId : String
  initId : String
  bm : List Value
structure Bs.Ok (b : Bs) : Prop where
  F : ExcBaseFacts b.B b.newId b.initId b.bm
  S : StoreFacts b.B b.bm "object.__setattr__" "object"
section
variable {prog : Program} {w : World} {A : Around} {R : Result → Shared → Prop} {h : Heap} {g : Array GenState} {dr : Drawn} {tk : Nat} {os : OsState} {b : Bs} {C fI : Addr} {us : List Value} {kw : List (Str × Value)}
/-- C's class object is that of an own class over b -/
def OwnC (h : Heap) (b : Bs) (C : Addr) (bm : List Value) : Prop := ∃ nm q N bs hdct sn sub ab col dd k0 k1 k2 k3 k5, h.get? C = some (excClassObj nm q C N bs bm hdct sn sub ab col dd k0 k1 k2 k3 k5 b.newId)
/-- what the two makers leave behind: the args, the object -/
abbrev laidH (h : Heap) (C : Addr) (us : List Value) : Heap := (h.push (kdv_tup us)).push (excO C h.objs.size)
theorem own_new {bm : List Value} (o : OwnC h b C bm) (F : ExcBaseFacts b.B b.newId b.initId b.bm) (is : ∀ T : String, (Value.ref C :: bm).contains (.type T) = b.bm.contains (.type T)) (hz : us.length ≤ sizeLine) :
    (∀ {M : Model} {A' : Around} {E : Value → Shared → Prop} {Q : Unit → Shared → Prop}, Q () ⟨h, g, dr, tk, os⟩ → wpAny M A' (checkBuiltinCall b.newId ⟨.ref C :: us, kw⟩) Q E ⟨h, g, dr, tk, os⟩) ∧
    ∀ {R' : Result → Shared → Prop}, R' (.ok (.ret (.ref (h.objs.size + 1)))) ⟨laidH h C us, g, dr, tk, os⟩ → codeAny (model prog w) A (.builtin b.newId ⟨.ref C :: us, kw⟩) R' ⟨h, g, dr, tk, os⟩ := by
  obtain ⟨nm, q, N, bs, hdct, sn, sub, ab, col, dd, k0, k1, k2, k3, k5, hC⟩ := o
  have yes := (is b.B).trans F.hasB
  have no1 := (is "AttributeError").trans F.noAttr
  have no2 := (is "NameError").trans F.noName
  constructor
  · intro M A' E Q hq
    have star := F.noStar
    simp only [checkBuiltinCall, F.newKind, F.newSplit, F.newRow]
    repeat (first | (refine wpAny_isSubtype_exc hC ?_; rw [yes]) | refine wpAny_staticBase_exc hC ?_ | refine wpAny_madeBy_exc hC ?_ | refine wpAny_loadPart_at hC ?_ | simp only [bne_self_eq_false, Bool.false_eq_true, if_false] | wp_step)
    exact hq
  · intro R' hq
    have ends := F.ends
    refine codeAny_builtinAt F.entry ?_
    unfold Builtin.«BaseException.__new__»
    refine PySem.wpAt_bind ?_
    show PySem.wpAt _ _ _ (stack >>= _) _ _ _
    refine PySem.wpAt_bind (PySem.wpAt_stack fun _ _ => PySem.wpAt_of_wpAny ?_)
    wp_walk
    refine PySem.wpAt_of_wpAny ?_
    rw [F.owner]
    repeat (first | with_reducible refine wpAny_madeHere_exc F.canon hC ?_ | (with_reducible refine wpAny_isSubtype_exc hC ?_; first | rw [no1] | rw [no2] | rw [yes]) | with_reducible refine wpAny_loadPart_at hC ?_ | wp_step)
    show R' _ _
    rw [Heap.size_push]
    exact hq
/-- C(us, kw), C's own __init__ at fI -/
theorem own_call {bm : List Value} (o : OwnC h b C bm) (ok : b.Ok) (hT : ∀ T : String, bm.contains (.type T) = b.bm.contains (.type T)) (hi : Looks (model prog w) h (typeLookup (.ref C) "__init__") (some (.ref fI)))
    (hb : ∀ self, Looks (model prog w) h (bindSpecial (.ref fI) self) (.ref fI, [self])) (hz : us.length ≤ sizeLine)
    (hq : codeAny (model prog w) (A.under (.builtin "type.__call__" ⟨.ref C :: us, kw⟩)) (.call (.ref fI) ⟨.ref (h.objs.size + 1) :: us, kw⟩) (InitBack (h.objs.size + 1) R) ⟨laidH h C us, g, dr, tk, os⟩) :
    codeAny (model prog w) A (.call (.ref C) ⟨us, kw⟩) R ⟨h, g, dr, tk, os⟩ := by
  have keep : ∀ a x, h.get? a = some x → (laidH h C us).get? a = some x := fun a x e => Heap.get?_push_of_some _ (Heap.get?_push_of_some _ e)
  have there : (laidH h C us).get? (h.objs.size + 1) = some (excO C h.objs.size) := by heap_get
  have self : (Value.ref C :: bm).contains (.ref C) = true := by simp
  have new := @own_new prog w ((A.under (.builtin "type.__call__" ⟨.ref C :: us, kw⟩))) h g dr tk os b C us kw bm o ok.F (fun T => by rw [List.contains_cons, hT]; rfl) hz
  obtain ⟨nm, q, N, bs, hdct, sn, sub, ab, col, dd, k0, k1, k2, k3, k5, hC⟩ := o
  have hC2 := keep _ _ hC
  have ty : (⟨h, g, dr, tk, os⟩ : Shared).TypeIs (.ref C) "type" := ⟨_, hC, rfl⟩
  have l1 := tc_lookup
  have l2 := tc_bind (.ref C)
  have l3 := tc_sub
  refine codeAny_of_tree ?_
  show wpAny _ _ (callAny (.ref C) _) _ _ _
  repeat (any_goals (first | assumption | with_reducible refine wpAny_loadPart_at hC ?_ | wp_step))
  refine ⟨rfl, codeAny_call_builtin_at (Code.quiet_builtin _ (by decide +kernel)) entry_typeCall ?_⟩
  simp only [checkBuiltinCall, tc_kind, tc_split]
  repeat (any_goals (first | assumption | with_reducible refine wpAny_loadPart_at hC ?_ | with_reducible refine wpAny_onRaise ?_ | with_reducible refine wpAny_map ?_ | wp_step))
  repeat (first | with_reducible refine wpAny_madeBy_exc hC ?_ | with_reducible refine wpAny_loadPart_at hC ?_ | wp_step)
  refine codeAny_call_builtin_code (Code.quiet_builtin _ ok.F.quiet) (new.1 (new.2 ?_))
  show wpAny _ _ _ _ _ _
  unfold isInstance
  repeat (first | with_reducible refine wpAny_loadPart_at there ?_ | (with_reducible refine wpAny_isSubtype_exc hC2 ?_; rw [self]) | wp_step)
  show wpAny _ _ (typeLookup (.ref C) _) _ _ _
  refine (hi.keeps keep).at (wpAny_holding (wpAny_bind (((hb _).keeps keep).at (wpAny_bind (wpAny_call (codeAny_mono hq fun r s' z => ?_))))))
  match r, z with
  | .error e, z => exact z
  | .ok (.ret v), ⟨e, z⟩ =>
    subst e
    first
      | exact wpAny_pure (wpAny_pure z)
      | (wp_walk; exact z)
end
/-! ### self.name = v on an own error that has no dict yet -/
section
variable {prog : Program} {w : World} {A : Around} {R : Result → Shared → Prop} {hp : Heap} {g : Array GenState} {dr : Drawn} {tk : Nat} {os : OsState}
theorem own_store {K : Frag} {name : Str} {t1 : Tok} {v : Value} {x C t0 : Addr} {b : Bs} (ok : b.Ok) (X : K.In hp) (hx : hp.get? x = some (excObj C t0 none .none)) (ov : excOver K C b.bm = true) (hd : hasDictIn K C = true) (no : findIn K (.ref C) name = some none)
    (hq : ∀ h' tk' dx, (∀ b o, b ≠ x → hp.get? b = some o → h'.get? b = some o) → hp.objs.size ≤ dx → dx ≠ x → h'.get? x = some (excObj C t0 (some dx) .none) → h'.Ns1 dx (fun y => if y = name then some v else none) → R (.ok (.ret .none)) ⟨h', g, dr, tk', os⟩) :
    codeAny (model prog w) A (.call (.builtin "object.__setattr__") ⟨[.ref x, .str name t1, v], []⟩) R ⟨hp, g, dr, tk, os⟩ := by
  have far : x ≠ hp.objs.size := Nat.ne_of_lt (Heap.lt_size hx)
  obtain ⟨cd, hc, hd'⟩ := any_some hd
  refine osa_openX (s := ⟨hp, g, dr, tk, os⟩) (od := none) (r := none) ok.S X ⟨hx, rfl, rfl, trivial⟩ ov (by unfold takerIn; rw [no]; rfl) fun bb => ?_
  refine wpAny_bind (wpAny_pure (wpAny_bind (instanceDict_exc (s := ⟨hp, g, dr, tk, os⟩) hx (looks_clsIn X hc) hd' ?_)))
  have hx1 := (hp.get?_push_of_some (dictOf [] 0) hx)
  refine store_in_new ⟨_, #[], _, (Heap.get?_update_ne _ _ _ _ far.symm).trans (Heap.get?_push_at rfl rfl), rfl, fun e he => absurd he (by simp), fun _ => rfl⟩ fun h' tk' hn hs => ?_
  refine hq h' tk' hp.objs.size (fun a o ne ho => (hs.2 a (Nat.ne_of_lt (Heap.lt_size ho))).trans ((Heap.get?_update_ne _ _ _ _ ne).trans (Heap.get?_push_of_some _ ho))) (Nat.le_refl _) far.symm ?_ hn
  exact (hs.2 x far).trans (Heap.get?_update_self _ hx1 rfl)
end
end L2.Tb
set_option Elab.async false
set_option linter.all false
set_option maxRecDepth 100000
set_option maxHeartbeats 4000000
namespace L2.Tb
open PySem PySem.Spec PyProof.Rows L2
def bVE : Bs := ⟨"ValueError", "ValueError.__new__", "ValueError.__init__", [.type "ValueError", .type "Exception", .type "BaseException", .type "object"]⟩
def bLE : Bs := ⟨"LookupError", "LookupError.__new__", "LookupError.__init__", [.type "LookupError", .type "Exception", .type "BaseException", .type "object"]⟩
def bAE : Bs := ⟨"ArithmeticError", "ArithmeticError.__new__", "ArithmeticError.__init__", [.type "ArithmeticError", .type "Exception", .type "BaseException", .type "object"]⟩
theorem bVE_ok : bVE.Ok := ⟨PySem.F.excBase_ValueError, PySem.F.store_ValueError⟩
theorem bLE_ok : bLE.Ok := ⟨PySem.F.excBase_LookupError, PySem.F.store_LookupError⟩
theorem bAE_ok : bAE.Ok := ⟨PySem.F.excBase_ArithmeticError, PySem.F.store_ArithmeticError⟩
/-- an own exception class over the base b -/
structure EC (K : PySem.W.Frag) (b : Bs) (C : Addr) : Prop where
  ok : b.Ok
  own : PySem.W.excInitIn K C b.bm b.newId = true
  sa : PySem.W.findIn K (.ref C) "__setattr__" = some (some (.builtin "object.__setattr__"))
  kC : PySem.W.keepIn K (.ref C) = true
  ex : ExcC K C
  ov : PySem.W.excOver K C b.bm = true
def ecB (K : PySem.W.Frag) (b : Bs) (C : Addr) : Bool := PySem.W.excOver K C b.bm && (
  PySem.W.excInitIn K C b.bm b.newId && (decide (PySem.W.findIn K (.ref C) "__setattr__" = some (some (.builtin "object.__setattr__"))) && (PySem.W.keepIn K (.ref C) &&
  (decide (PySem.W.findIn K (.ref C) "__getattribute__" = some (some (.builtin "BaseException.__getattribute__"))) && (decide (PySem.W.findIn K (.ref C) "__getattr__" = some none) &&
  (decide (PySem.W.subIn K (.ref C) (.type "BaseException") = some true) && (PySem.W.hasDictIn K C && (decide (PySem.W.findIn K (.ref C) "__class__" = some (some (.builtin "object.__class__"))) &&
  (decide (PySem.W.specialIn K (.builtin "object.__class__") "__get__" = some (some (.builtin "getset_descriptor.__get__"))) && (decide (PySem.W.takesIn K (.builtin "object.__class__") = some true) &&
  decide (PySem.W.mroIn K C (.type "object") = some true)))))))))))
theorem ecB_ok {K : PySem.W.Frag} {b : Bs} {C : Addr} (ok : b.Ok) (h : ecB K b C = true) : EC K b C := by
  unfold ecB at h
  simp only [Bool.and_eq_true, decide_eq_true_eq] at h
  obtain ⟨h0, h1, h2, h3, h4, h5, h6, h7, h8, h9, h10, h11⟩ := h
  exact ⟨ok, h1, h2, h3, ⟨h4, h5, h6, h7, h8, h9, h10, h11⟩, h0⟩
section
variable {K : PySem.W.Frag} {b : Bs} {C : Addr}
theorem EC.cd (T : EC K b C) : ∃ cd, PySem.W.clsIn K C = some cd ∧ PySem.W.excTail b.bm cd.mro = true ∧ cd.mro.isEmpty = false ∧ cd.hasDict = true := by
  have q := T.own
  unfold PySem.W.excInitIn at q
  obtain ⟨cd2, hc2, hd2⟩ := PySem.W.any_some (show (PySem.W.clsIn K C).any (·.hasDict) = true from T.ex.hd)
  split at q
  · rename_i dd cd sl ho
    split at q
    · rename_i C' bm k0 k1 k2 k3 n k5 hm hs
      simp only [Bool.and_eq_true, beq_iff_eq, Bool.not_eq_true'] at q
      obtain ⟨⟨⟨rfl, rfl⟩, hdel⟩, ht⟩ := q
      have e : PySem.W.clsIn K C' = some cd := by unfold PySem.W.clsIn; rw [ho] <;> rfl
      have e3 := Option.some.inj (e.symm.trans hc2)
      subst e3
      refine ⟨_, e, ?_, ?_, hd2⟩
      · rw [hm]
        exact ht
      · rw [hm]
        rfl
    · cases q
  · cases q
end
section
variable {X : Cx} {pins : List (Addr × Obj)} {σ : St} {H : Hp} {s : Shared} {b : Bs} {a C dx : Addr} {f : Str} {y : V} {u : Value} {Q : Unit → Shared → Prop} {E : Value → Shared → Prop} {A : Around}
/-- self.f = y, the first one -/
theorem osv_new (T : EC X.K b C) (I : Inv X pins σ H s) (e : H a = some (exo a C none)) (hno : PySem.W.findIn X.K (.ref C) f = some none) (ry : RelV y u)
    (h : ∀ dx s', H dx = none → dx ≠ a → Inv X pins σ (upd (upd H dx (exd dx [(f, y)])) a (exo a C (some dx))) s' → Q () s') : wpAny (model X.prog X.w) A (setAttr (.ref a) f u) Q E s := by
  obtain ⟨t1, ho⟩ := exo_at I.hok e
  refine PySem.W.set_plain I.kIn (od := none) ⟨ho, rfl, rfl, trivial⟩ T.sa (own_store T.ok I.kIn ho T.ov T.ex.hd hno fun h' tk' dx k dn dne hx hn => ?_)
  have fresh : H dx = none := I.hok.fresh dn
  -- the heap behind the store, seen from what was there
  have other : ∀ {c : Addr} {o : HO}, H c = some o → c ≠ a → upd (upd H dx (exd dx [(f, y)])) a (exo a C (some dx)) c = some o := fun q n => by rw [upd_ne n, upd_ne (ne_of_none q fresh)]; exact q
  have ne : ∀ {c : Addr}, H c = none → c ≠ a := fun n z => by rw [z, e] at n; cases n
  have lt : ∀ {c : Addr} {o : Obj}, s.heap.get? c = some o → c ≠ dx := fun q => Nat.ne_of_lt (Nat.lt_of_lt_of_le (Heap.lt_size q) dn)
  refine h dx _ fresh dne (I.un (t' := tk') { keep := fun c o q n _ _ => k c o (ne n) q, slot := fun c o q n _ _ => ⟨o.slots, k c o (ne n) q⟩, free := fun c o q n _ => ?_, there := fun c o q _ => ?_, tups := fun c xs q => other q (at_ne e q exo_tup), frzs := fun c o v q => other q (at_ne e q exo_frz), tbls := fun c ps q => ⟨#[], ?_⟩ } fun c o q => ?_)
  · rw [upd_ne (ne n), upd_ne (lt q)]
    exact n
  · by_cases z : c = a
    · exact ⟨_, by rw [z]; exact hx⟩
    · exact ⟨o, k c o z q⟩
  · rw [other q (at_ne e q exo_tbl)]
    simp
  · by_cases z : c = a
    · subst z
      rw [upd_same] at q
      cases q
      exact exo_ok hx
    · rw [upd_ne z] at q
      by_cases z2 : c = dx
      · subst z2
        rw [upd_same] at q
        cases q
        exact exd_ok hn (relO_put (fs := []) ry fun _ => True.intro)
      · rw [upd_ne z2] at q
        refine (I.hok c o q).stay (fun d v hc z' => k d v ?_ z') (fun d hc => other hc (at_ne e hc exo_own)) fun d xs hc => other hc (at_ne e hc exo_tup)
        rcases hc with rfl | hc
        · exact z
        · exact at_ne e hc exo_own
end
/-- self.f = e -/
def tOsv (K : PySem.W.Frag) (f : Str) (to te : TE) : TS := fun D σ H => te σ H fun y H1 => to σ H1 fun x H2 => ∃ (a C : Addr) (b : Bs), x = .ref a ∧ EC K b C ∧ PySem.W.findIn K (.ref C) f = some none ∧
  H2 a = some (exo a C none) ∧ ∀ dx, H2 dx = none → dx ≠ a → D.nx σ (upd (upd H2 dx (exd dx [(f, y)])) a (exo a C (some dx)))
/-- C(e, ..), C's own __init__ keeping sp: the exception as a value -/
def tMkV (C : Addr) (sp : Sp) (ta : TA) : TE := fun σ H Q => ta σ H fun vs H1 => vs.length ≤ 1000 ∧ ∀ a, H1 a = none → sp (.ref a :: vs) (upd H1 a (exo a C none)) (fun v H2 => v = .non ∧ Q (.ref a) H2) E0
/-- e.f of an exception -/
def tXv (K : PySem.W.Frag) (f : Str) (te : TE) : TE := fun σ H Q => te σ H fun x H1 => ∃ (a C dx : Addr) (b : Bs) (fs : List (Str × V)) (v : V), x = .ref a ∧ EC K b C ∧ PySem.W.findIn K (.ref C) f = some none ∧
  H1 a = some (exo a C (some dx)) ∧ H1 dx = some (exd dx fs) ∧ fs.lookup f = some v ∧ Q v H1
/-- isinstance(e, c) -/
def rIsX (K : PySem.W.Frag) : List V → Hp → VK → Prop := fun xs H Q => ∃ (a C : Addr) (od : Option Addr) (c : V) (u : Value) (b : Bs) (r : Bool), xs = [.ref a, c] ∧ ClsV c u ∧ H a = some (exo a C od) ∧ (∀ d, od = some d → ∃ fs, H d = some (exd d fs)) ∧ EC K b C ∧
  PySem.W.kitOne K (.ref C) u = some r ∧ Q (.bl r) H
section
variable {X : Cx} {o e : Expr} {es : List Expr} {to te : TE} {ta : TA} {f : Str} {p p' p1 p2 pos : Pos}
theorem ps_osv (ho : PE X o to) (he : PE X e te) (hs : swapsWith e (some (.Attribute o f p')) pos.line X.env = pure false := by rfl) : PS X (.Assign [.Attribute o f p'] e pos) (tOsv X.K f to te) := by
  refine ⟨fun pins s σ H D I h => ?_⟩
  refine plainObj_wpAny_Assign_Attribute (thn (he.run pins s σ H _ I h) fun v s1 ⟨y, H1, I1, r1, q1⟩ => thn (ho.run pins s1 σ H1 _ I1 q1) fun u s2 ⟨x, H2, I2, r2, a, C, b, ex, T, hno, ea, q⟩ => ?_) hs
  subst ex
  obtain rfl : u = Value.ref a := r2
  exact osv_new T I2 ea hno r1 fun dx s' n ne J => ⟨σ, _, J, q dx n ne⟩
/-- the exception that is made: its object lies, not yet its dict -/
theorem made_inv {pins : List (Addr × Obj)} {σ : St} {H1 : Hp} {hp : Heap} {g : Array GenState} {dr : Drawn} {tk : Nat} {os : OsState} {C : Addr} (us : List Value) (I1 : Inv X pins σ H1 ⟨hp, g, dr, tk, os⟩) :
    Inv X pins σ (upd H1 (hp.objs.size + 1) (exo (hp.objs.size + 1) C none)) ⟨(hp.push (PySem.W.kdv_tup us)).push (PySem.HandSPX.excO C hp.objs.size), g, dr, tk, os⟩ := by
  have kk : ∀ b o, hp.get? b = some o → ((hp.push (PySem.W.kdv_tup us)).push (PySem.HandSPX.excO C hp.objs.size)).get? b = some o := fun b o e => Heap.get?_push_of_some _ (Heap.get?_push_of_some _ e)
  have hget : ((hp.push (PySem.W.kdv_tup us)).push (PySem.HandSPX.excO C hp.objs.size)).get? (hp.objs.size + 1) = some (PySem.HandSPX.excO C hp.objs.size) := by heap_get
  exact I1.laid (t' := tk) (a := hp.objs.size + 1) (o := exo (hp.objs.size + 1) C none) (h' := (hp.push (PySem.W.kdv_tup us)).push (PySem.HandSPX.excO C hp.objs.size)) kk (Nat.le_succ _) (exo_ok hget)
theorem run_mkV {CX : CXT} {C fI : Addr} {b : Bs} {k : Nat} {fd : FuncData} {ps : List Str} {sp : Sp} {pins : List (Addr × Obj)} {σ : St} {H1 : Hp} {s1 : Shared} {Q : VK} {us zs : List Value} {ws : List V} {kw : List (Str × Value)} (T : EC X.K b C)
    (iC : PySem.W.findIn X.K (.ref C) "__init__" = some (some (.ref fI))) (tI : PySem.W.typeIn X.K (.ref fI) = some (.type "function"))
    (F1 : FnOk X.prog X.w X.K X.mg X.base CX k fI fd ps sp) (hr : Room (k + 1) X.A) (hx : Passes CX X E0) (I1 : Inv X pins σ H1 s1) (hus : us.length ≤ sizeLine)
    (hz : ∀ (sh : Shared) (a : Addr), X.K.In sh.heap → BindsTo sh fd ⟨Value.ref a :: us, kw⟩ (ps.zip (Value.ref a :: zs))) (r2 : Vals ws zs)
    (h : ∀ a, H1 a = none → sp (.ref a :: ws) (upd H1 a (exo a C none)) (fun v H2 => v = .non ∧ Q (.ref a) H2) E0) :
    wpAny (model X.prog X.w) X.A (call (.ref C) us kw) (EP X pins σ Q) X.xe s1 := by
  obtain ⟨nm, N, qn, bs, bm, hdct, sn, sub, ab, col, dd, k0, k1, k2, k3, k5, hC, hT⟩ := PySem.W.excInit_of I1.kIn T.own
  obtain ⟨hp, g, dr, tk, os⟩ := s1
  have hn : H1 (hp.objs.size + 1) = none := I1.hok.fresh (Nat.le_succ _)
  have hq := h (hp.objs.size + 1) hn
  have I2 := made_inv (C := C) us I1
  have r3 : Vals (V.ref (hp.objs.size + 1) :: ws) (Value.ref (hp.objs.size + 1) :: zs) := .cons rfl r2
  refine wpAny_call (own_call ⟨nm, qn, N, bs, hdct, sn, sub, ab, col, dd, k0, k1, k2, k3, k5, hC⟩ T.ok hT (PySem.W.looks_findIn I1.kIn iC) (fun self => PySem.W.bind_fn I1.kIn self tI) hus
    (codeAny_mono (F1.run _ X.stack _ _ ⟨Value.ref (hp.objs.size + 1) :: us, kw⟩ (Value.ref (hp.objs.size + 1) :: zs) _ _ E0 (hr.make C us kw) (I2.env0.make C us kw) (hz _ _ I2.kIn) r3 hq) fun r s' hq' => ?_))
  cases r with
  | error er => exact hx pins σ _ _ er s' I2 hq'
  | ok fl =>
    cases fl with
    | ret u =>
      obtain ⟨v, H', I3, rv, ev, q3⟩ := I2.after hq'
      subst ev
      exact ⟨rv, ⟨V.ref (hp.objs.size + 1), H', I3, rfl, q3⟩⟩
    | next => exact False.elim hq'
    | brk => exact False.elim hq'
    | cont => exact False.elim hq'
/-- C(e, ..) -/
theorem pe_mkV {CX : CXT} {x : Str} {C fI : Addr} {b : Bs} {k : Nat} {fd : FuncData} {ps : List Str} {sp : Sp} (T : EC X.K b C) (iC : PySem.W.findIn X.K (.ref C) "__init__" = some (some (.ref fI))) (tI : PySem.W.typeIn X.K (.ref fI) = some (.type "function"))
    (F1 : FnOk X.prog X.w X.K X.mg X.base CX k fI fd ps sp) (hr : Room (k + 1) X.A) (hb : Binds X.K fd ps []) (hx : Passes CX X E0) (hg : Gl X x) (hm : X.mg x = some (.ref C)) (ha : PA X (e :: es) ta)
    (hdb : (x == ("__debug__" : Str)) = false := by decide) (he : starEach (e :: es) X.env = (false, eval e X.env) :: starEach es X.env := by rfl) (hpl : (backTo pos (starEach es X.env)).any (·.1) = false := by rfl) :
    PE X (.Call (.Name x p) (e :: es) [] pos) (tMkV C sp ta) := by
  refine ⟨fun pins s σ H Q I h => ?_⟩
  refine wpAny_Call_Name_kw (ld_glob I hg hm ?_ hdb)
  refine PySem.W.callWith_K (h₀ := X.base) I.ok.mod.kin T.kC (thn (ha.run pos pins s σ H _ I h) fun us s1 ⟨vs, H1, I1, r1, hz, q1⟩ => ⟨I1.kIn, ?_⟩) he hpl
  have hus : us.length ≤ sizeLine := by
    rw [← Paired.length r1, sizeLine_eq]
    omega
  have hl : (Value.ref 0 :: us).length = ps.length := by
    have z := F1.len _ _ _ _ (q1 s1.heap.objs.size (I1.hok.fresh (Nat.le_refl _)))
    rw [← z, List.length_cons, List.length_cons, Paired.length r1]
  refine run_mkV (us := us) (kw := []) (zs := us) T iC tI F1 hr hx I1 hus (fun sh a X' => ?_) r1 q1
  have z := hb sh (Value.ref a :: us) X' (by rw [List.append_nil]; exact hl)
  rw [List.append_nil] at z
  exact z
/-- C(f = e) -/
theorem pe_mkVK {CX : CXT} {x : Str} {C fI : Addr} {b : Bs} {k : Nat} {fd : FuncData} {ps ks : List Str} {sp : Sp} {kws : List Keyword} {tk : TA} (T : EC X.K b C) (iC : PySem.W.findIn X.K (.ref C) "__init__" = some (some (.ref fI))) (tI : PySem.W.typeIn X.K (.ref fI) = some (.type "function"))
    (F1 : FnOk X.prog X.w X.K X.mg X.base CX k fI fd ps sp) (hr : Room (k + 1) X.A) (hb : ∀ (sh : Shared) (a : Addr) (zs : List Value), zs.length = ks.length → BindsTo sh fd ⟨[Value.ref a], ks.zip zs⟩ (ps.zip (Value.ref a :: zs))) (hx : Passes CX X E0) (hg : Gl X x) (hm : X.mg x = some (.ref C)) (hkw : PK X kws tk)
    (hps : ps.length = ks.length + 1) (hall : (backToKw pos (keywordEach kws X.env)).all (·.1.isSome) = true := by rfl) (hks : (backToKw pos (keywordEach kws X.env)).filterMap (·.1) = ks := by rfl) (hdb : (x == ("__debug__" : Str)) = false := by decide)
    (hpl : ((backTo pos (starEach [] X.env)).any (·.1) || (backToKw pos (keywordEach kws X.env)).any (·.1.isNone)) = false := by rfl) :
    PE X (.Call (.Name x p) [] kws pos) (tMkV C sp tk) := by
  refine ⟨fun pins s σ H Q I h => ?_⟩
  refine wpAny_Call_Name_kw (ld_glob I hg hm ?_ hdb)
  refine PySem.W.callWith_KW0 (h₀ := X.base) I.ok.mod.kin T.kC hall ?_ hpl
  refine thn (hkw.run pos pins s σ H _ I h) fun ws s2 ⟨zs, H2, I2, rz, hz, q2⟩ => ⟨I2.kIn, ?_⟩
  rw [hks]
  have hl : ws.length = ks.length := by
    have z := F1.len _ _ _ _ (q2 s2.heap.objs.size (I2.hok.fresh (Nat.le_refl _)))
    rw [List.length_cons, hps] at z
    rw [← Paired.length rz]
    omega
  exact run_mkV (us := []) (kw := ks.zip ws) (zs := ws) T iC tI F1 hr hx I2 (Nat.zero_le _) (fun sh a _ => hb sh a ws hl) rz q2
/-- C(), no __init__ of its own -/
theorem pe_mkV0 {x : Str} {C : Addr} {b : Bs} (T : EC X.K b C) (iC : PySem.W.findIn X.K (.ref C) "__init__" = some (some (.builtin b.initId))) (hg : Gl X x) (hm : X.mg x = some (.ref C))
    (hdb : (x == ("__debug__" : Str)) = false := by decide) :
    PE X (.Call (.Name x p) [] [] pos) (fun _ H Q => ∀ a, H a = none → Q (.ref a) (upd H a (exo a C none))) := by
  refine ⟨fun pins s σ H Q I h => ?_⟩
  refine wpAny_Call_Name_kw (ld_glob I hg hm ?_ hdb)
  refine PySem.W.callWith_K0 I.kIn T.kC ?_
  show wpAny _ _ (call (.ref C) []) _ _ _
  obtain ⟨nm, N, qn, bs, bm, hdct, sn, sub, ab, col, dd, k0, k1, k2, k3, k5, hC, hT⟩ := PySem.W.excInit_of I.kIn T.own
  obtain ⟨hp, g, dr, tk, os⟩ := s
  refine PySem.W.call_B T.ok.F hT hC (PySem.W.looks_findIn I.kIn iC) (Nat.zero_le _) fun h' k e1 e2 => ?_
  have hn : H (hp.objs.size + 1) = none := I.hok.fresh (Nat.le_succ _)
  exact ⟨.ref (hp.objs.size + 1), _, I.laid (t' := tk) (a := hp.objs.size + 1) k (Nat.le_succ _) (exo_ok e1), rfl, h _ hn⟩
theorem pe_xv {n : Str} (he : PE X e te) (hb : attributeBase e n X.env (eval e X.env) = eval e X.env := by rfl) : PE X (.Attribute e n pos) (tXv X.K n te) := by
  refine ⟨fun pins s σ H Q I h => ?_⟩
  refine attr_of hb (thn (he.run pins s σ H _ I h) fun u s1 hh => ?_)
  obtain ⟨x, H1, I1, rx, a, C, dx, b, fs, v, ex, T, hno, ea, ed, l, q⟩ := hh
  subst ex
  obtain rfl : u = Value.ref a := rx
  obtain ⟨t1, ho⟩ := exo_at I1.hok ea
  obtain ⟨mA, hns, hr⟩ := exd_at I1.hok ed
  obtain ⟨od, hod, hl⟩ := lookIn_ns hns
  obtain ⟨u, hu, ru⟩ := RelO.some_of (v := v) (o := mA n) (by rw [← l]; exact hr n)
  have J : PySem.W.InstAt s1.heap a { cls := .ref C, dict := some dx, data := .fields #[.ref t1, .none, .none, .none, .bool false, .none] } C (some od) := ⟨ho, rfl, rfl, hod⟩
  exact HandSPX.exc_get I1.kIn J T.ex.hg T.ex.hk T.ex.hs (PySem.W.findObj_own T.ex.hd hno rfl (by rw [hl, hu])) (handed_of ru) ⟨v, H1, I1.tok _, ru, q⟩
theorem call_isX : CallR X (.builtin "isinstance") (rIsX X.K) := by
  intro pins s σ H xs us Q I r h
  obtain ⟨a, C, od, c, u, b, rr, rfl, k, ea, hd, T, e, q⟩ := h
  obtain ⟨u1, u2, rfl, r1, r2⟩ := vals2 r
  have e2 := k.eq r2
  subst e2
  obtain rfl : u1 = Value.ref a := r1
  obtain ⟨t1, ho⟩ := exo_at I.hok ea
  have hcl : (PySem.W.clsIn X.K C).isSome = true := by
    obtain ⟨cd, hc, _⟩ := T.cd
    rw [hc]
    rfl
  have fin : ∀ tk, EP X pins σ Q (.bool rr) { s with toks := tk } := fun tk => ⟨.bl rr, H, I.tok tk, rfl, q⟩
  cases od with
  | none =>
    have J : PySem.W.InstAt s.heap a { cls := .ref C, dict := none, data := .fields #[.ref t1, .none, .none, .none, .bool false, .none] } C none := ⟨ho, rfl, rfl, trivial⟩
    exact PySem.W.kia_one (PySem.W.kitx_exc hcl T.ex.hg T.ex.hk T.ex.hs T.ex.ha T.ex.hn T.ex.ht T.ex.hm) I.kIn J e (fun z => nomatch z) fin
  | some dd =>
    obtain ⟨fs, ed⟩ := hd dd rfl
    obtain ⟨mA, hns, hr⟩ := exd_at I.hok ed
    obtain ⟨od, es, ep, hod, _⟩ := hns
    have J : PySem.W.InstAt s.heap a { cls := .ref C, dict := some dd, data := .fields #[.ref t1, .none, .none, .none, .bool false, .none] } C (some od) := ⟨ho, rfl, rfl, hod⟩
    exact PySem.W.kia_one (PySem.W.kitx_exc hcl T.ex.hg T.ex.hk T.ex.hs T.ex.ha T.ex.hn T.ex.ht T.ex.hm) I.kIn J e (fun z => nomatch z) fin
end
end L2.Tb
set_option Elab.async false
set_option linter.all false
set_option maxRecDepth 100000
set_option maxHeartbeats 4000000
namespace L2.Tb
open PySem PySem.Spec PyProof.Rows
/-! ### a def of the module that is called by its name -/
structure Cal (P : Program) (w : World) (K : PySem.W.Frag) (mg : Str → Option Value) (base : Heap) (k : Nat) (x : Str) (sp : Sp) : Prop where
  ex : ∃ (f : Addr) (fd : FuncData) (ps : List Str), FnOk P w K mg base L2.CX0 k f fd ps sp ∧ mg x = some (.ref f) ∧ PySem.W.keepIn K (.ref f) = true ∧ Binds K fd ps []
abbrev FnP (K : PySem.W.Frag) (x : Str) (st : Stmt) (f : Addr) (fd : FuncData) : Prop := FunD K x x (defArgs st) (defBody st) (defScope st) [] [] f fd
section
variable {P : Program} {w : World} {K : PySem.W.Frag} {mg : Str → Option Value} {base : Heap} {x : Str} {st : Stmt} {f : Addr} {fd : FuncData} {N ps : List Str} {k : Nat} {sp : Sp}
theorem cal_mk (F : FnP K x st f fd) (hm : mg x = some (.ref f)) (S : FnScope N ps (defScope st))
    (hb : ∀ (kV doc pm : Value) (an : Option Addr) (cdv ct : Value) (us : List Value), us.length = ps.length → bindArgs (PySem.W.fnOf x x (defArgs st) (defBody st) (defScope st) .none kV doc pm an cdv ct) ⟨us, []⟩ = pure (ps.zip us))
    (len : ∀ vs H Q E, sp vs H Q E → vs.length = ps.length)
    (hbody : ∀ (cdv : Value) (A : Around) (outer : List Env) (s : Shared) (H : Hp) (vs : List V) (Q : VK) (E : XK), Room k (A.deeper (envOfC x (defScope st) s.heap.objs.size f cdv)) → sp vs H Q E →
      ∃ t, PSs (cxOf L2.CX0 P w K mg base N x (defScope st) f cdv A outer s H E).nox (defBody st) t ∧ t { nx := fun _ H' => Q .non H', rt := Q } (start N vs) H) : Cal P w K mg base (k + 1) x sp :=
  ⟨f, fd, ps, F.ok S len fun cdv A outer s H vs Q E hr h => let ⟨t, a, b⟩ := hbody cdv A outer s H vs Q E hr h; ⟨t, a.nox, b⟩, hm, F.kp, F.bindsN hb⟩
theorem Cal.imp {sp' : Sp} (c : Cal P w K mg base k x sp) (h : ∀ vs H Q E, sp' vs H Q E → sp vs H Q E) : Cal P w K mg base k x sp' := by
  obtain ⟨f, fd, ps, F, a, b, d⟩ := c.ex
  exact ⟨f, fd, ps, F.imp h, a, b, d⟩
end
section
variable {X : Cx} {k j : Nat} {x : Str} {sp : Sp} {p pos : Pos} {e : Expr} {es : List Expr} {t : TA}
theorem pe_cal (c : Cal X.prog X.w X.K X.mg X.base k x sp) (hr : Room j X.A) (hk : k ≤ j) (hg : Gl X x) (ha : PA X (e :: es) t)
    (hdb : (x == ("__debug__" : Str)) = false := by decide) (he : starEach (e :: es) X.env = (false, eval e X.env) :: starEach es X.env := by rfl) (hpl : (backTo pos (starEach es X.env)).any (·.1) = false := by rfl) :
    PE X (.Call (.Name x p) (e :: es) [] pos) (tCall sp [] E0 t) := by
  obtain ⟨f, fd, ps, F, hm, kp, b⟩ := c.ex
  exact pe_call F (hr.mono hk) hg hm kp b .nil pass0 ha hdb he hpl
theorem pe_cal0 (c : Cal X.prog X.w X.K X.mg X.base k x sp) (hr : Room j X.A) (hk : k ≤ j) (hg : Gl X x)
    (hdb : (x == ("__debug__" : Str)) = false := by decide) : PE X (.Call (.Name x p) [] [] pos) (tCall sp [] E0 tNil) := by
  obtain ⟨f, fd, ps, F, hm, kp, b⟩ := c.ex
  exact pe_call0 F (hr.mono hk) hg hm kp b .nil pass0 hdb
end
/-! ### heaps: all but p stands -/
def SameB (p : Addr) (H H' : Hp) : Prop := ∀ b o, b ≠ p → H b = some o → H' b = some o
theorem SameB.refl (p : Addr) (H : Hp) : SameB p H H := fun _ _ _ h => h
theorem SameB.trans {p : Addr} {H H1 H2 : Hp} (a : SameB p H H1) (b : SameB p H1 H2) : SameB p H H2 := fun c o n h => b c o n (a c o n h)
theorem SameB.of {p : Addr} {H H' : Hp} (a : Same H H') : SameB p H H' := fun c o _ h => a c o h
theorem SameB.set {p : Addr} {H : Hp} {o : HO} : SameB p H (upd H p o) := fun c u n h => by rw [upd_ne n]; exact h
theorem same_new {H : Hp} {p : Addr} {o : HO} (h : H p = none) : Same H (upd H p o) := fun b u e => by rw [upd_ne (ne_of_none e h)]; exact e
theorem SameB.put {p : Addr} {H H' : Hp} {o : HO} (a : SameB p H H') : SameB p H (upd H' p o) := fun c u n h => by rw [upd_ne n]; exact a c u n h
/-! ### the purse -/
structure Purse (H : Hp) (p : Addr) : Prop where
  ex : ∃ st dg c : Int, H p = some (.lst [.int st, .int dg, .int c]) ∧ 0 ≤ st ∧ st < 2147483563 ∧ 0 ≤ dg
theorem Purse.same {H H' : Hp} {p : Addr} (h : Purse H p) (s : Same H H') : Purse H' p := by
  obtain ⟨st, dg, c, e, r⟩ := h.ex
  exact ⟨st, dg, c, s _ _ e, r⟩
theorem Purse.sameB {H H' : Hp} {p q : Addr} (h : Purse H p) (n : p ≠ q) (s : SameB q H H') : Purse H' p := by
  obtain ⟨st, dg, c, e, r⟩ := h.ex
  exact ⟨st, dg, c, s _ _ n e, r⟩
theorem divp_small {i j : Int} (h0 : 0 < j) (h1 : j < 2 ^ 200) : CDivP i j := by
  refine ⟨h0, ?_⟩
  unfold Builtin.divisionGoesByPylong
  have hb : j.natAbs.log2 < 200 := PySem.Flt.log2_lt_of (by decide) (by omega)
  have hj : ¬ (j == 0) = true := by simpa using (show j ≠ 0 by omega)
  show (decide ((if j == 0 then 0 else j.natAbs.log2 / 30 + 1) > 300) && _) = false
  rw [if_neg hj, decide_eq_false (by omega), Bool.false_and]
/-! ### odd values, alike values -/
def flatS : V → Bool
  | .non => true | .bl _ => true | .int _ => true | .str _ => true
  | _ => false
theorem flatS_B {x : V} (h : flatS x = true) : flatB x = true := by
  cases x <;> first | rfl | cases h
def Al (H : Hp) : Nat → V → V → Prop
  | 0, x, y => x = y ∧ flatS x = true
  | n + 1, x, y => (x = y ∧ flatS x = true) ∨
    (∃ a b xs ys, x = .ref a ∧ y = .ref b ∧ H a = some (.lst xs) ∧ H b = some (.lst ys) ∧ xs.length ≤ 1000 ∧ Paired (Al H n) xs ys) ∨
    (∃ a b xs ys, x = .ref a ∧ y = .ref b ∧ H a = some (.tup xs) ∧ H b = some (.tup ys) ∧ xs.length ≤ 1000 ∧ Paired (Al H n) xs ys) ∨
    (∃ (a : Addr) (kvs : List (Key × V)), x = .ref a ∧ y = .ref a ∧ H a = some (.dK kvs) ∧ ∀ kv ∈ kvs, valV kvs kv.1 = some kv.2 ∧ (flatS kv.2 = true ∨ ∃ b, kv.2 = .ref b))
theorem Al.mono {H H' : Hp} : ∀ {n : Nat} {x y : V}, (∀ b o, H b = some o → (∀ l, o = .lst l → l.length ≠ 3) → H' b = some o) → (∀ b l, H b = some (.lst l) → l.length = 3 → ∃ l', H' b = some (.lst l')) → Same H H' → Al H n x y → Al H' n x y
  | 0, _, _, _, _, _, h => h
  | n + 1, x, y, k1, k2, s, h => by
    have ih : ∀ {xs ys : List V}, Paired (Al H n) xs ys → Paired (Al H' n) xs ys := fun p => Paired.mapP p fun a b q => Al.mono k1 k2 s q
    rcases h with h | ⟨a, b, xs, ys, h1, h2, h3, h4, h5, h6⟩ | ⟨a, b, xs, ys, h1, h2, h3, h4, h5, h6⟩ | ⟨a, kvs, h1, h2, h3, h4⟩
    · exact .inl h
    · exact .inr (.inl ⟨a, b, xs, ys, h1, h2, s _ _ h3, s _ _ h4, h5, ih h6⟩)
    · exact .inr (.inr (.inl ⟨a, b, xs, ys, h1, h2, s _ _ h3, s _ _ h4, h5, ih h6⟩))
    · exact .inr (.inr (.inr ⟨a, kvs, h1, h2, s _ _ h3, h4⟩))
theorem Al.same {H H' : Hp} {n : Nat} {x y : V} (h : Al H n x y) (s : Same H H') : Al H' n x y := Al.mono (fun b o e _ => s b o e) (fun b l e _ => ⟨l, s _ _ e⟩) s h
def Od (H : Hp) : Nat → V → Prop
  | 0, v => flatS v = true
  | n + 1, v => flatS v = true ∨ (∃ a xs, v = .ref a ∧ H a = some (.lst xs) ∧ xs.length ≤ 1 ∧ ∀ x ∈ xs, Od H n x) ∨ (∃ a xs, v = .ref a ∧ H a = some (.tup xs) ∧ xs.length ≤ 3 ∧ ∀ x ∈ xs, Od H n x) ∨
    (∃ (a : Addr) (kvs : List (Key × V)), v = .ref a ∧ H a = some (.dK kvs) ∧ kvs.length ≤ 1 ∧ ∀ kv ∈ kvs, flatS kv.2 = true ∨ ∃ b, kv.2 = .ref b)
theorem Od.keep {H H' : Hp} {p : Addr} {st dg c : V} (hp : H p = some (.lst [st, dg, c])) (s : SameB p H H') : ∀ {n : Nat} {v : V}, Od H n v → Od H' n v
  | 0, _, h => h
  | n + 1, v, h => by
    rcases h with h | ⟨a, xs, h1, h2, h3, h4⟩ | ⟨a, xs, h1, h2, h3, h4⟩ | ⟨a, kvs, h1, h2, h3, h4⟩
    · exact .inl h
    · refine .inr (.inl ⟨a, xs, h1, s _ _ (fun e => ?_) h2, h3, fun x hx => (h4 x hx).keep hp s⟩)
      rw [e, hp] at h2
      cases h2
      simp at h3
    · refine .inr (.inr (.inl ⟨a, xs, h1, s _ _ (fun e => ?_) h2, h3, fun x hx => (h4 x hx).keep hp s⟩))
      rw [e, hp] at h2
      cases h2
    · refine .inr (.inr (.inr ⟨a, kvs, h1, s _ _ (fun e => ?_) h2, h3, h4⟩))
      rw [e, hp] at h2
      cases h2
theorem Od.same {H H' : Hp} (s : Same H H') : ∀ {n : Nat} {v : V}, Od H n v → Od H' n v
  | 0, _, h => h
  | n + 1, v, h => by
    rcases h with h | ⟨a, xs, h1, h2, h3, h4⟩ | ⟨a, xs, h1, h2, h3, h4⟩ | ⟨a, kvs, h1, h2, h3, h4⟩
    · exact .inl h
    · exact .inr (.inl ⟨a, xs, h1, s _ _ h2, h3, fun x hx => (h4 x hx).same s⟩)
    · exact .inr (.inr (.inl ⟨a, xs, h1, s _ _ h2, h3, fun x hx => (h4 x hx).same s⟩))
    · exact .inr (.inr (.inr ⟨a, kvs, h1, s _ _ h2, h3, h4⟩))
theorem paired_self {α : Type} {R : α → α → Prop} : ∀ {xs : List α}, (∀ x ∈ xs, R x x) → Paired R xs xs
  | [], _ => .nil
  | x :: xs, h => .cons (h x (List.mem_cons_self ..)) (paired_self fun y hy => h y (List.mem_cons_of_mem _ hy))
theorem Od.al {H : Hp} : ∀ {n : Nat} {v : V}, Od H n v → Al H n v v
  | 0, _, h => ⟨rfl, h⟩
  | n + 1, v, h => by
    rcases h with h | ⟨a, xs, h1, h2, h3, h4⟩ | ⟨a, xs, h1, h2, h3, h4⟩ | ⟨a, kvs, h1, h2, h3, h4⟩
    · exact .inl ⟨rfl, h⟩
    · exact .inr (.inl ⟨a, a, xs, xs, h1, h1, h2, h2, by omega, paired_self fun x hx => (h4 x hx).al⟩)
    · exact .inr (.inr (.inl ⟨a, a, xs, xs, h1, h1, h2, h2, by omega, paired_self fun x hx => (h4 x hx).al⟩))
    · refine .inr (.inr (.inr ⟨a, kvs, h1, h1, h2, fun kv hk => ⟨?_, h4 kv hk⟩⟩))
      match kvs, h3, hk with
      | [q], _, hk =>
        obtain rfl : kv = q := by simpa using hk
        simp [valV]
/-- x == y where both are one scalar or one dict -/
def rSelf : R2 := fun x y H Q => x = y ∧ (flatS x = true ∨ ∃ (a : Addr) (kvs : List (Key × V)), x = .ref a ∧ H a = some (.dK kvs) ∧ ∀ kv ∈ kvs, valV kvs kv.1 = some kv.2 ∧ (flatS kv.2 = true ∨ ∃ b, kv.2 = .ref b)) ∧ Q (.bl true) H
theorem op_self {X : Cx} (hu : X.A.units + 64 < cLine) : OpR X (compareOp .Eq) rSelf := by
  intro pins s σ H x y v u Q I rx ry h
  obtain ⟨rfl, h, q⟩ := h
  rcases h with h | ⟨a, kvs, rfl, ha, hk⟩
  · refine op_eq pins s σ H x x v u Q I rx ry ⟨?_, by rw [decide_eq_true rfl]; exact q⟩
    cases x <;> first | rfl | cases h
  · refine op_eqV hu pins s σ H _ _ v u Q I rx ry ⟨1, by decide, .inr ⟨a, a, kvs, kvs, rfl, rfl, ha, ha, rfl, fun p hp => ⟨p.2, (hk p hp).1, ?_⟩⟩, q⟩
    rcases (hk p hp).2 with z | ⟨b, z⟩
    · exact .inl ⟨rfl, flatS_B z⟩
    · exact .inr (.inl ⟨b, z, z⟩)
end L2.Tb
set_option Elab.async false
set_option linter.all false
set_option maxRecDepth 100000
set_option maxHeartbeats 4000000
namespace L2.Tb
open PySem PySem.Spec PyProof.Rows
/-! ### a def's promise at one place of the stack (for what hangs on the stack: repr) -/
section
variable {P : Program} {w : World} {K : PySem.W.Frag} {mg : Str → Option Value} {base : Heap} {f : Addr} {fd : FuncData} {ps : List Str} {sp : Sp} {A : Around}
def RunsAt (P : Program) (w : World) (K : PySem.W.Frag) (mg : Str → Option Value) (base : Heap) (f : Addr) (fd : FuncData) (ps : List Str) (sp : Sp) (A : Around) : Prop :=
  ∀ (outer : List Env) (s : Shared) (H : Hp) (args : Args) (us : List Value) (vs : List V) (Q : VK) (E : XK), Env0 P w K mg base A outer s H → BindsTo s fd args (ps.zip us) → Vals vs us → vs.length = ps.length → sp vs H Q E →
    codeAny (model P w) A (.call (.ref f) args) (CR L2.CX0 outer P w H s Q E) s
/-- how a body's end becomes the call's end -/
theorem end_call {s s' : Shared} {H : Hp} {Q : VK} {E : XK} {fl : Flow} {N : List Str} {x : Str} {sc : Scope} {cdv : Value} {outer : List Env}
    (h : SP (cxOf L2.CX0 P w K mg base N x sc f cdv A outer s H E) [] { nx := fun _ H' => Q .non H', rt := Q } fl s') : CR L2.CX0 outer P w H s Q E (.ok (.ret (match (generalizing := false) fl with | .ret v => v | _ => .none))) s' := by
  match fl, h with
  | .ret u, ⟨v, σ', H', J, rv, q⟩ => exact ⟨v, H', J.os, J.bare, J.base, J.hok, rv, q⟩
  | .next, ⟨σ', H', J, q⟩ => exact ⟨.non, H', J.os, J.bare, J.base, J.hok, rfl, q⟩
  | .brk, ⟨_, _, _, q⟩ => exact q.elim
  | .cont, ⟨_, _, _, q⟩ => exact q.elim
theorem runs_body {x : Str} {st : Stmt} {N : List Str} {k : Nat} (F : FnP K x st f fd) (S : FnScope N ps (defScope st)) (hr : Room (k + 1) A)
    (hbody : ∀ (cdv : Value) (outer : List Env) (s : Shared) (H : Hp) (vs : List V) (Q : VK) (E : XK), Room k (A.deeper (envOfC x (defScope st) s.heap.objs.size f cdv)) → sp vs H Q E →
      ∃ t, PSs (cxOf L2.CX0 P w K mg base N x (defScope st) f cdv A outer s H E) (defBody st) t ∧ t { nx := fun _ H' => Q .non H', rt := Q } (start N vs) H) : RunsAt P w K mg base f fd ps sp A := by
  obtain ⟨oc, od, dV, kV, doc, pm, an, cdv, ct, osl, rfl, lk, hcd, _, _⟩ := F.ex
  intro outer s H args us vs Q E e0 hb r hl hsp
  have here : ∀ {b o}, base.get? b = some o → s.heap.get? b = some o := fun e => (e0.bs _ _ e).1
  have KX : K.In s.heap := e0.mod.kin.keeps fun _ _ e => here e
  obtain ⟨t, ht, hq⟩ := hbody cdv outer s H vs Q E (hr.deeper _) hsp
  refine codeAny_call_function hr.depth (KX _ _ lk) rfl S.co S.gen rfl (PySem.W.codeRec_of KX hcd) (hb _ _ _ _ (wpAny_newFunctionEnv_cells S.kind (fun y hy => ?_) fun env he s1 i => ?_))
  · exact (S.par y.1 (List.of_mem_zip hy).1).imp_right fun q => ⟨q, PySem.W.cellsFrom_some _ _ _ (.inl q)⟩
  · rw [he]
    rw [he] at i
    exact ⟨(e0.mod.nolimit.keeps fun _ _ e => here e).keeps i.toInCall.keep, codeAny_func (wpAny_mono (ht.run [] s1 _ H _ (inv_start S hr.hd e0 hl r i) hq) (fun fl s' h => end_call h) fun _ _ h => h)⟩
end
section
variable {X : Cx} {f : Addr} {fd : FuncData} {ps : List Str} {sp : Sp} {x : Str} {p pos : Pos}
/-- x(), x a def without parameters that runs here -/
theorem pe_at0 (R : RunsAt X.prog X.w X.K X.mg X.base f fd [] sp X.A) (hg : Gl X x) (hm : X.mg x = some (.ref f)) (hk : PySem.W.keepIn X.K (.ref f) = true) (hb : ∀ s : Shared, X.K.In s.heap → BindsTo s fd ⟨[], []⟩ []) (hdb : (x == ("__debug__" : Str)) = false := by decide) :
    PE X (.Call (.Name x p) [] [] pos) (fun _ H Q => sp [] H Q E0) := by
  refine ⟨fun pins s σ H Q I h => wpAny_Call_Name_kw (ld_glob I hg hm (PySem.W.callWith_K0 I.kIn hk (wpAny_call (codeAny_mono (R X.stack s H ⟨[], []⟩ [] [] Q E0 I.env0 (hb s I.kIn) .nil rfl h) fun r s' hq => ?_))) hdb)⟩
  match r, hq with
  | .error e, hq => exact pass0 pins σ H s e s' I hq
  | .ok (.ret u), hq => exact I.after hq
end
section
variable {X : Cx}
def rReprD (K : PySem.W.Frag) : List V → Hp → VK → Prop := fun vs H Q => ∃ (a : Addr) (d : PyData), vs = [.ref a] ∧ Dp K H (.ref a) d ∧ d.showable = true ∧ d.hasDict = false ∧ d.depth ≤ 60 ∧ d.shown.length ≤ sizeLine ∧ Q (.str d.shown) H
theorem call_reprD (hg : X.A.guards = some []) (hu : X.A.units + 64 < cLine) : CallR X (.builtin "repr") (rReprD X.K) := by
  intro pins s σ H vs us Q I r h
  obtain ⟨a, d, rfl, hd, h1, h2, h3, h4, q⟩ := h
  rw [Vals.ref1 r]
  obtain ⟨as, rr⟩ := Dp.reads I d (.ref a) (.ref a) hd rfl
  exact repr_of_reads' rr h1 (fun z => by rw [h2] at z; cases z) hg (by omega) (fun _ _ e => e) (fun h' u tk hk => ⟨.str d.shown, H, I.kept hk, ⟨u, rfl⟩, q⟩) h4
end
/-! ### the end, at the place of the law's call -/
theorem law_at {P : Program} {w : World} {K : PySem.W.Frag} {mg mb : Str → Option Value} {fa a : Addr} {fd : FuncData} {x : Str} {sp : Sp} {s1 : Shared} {vs : List Value} {ns : List Int} (KX : K.In s1.heap) (hns : s1.heap.Ns mainGlobals mg) (hb : s1.heap.Ns builtinsNs mb)
    (hbb : ∀ x : Str, x ≠ "__name__" → mb x = bootBuiltins x) (hlim : s1.heap.NoLimit) (hg : s1.gens = #[]) (ha : s1.heap.get? a = some { cls := .type "list", data := .seq vs.toArray }) (hi : IntsAre vs ns) (hl : ns.length ≤ sizeLine)
    (R : ∀ base : Heap, K.In base → base.Ns mainGlobals mg → RunsAt P w K mg base fa fd [x] sp callerA) (hbind : ∀ (s : Shared) (u : Value), BindsTo s fd ⟨[u], []⟩ [(x, u)])
    (hsp : ∀ H : Hp, SqL K H a (ns.map V.int) → (∀ b o, H b = some o → ∃ u xs, o = .frz u (.lst xs)) → sp [.ref a] H (fun v _ => v = .bl true) fun _ _ _ => False) :
    codeAny (model P w) callerA (.call (.ref fa) ⟨[.ref a], []⟩) (fun r s' => r = .ok (.ret (.bool true)) ∧ OldK s1.heap s'.heap ∧ s'.os = s1.os ∧ AllBare s'.gens) s1 := by
  let ob : Obj := { cls := .type "list", data := .seq vs.toArray }
  let H : Hp := fun b => if b = a ∧ K.lookup a = none then some (.frz ob (.lst (ns.map V.int))) else none
  have hH : ∀ b o, H b = some o → b = a ∧ K.lookup a = none ∧ o = .frz ob (.lst (ns.map V.int)) := fun b o e => by
    by_cases c : b = a ∧ K.lookup a = none
    · have e' := (if_pos c).symm.trans e
      cases e'
      exact ⟨c.1, c.2, rfl⟩
    · have e' := (if_neg c).symm.trans e
      cases e'
  have free : ∀ b o, s1.heap.get? b = some o → (b = a → (K.lookup a).isSome = true ∨ ∃ es ep, o.data = .dict es ep) → H b = none := fun b o e c => by
    cases q : H b with
    | none => rfl
    | some u =>
      obtain ⟨rfl, hk, _⟩ := hH b u q
      rcases c rfl with z | ⟨es, ep, z⟩
      · rw [hk] at z
        cases z
      · rw [ha] at e
        cases e
        cases z
  have ns1 : ∀ {b : Addr} {m : Str → Option Value}, s1.heap.Ns b m → (hidT s1.heap H).Ns b m := fun {b m} ⟨o, es, ep, e, d, r⟩ => ⟨o, es, ep, hidT_get e (free b o e fun _ => .inr ⟨es, ep, d⟩), d, r⟩
  have kin : K.In (hidT s1.heap H) := fun b o e => hidT_get (KX b o e) (free b o (KX b o e) fun z => .inl (by rw [← z, e]; rfl))
  have rv := vals_ints hi
  have sq : SqL K H a (ns.map V.int) := by
    cases hk : K.lookup a with
    | none => exact .inl (.inr ⟨ob, if_pos ⟨rfl, hk⟩⟩)
    | some o =>
      have e := KX a o hk
      rw [ha] at e
      cases e
      exact .inr ⟨_, vs.toArray, _, hk, rfl, rfl, rfl, by rw [List.size_toArray, hi.length]; exact hl, by simpa using rv⟩
  have hok : HOk P w H s1.heap := fun b u z => by
    obtain ⟨rfl, _, rfl⟩ := hH b u z
    exact ⟨ha, by rw [List.length_map]; exact hl, vs, _, rv, ha⟩
  obtain ⟨mc, l1, l2⟩ := hlim
  have e0 : Env0 P w K mg (hidT s1.heap H) callerA [] s1 H := ⟨rfl, ⟨kin, ns1 hns, ⟨mb, ns1 hb, hbb⟩, ⟨mc, ns1 l1, l2⟩⟩, fun _ _ e => of_hidT e, Nat.le_of_eq (hidT_size _ _), trivial, fun b hb => (nomatch hb), hok, .of_eq hg⟩
  refine codeAny_mono (R _ kin (ns1 hns) [] s1 H _ [.ref a] [.ref a] (fun v _ => v = .bl true) (fun _ _ _ => False) e0 (hbind s1 (.ref a)) (.cons rfl .nil) rfl (hsp H sq fun b o e => ⟨_, _, (hH b o e).2.2⟩)) fun r s' h => ?_
  match r, h with
  | .error e, h => exact h.elim
  | .ok (.ret u), ⟨v, H', os, bare, un, hok', r', q⟩ =>
    subst q
    obtain rfl : u = Value.bool true := r'
    refine ⟨rfl, OldK.of_keep fun b o e => ?_, os, bare⟩
    cases z : H b with
    | none => exact un.keep b o e z (fun z => nomatch z) (fun z => nomatch z)
    | some o2 =>
      obtain ⟨rfl, _, rfl⟩ := hH b o2 z
      rw [ha] at e
      cases e
      exact (hok' b _ (un.frzs b ob _ z)).1
theorem walk_at {l : PySem.W.OpenLaw} {n : Nat} {q : Program} {loose : List Str} {XP : (Str → Option Value) → Heap → Prop} {YP : World → Heap → Prop} {d : DefRec} {x : Str} (hn : l.most = some n) (hn2 : n ≤ sizeLine) (hdf : d.params.defaults = [])
    (F : ∀ (w : World) (mg : Str → Option Value) (fa : Addr) (h : Heap), YP w h → h.Ns mainGlobals mg → mg d.name = some (.ref fa) → ∃ (K : PySem.W.Frag) (fd : FuncData) (sp : Sp), K.In h ∧ (∀ (s : Shared) (u : Value), BindsTo s fd ⟨[u], []⟩ [(x, u)]) ∧
      (∀ (H : Hp) (a : Addr) (ns : List Int), ns.length ≤ n → (∀ z ∈ ns, Builtin.Int.intBits z ≤ 1048576) → SqL K H a (ns.map V.int) → sp [.ref a] H (fun v _ => v = .bl true) fun _ _ _ => False) ∧
      ∀ base : Heap, K.In base → base.Ns mainGlobals mg → RunsAt l.prog w K mg base fa fd [x] sp callerA) :
    PySem.W.WalkO q loose XP YP l.row.toRowW d [] (fun f vs => PySem.call f vs) := by
  refine Att.attach_callB hn hdf fun w s0 s1 mg mb fa o pm cd doc a vs ns G Y ho hd hcd hmg hobj hints hlen hbits hg => ?_
  obtain ⟨K, fd, sp, KX, hb, hsp, R⟩ := F w mg fa _ Y G.T.g hmg
  exact law_at KX G.T.g G.T.b G.T.builtins G.T.nolimit hg hobj hints (Nat.le_trans hlen hn2) R hb fun H sq _ => hsp H a ns hlen hbits sq
end L2.Tb
set_option Elab.async false
set_option linter.all false
set_option maxRecDepth 100000
set_option maxHeartbeats 4000000
namespace L2.Tb
open PySem PySem.Spec PyProof.Rows
/-! ### an error class with one attribute, as the law meets it -/
def spInit (K : PySem.W.Frag) (f : Str) : Sp := fun vs H Q _ => ∃ (a C : Addr) (b : Bs) (v : V), vs = [.ref a, v] ∧ EC K b C ∧ PySem.W.findIn K (.ref C) f = some none ∧ H a = some (exo a C none) ∧
  ∀ dx, H dx = none → dx ≠ a → Q .non (upd (upd H dx (exd dx [(f, v)])) a (exo a C (some dx)))
/-- at a: an error of the class at C whose attribute f is v -/
def ErAt (H : Hp) (a C : Addr) (f : Str) (v : V) : Prop := ∃ dx, H a = some (exo a C (some dx)) ∧ H dx = some (exd dx [(f, v)])
theorem ErAt.same {H H' : Hp} {a C : Addr} {f : Str} {v : V} (h : ErAt H a C f v) (s : Same H H') : ErAt H' a C f v := by
  obtain ⟨dx, h1, h2⟩ := h
  exact ⟨dx, s _ _ h1, s _ _ h2⟩
structure ErC (P : Program) (w : World) (K : PySem.W.Frag) (mg : Str → Option Value) (base : Heap) (x f : Str) (b : Bs) (C : Addr) : Prop where
  mgC : mg x = some (.ref C)
  ec : EC K b C
  no : PySem.W.findIn K (.ref C) f = some none
  init : ∃ (fI : Addr) (fd : FuncData), PySem.W.findIn K (.ref C) "__init__" = some (some (.ref fI)) ∧ PySem.W.typeIn K (.ref fI) = some (.type "function") ∧ FnOk P w K mg base L2.CX0 1 fI fd ["self", f] (spInit K f) ∧ Binds K fd ["self", f] [] ∧
    ∀ (sh : Shared) (a : Addr) (zs : List Value), zs.length = [f].length → BindsTo sh fd ⟨[Value.ref a], [f].zip zs⟩ (("self" :: [f] : List Str).zip (Value.ref a :: zs))
section
variable {P : Program} {w : World} {K : PySem.W.Frag} {mg : Str → Option Value} {base : Heap} {f : Str} {fI : Addr} {fd : FuncData} {qual : Str} {params : Arguments} {scope : Scope} {p1 p2 p3 p4 : Pos}
theorem init_ok (F : FunD K "__init__" qual params [.Assign [.Attribute (.Name "self" p1) f p2] (.Name f p3) p4] scope [] [] fI fd) (S : FnScope ["self", f] ["self", f] scope)
    (h0 : scope.names.lookup ("self" : Str) = some .local) (h1 : scope.names.lookup f = some .local) (hd : (f == ("__debug__" : Str)) = false) (hcd : (f == ("__classdict__" : Str)) = false) : FnOk P w K mg base L2.CX0 1 fI fd ["self", f] (spInit K f) := by
  refine F.ok S (fun vs H Q E h => ?_) (fun cdv A outer s H vs Q E hr h => ?_)
  · obtain ⟨a, C, b, v, rfl, _⟩ := h
    rfl
  · obtain ⟨a, C, b, v, rfl, T, hno, ha, k⟩ := h
    refine ⟨_, pss_one (ps_osv (pe_var (i := 0) rfl (.inl h0)) (pe_var (i := 1) rfl (.inl h1) hd hcd)), ?_⟩
    exact ⟨_, rfl, _, rfl, a, C, b, rfl, T, hno, ha, fun dx n ne => k dx n ne⟩
end
/-- a reading, weakened behind -/
def tUp (te : TE) : TE := fun σ H Q => ∃ Q' : VK, te σ H Q' ∧ ∀ v H1, Q' v H1 → Q v H1
theorem pe_up {X : Cx} {e : Expr} {te : TE} (he : PE X e te) : PE X e (tUp te) :=
  ⟨fun pins s σ H Q I h => let ⟨Q', h1, h2⟩ := h; thn (he.run pins s σ H Q' I h1) fun u s1 ⟨v, H1, I1, r, q⟩ => ⟨v, H1, I1, r, h2 v H1 q⟩⟩
/-- the reading of an error made by place or by name -/
def tEr (C : Addr) (f : Str) (te : TE) : TE := fun σ H Q => te σ H fun v H1 => ∀ a H2, Same H1 H2 → H1 a = none → ErAt H2 a C f v → Q (.ref a) H2
section
variable {X : Cx} {x f : Str} {b : Bs} {C : Addr} {p pos : Pos} {e : Expr} {te : TE}
theorem er_run {v : V} {H1 : Hp} {Q : VK} (T : EC X.K b C) (hno : PySem.W.findIn X.K (.ref C) f = some none) (q : ∀ a H2, Same H1 H2 → H1 a = none → ErAt H2 a C f v → Q (.ref a) H2) (a : Addr) (n : H1 a = none) :
    spInit X.K f [.ref a, v] (upd H1 a (exo a C none)) (fun u H2 => u = .non ∧ Q (.ref a) H2) E0 := by
  refine ⟨a, C, b, v, rfl, T, hno, upd_same, fun dx nd ne => ⟨rfl, q a _ (fun c o h => ?_) n ⟨dx, upd_same, by rw [upd_ne ne, upd_same]⟩⟩⟩
  have hca : c ≠ a := ne_of_none h n
  have hcd : c ≠ dx := fun z => by
    rw [z] at h
    rw [upd_ne ne] at nd
    rw [nd] at h
    cases h
  rw [upd_ne hca, upd_ne hcd, upd_ne hca]
  exact h
theorem pe_er (E : ErC X.prog X.w X.K X.mg X.base x f b C) {j : Nat} (hr : Room j X.A) (hj : 2 ≤ j) (hg : Gl X x) (he : PE X e te) (hdb : (x == ("__debug__" : Str)) = false := by decide) (hs : starEach [e] X.env = (false, eval e X.env) :: starEach [] X.env := by rfl) :
    PE X (.Call (.Name x p) [e] [] pos) (tEr C f te) := by
  obtain ⟨fI, fd, h1, h2, h3, h4, _⟩ := E.init
  exact ⟨fun pins s σ H Q I h => (pe_mkV E.ec h1 h2 h3 (hr.mono hj) h4 pass0 hg E.mgC (pa_cons (pe_up he) pa_nil hs) hdb hs (by rfl)).run pins s σ H Q I ⟨_, h, fun v H1 q => ⟨Nat.le_of_ble_eq_true rfl, fun a n => er_run E.ec E.no q a n⟩⟩⟩
theorem pe_erK (E : ErC X.prog X.w X.K X.mg X.base x f b C) {j : Nat} {kpos : Pos} (hr : Room j X.A) (hj : 2 ≤ j) (hg : Gl X x) (he : PE X e te) (hdb : (x == ("__debug__" : Str)) = false := by decide)
    (hall : (backToKw pos (keywordEach [⟨some f, e, kpos⟩] X.env)).all (·.1.isSome) = true := by rfl) (hks : (backToKw pos (keywordEach [⟨some f, e, kpos⟩] X.env)).filterMap (·.1) = [f] := by rfl)
    (hpl : ((backTo pos (starEach [] X.env)).any (·.1) || (backToKw pos (keywordEach [⟨some f, e, kpos⟩] X.env)).any (·.1.isNone)) = false := by rfl) :
    PE X (.Call (.Name x p) [] [⟨some f, e, kpos⟩] pos) (tEr C f te) := by
  obtain ⟨fI, fd, h1, h2, h3, h4, h5⟩ := E.init
  exact ⟨fun pins s σ H Q I h => (pe_mkVK (ks := [f]) E.ec h1 h2 h3 (hr.mono hj) h5 pass0 hg E.mgC (pk_cons (pe_up he) pk_nil) rfl hall hks hdb hpl).run pins s σ H Q I ⟨_, h, fun v H1 q => ⟨Nat.le_of_ble_eq_true rfl, fun a n => er_run E.ec E.no q a n⟩⟩⟩
end
end L2.Tb
set_option Elab.async false
set_option linter.all false
set_option maxRecDepth 100000
set_option maxHeartbeats 4000000
namespace L2.Tb
open PySem PySem.Spec PyProof.Rows
section
variable {X : Cx} {x f : Str} {b : Bs} {C : Addr} {p pos : Pos} {e : Expr} {te : TE}
/-- the reading of an error that is made to be raised -/
def tErR (C : Addr) (f : Str) (te : TE) : St → Hp → XK → Prop := fun σ H Q => te σ H fun v H1 => ∀ d H', Same H1 H' → H1 d = none → H' d = some (.xd [(f, v)]) → Q (.ref C) (some d) H'
theorem pmk_er (E : ErC X.prog X.w X.K X.mg X.base x f b C) (ty : PySem.W.typeIn X.K (.ref C) = some (.type "type")) {j : Nat} (hr : Room j X.A) (hj : 2 ≤ j) (hg : Gl X x) (he : PE X e te) (hdb : (x == ("__debug__" : Str)) = false := by decide)
    (hs : starEach [e] X.env = (false, eval e X.env) :: starEach [] X.env := by rfl) (hpl : (backTo pos (starEach [] X.env)).any (·.1) = false := by rfl) : PMk X (.Call (.Name x p) [e] [] pos) (tErR C f te) := by
  intro pins s σ H Q I h
  obtain ⟨fI, fd, h1, h2, F1, hb, _⟩ := E.init
  have ha : PA X [e] (tCons (tUp te) tNil) := pa_cons (pe_up he) pa_nil hs
  refine wpAny_Call_Name_kw (ld_glob I hg E.mgC ?_ hdb)
  refine PySem.W.callWith_K (h₀ := X.base) I.ok.mod.kin E.ec.kC (thn (ha.run pos pins s σ H (fun vs H1 => ∃ v, vs = [v] ∧ ∀ d H', Same H1 H' → H1 d = none → H' d = some (.xd [(f, v)]) → Q (.ref C) (some d) H') I ⟨_, h, fun v H1 q => ⟨v, rfl, q⟩⟩) fun us s1 hh => ?_) hs hpl
  obtain ⟨vs, H1, I1, r1, v, rfl, q1⟩ := hh
  refine ⟨I1.kIn, ?_⟩
  show wpAny _ _ (call (.ref C) us) _ _ _
  obtain ⟨nm, N, qn, bs, bm, hdct, sn, sub, ab, col, dd, k0, k1, k2, k3, k5, hC, hT⟩ := PySem.W.excInit_of I1.kIn E.ec.own
  obtain ⟨hp, g, dr, tk, os⟩ := s1
  have hn : H1 (hp.objs.size + 1) = none := I1.hok.fresh (Nat.le_succ _)
  have keep : ∀ c o, hp.get? c = some o → (laidH hp C us).get? c = some o := fun c o q => Heap.get?_push_of_some _ (Heap.get?_push_of_some _ q)
  have hus : us.length ≤ sizeLine := by
    rw [← Paired.length r1]
    exact Nat.le_of_ble_eq_true rfl
  have hl : (Value.ref (hp.objs.size + 1) :: us).length = (["self", f] : List Str).length := by
    rw [List.length_cons, ← Paired.length r1]
    rfl
  have I2 := made_inv (C := C) us I1
  have bind : BindsTo ⟨(hp.push (PySem.W.kdv_tup us)).push (PySem.HandSPX.excO C hp.objs.size), g, dr, tk, os⟩ fd ⟨Value.ref (hp.objs.size + 1) :: us, []⟩ ((["self", f] : List Str).zip (Value.ref (hp.objs.size + 1) :: us)) := by
    have z := hb _ (Value.ref (hp.objs.size + 1) :: us) I2.kIn (by rw [List.append_nil]; exact hl)
    rw [List.append_nil] at z
    exact z
  refine wpAny_call (own_call ⟨nm, qn, N, bs, hdct, sn, sub, ab, col, dd, k0, k1, k2, k3, k5, hC⟩ E.ec.ok hT (PySem.W.looks_findIn I1.kIn h1) (fun self => PySem.W.bind_fn I1.kIn self h2) hus
    (codeAny_mono (F1.run _ X.stack _ _ ⟨Value.ref (hp.objs.size + 1) :: us, []⟩ (Value.ref (hp.objs.size + 1) :: us) [V.ref (hp.objs.size + 1), v]
      (fun u H2 => u = .non ∧ ∃ d, H2 (hp.objs.size + 1) = some (exo (hp.objs.size + 1) C (some d)) ∧ H2 d = some (exd d [(f, v)]) ∧ H1 d = none ∧ Q (.ref C) (some d) (upd (del H2 (hp.objs.size + 1)) d (.xd [(f, v)]))) E0 ((hr.mono hj).make C us []) (I2.env0.make C us []) bind (.cons rfl r1) ?_) fun r s' hq => ?_))
  · refine ⟨_, C, b, v, rfl, E.ec, E.no, upd_same, fun dx nd ne => ⟨rfl, dx, upd_same, by rw [upd_ne ne, upd_same], ?_, q1 dx _ (fun c o q => ?_) ?_ upd_same⟩⟩
    · rw [upd_ne ne] at nd
      exact nd
    · have hca : c ≠ hp.objs.size + 1 := ne_of_none q hn
      have hcd : c ≠ dx := fun z => by
        rw [z] at q
        rw [upd_ne ne] at nd
        rw [nd] at q
        cases q
      rw [upd_ne hcd, del_ne hca, upd_ne hca, upd_ne hcd, upd_ne hca]
      exact q
    · rw [upd_ne ne] at nd
      exact nd
  · match r, hq with
    | .error er, hq => exact hq.elim
    | .ok (.ret u), ⟨w, H2, os2, bare2, un2, hok2, rv, ev, d, ea, ed, hd1, q2⟩ =>
      subst ev
      obtain ⟨h2, g2, d2, t2, os'⟩ := s'
      exact ⟨rv, mk_end (raises_own E.ec.ex.hs ty) I1 (Nat.le_succ _) keep un2 hok2 os2 bare2 ea ed hd1 q2⟩
end
end L2.Tb
set_option Elab.async false
set_option linter.all false
set_option maxRecDepth 100000
set_option maxHeartbeats 4000000
/-! an object of an own class: str(x) by its __str__, x == y by its __eq__ (any outcome) -/
namespace L2.Tb
open PySem PySem.Spec PyProof.Rows
section
variable {X : Cx} {C f : Addr} {fd : FuncData} {ps : List Str} {sp : Sp} {k : Nat}
theorem relV_str {z : Str} {u : Value} (r : RelV (.str z) u) : ∃ t, u = .str z t := r
def rStrOwn (C : Addr) (sp : Sp) : List V → Hp → VK → Prop := fun xs H Q => ∃ (a dx : Addr) (fs : List (Str × V)), xs = [.ref a] ∧ H a = some (.ins C dx fs) ∧ sp [.ref a] H (fun v H' => ∃ z, v = .str z ∧ Q (.str z) H') E0
theorem call_strOwn (F : FnOk X.prog X.w X.K X.mg X.base L2.CX0 k f fd ps sp) (hr : Room (k + 2) X.A) (hs : PySem.W.findIn X.K (.ref C) "__str__" = some (some (.ref f))) (hf : PySem.W.isFn X.K (.ref f) = true) (hb : Binds X.K fd ps []) : CallR X (.type "str") (rStrOwn C sp) := by
  intro pins s σ H xs us Q I r h
  obtain ⟨a, dx, fs, rfl, ea, h⟩ := h
  rw [Vals.ref1 r]
  obtain ⟨mA, O, _⟩ := ins_get I.hok ea
  obtain ⟨od, J, _⟩ := O.look
  have r2 : Room k X.A.in1.in1 := hr.in1.in1
  have hl := F.len _ _ _ _ h
  refine PySem.W.kso_call (hr.in1.in1.units0) I.kIn J hs hf (wpAny_call (codeAny_mono (F.run X.A.in1.in1 X.stack s H ⟨[.ref a], []⟩ [.ref a] [.ref a] _ E0 r2 I.env0.in1.in1 (by
    have z := hb s [.ref a] I.kIn (by simpa using hl)
    simpa using z) (.cons rfl .nil) h) fun r s' hq => ?_))
  match r, hq with
  | .error e, hq => exact hq.elim
  | .ok (.ret u), hq =>
    obtain ⟨v, H', I', rv, z, ev, q⟩ := I.after hq
    rw [ev] at rv
    obtain ⟨t, rfl⟩ := relV_str rv
    exact ⟨.str z, H', I', ⟨t, rfl⟩, q⟩
def rOwnEq (K : PySem.W.Frag) (C : Addr) (sp : Sp) : R2 := fun x y H Q => ∃ (a dx : Addr) (fs : List (Str × V)) (t : Value), x = .ref a ∧ H a = some (.ins C dx fs) ∧ TyX K H y t ∧ PySem.W.notFirst K C t = true ∧ sp [.ref a, y] H Q E0
theorem cmp_back {Q : Value → Shared → Prop} {u : Value} {s' : Shared} {v : V} (r : RelV v u) (q : Q u s') : PySem.W.CmpBack Q u s' := by
  cases u <;> first | exact q | (cases v <;> first | (obtain ⟨t, e⟩ := r; cases e; done) | (cases r; done))
theorem op_ownEq (F : FnOk X.prog X.w X.K X.mg X.base L2.CX0 k f fd ps sp) (hr : Room k X.A) (hs : PySem.W.findIn X.K (.ref C) "__eq__" = some (some (.ref f))) (hf : PySem.W.isFn X.K (.ref f) = true) (hb : Binds X.K fd ps []) : OpR X (compareOp .Eq) (rOwnEq X.K C sp) := by
  intro pins s σ H x y v u Q I rx ry h
  obtain ⟨a, dx, fs, t, rfl, ea, ty, nf, h⟩ := h
  obtain rfl : v = Value.ref a := rx
  obtain ⟨mA, O, _⟩ := ins_get I.hok ea
  obtain ⟨od, J, _⟩ := O.look
  obtain ⟨m, hF⟩ := I.fr
  obtain ⟨Pt, kt, pt, _⟩ := kit_of I ry ty
  have hl := F.len _ _ _ _ h
  refine PySem.W.cmp_K (op := .Eq) (tb := t) hr.units0 hF I.ok.mod.kin J (kt.ty _ _ I.kIn pt) nf hs hf (wpAny_call (codeAny_mono (F.run X.A X.stack s H ⟨[.ref a, u], []⟩ [.ref a, u] [.ref a, y] _ E0 hr I.env0 (by
    have z := hb s [.ref a, u] I.kIn (by simpa using hl)
    simpa using z) (.cons rfl (.cons ry .nil)) h) fun r s' hq => ?_))
  match r, hq with
  | .error e, hq => exact hq.elim
  | .ok (.ret u2), hq =>
    obtain ⟨v2, H', I', rv, q⟩ := I.after hq
    exact cmp_back rv ⟨v2, H', I', rv, q⟩
end
end L2.Tb
set_option Elab.async false
set_option linter.all false
set_option maxRecDepth 100000
set_option maxHeartbeats 4000000
/-! C(e, .., k = v) where C stands in a local variable -/
namespace L2.Tb
open PySem PySem.Spec PyProof.Rows
theorem pass_none {X : Cx} : Passes (L2.CX X.prog X.w) X (fun _ _ _ => False) := fun _ _ _ _ _ _ _ h => by
  obtain ⟨_, _, _, _, _, _, _, _, _, _, _, _, z⟩ := h
  exact z.elim
section
variable {X : Cx} {CX : CXT} {k n i : Nat} {f C : Addr} {fd : FuncData} {ps ks : List Str} {sp : Sp} {E : XK} {x : Str} {p pos : Pos} {e : Expr} {es : List Expr} {kws : List Keyword} {t tk : TA} {g : List Value → List Value → List Value} {gV : List V → List V → List V}
def tMakeVK (i : Nat) (C : Addr) (n m : Nat) (sp : Sp) (gV : List V → List V → List V) (E : XK) (t tk : TA) : TE := fun σ H Q => σ[i]? = some (some (.ref C)) ∧ tMakeK C n m sp gV E t tk σ H Q
theorem pe_makeVK (M : Mk X.K C f) (F : FnOk X.prog X.w X.K X.mg X.base CX k f fd ps sp) {j : Nat} (hr : Room j X.A) (hj : k + 1 ≤ j) (hN : X.N[i]? = some x) (hv : Vis X.env.scope x) (hb : KBn X.K fd ps (n + 1) ks g gV) (hx : Passes CX X E) (ha : PA X (e :: es) t) (hkw : PK X kws tk)
    (hall : (backToKw pos (keywordEach kws X.env)).all (·.1.isSome) = true := by rfl) (hks : (backToKw pos (keywordEach kws X.env)).filterMap (·.1) = ks := by rfl) (hd : (x == ("__debug__" : Str)) = false := by decide) (hcd : (x == ("__classdict__" : Str)) = false := by decide)
    (he : starEach (e :: es) X.env = (false, eval e X.env) :: starEach es X.env := by rfl) (hpl : ((backTo pos (starEach (e :: es) X.env)).any (·.1) || (backToKw pos (keywordEach kws X.env)).any (·.1.isNone)) = false := by rfl) :
    PE X (.Call (.Name x p) (e :: es) kws pos) (tMakeVK i C n ks.length sp gV E t tk) := by
  refine ⟨fun pins s σ H Q I ⟨hs, h⟩ => wpAny_Call_Name_kw (thn ((pe_var (pos := p) (i := i) hN hv hd hcd).run pins s σ H (fun v H1 => v = .ref C ∧ H1 = H) I ⟨.ref C, hs, rfl, rfl⟩) fun u s1 hh => ?_)⟩
  obtain ⟨v, H1, I1, r1, ev, eH⟩ := hh
  subst ev eH
  cases r1
  refine PySem.W.callWith_KW (h₀ := X.base) I1.ok.mod.kin M.kp hall (thn (ha.run pos pins s1 σ H1 _ I1 h) fun us s2 ⟨vs, H2, I2, r, q⟩ => thn (hkw.run pos pins s2 σ H2 _ I2 q) fun ws s3 ⟨zs, H3, I3, rz, l1, l2, q2⟩ => ⟨I3.kIn, ?_⟩) hpl he
  rw [hks]
  exact run_makeK M F (hr.mono hj) hb hx I3 r rz l1 l2 q2
end
end L2.Tb
set_option Elab.async false
set_option linter.all false
set_option maxRecDepth 100000
set_option maxHeartbeats 4000000
/-! try: .. / except X as e: .. / except Y as e: .. / whatever clause behind, which is never reached -/
namespace L2.Tb
open PySem PySem.Spec PyProof.Rows
abbrev Suite : Type := Addr → Value → Option Addr → TS
/-- the ends of a suite whose name stands in slot i: the name goes -/
def offName (i : Nat) (D : Ends) : Ends := { nx := fun σ H => D.nx (σ.set i none) H, rt := D.rt, bk := fun σ H => D.bk (σ.set i none) H, ct := fun σ H => D.ct (σ.set i none) H }
def wAsMany (K : PySem.W.Frag) (D : Ends) : List (Value × Nat × Suite) → WX
  | [] => fun _ _ _ _ => False
  | (c, i, ts) :: r => fun cls d σ H => ∃ b, PySem.W.exmOne K cls c = some b ∧ (b = true → ∀ a, H a = none → ts a cls d (offName i D) (σ.set i (some (.ref a))) H) ∧ (b = false → wAsMany K D r cls d σ H)
/-- only for slots of the right number -/
def wLen (N : List Str) (W : WX) : WX := fun cls d σ H => σ.length = N.length → W cls d σ H
inductive HdsAs (X : Cx) : List ExceptHandler → List (Value × Nat × Suite) → Prop
  | stop (rest : List ExceptHandler) : HdsAs X rest []
  | cons {x n : Str} {c : Value} {i : Nat} {ts : Suite} {b0 : Stmt} {suite : List Stmt} {np p : Pos} {hds : List ExceptHandler} {l : List (Value × Nat × Suite)} (hi : X.N[i]? = some n) (hln : X.env.kindOf n = some .local) (hc : Names X x c)
      (hsu : ∀ (a : Addr) (oe : Obj) (cls : Value) (d : Option Addr) (pn : List (Addr × Obj)), Zc cls d oe → (∃ vs, oe.data = .fields vs) → PSs (X.suite a ((a, oe) :: pn)) (b0 :: suite) (ts a cls d)) (r : HdsAs X hds l) :
      HdsAs X (.ExceptHandler (some (.Name x np)) (some n) (b0 :: suite) p :: hds) ((c, i, ts) :: l)
section
variable {X : Cx} {body : List Stmt} {h0 : ExceptHandler} {hds : List ExceptHandler} {l : List (Value × Nat × Suite)} {pos : Pos} {tb : WX → TS}
theorem ps_try_asMany (hs : X.stack = X.env :: X.outer) (hf : X.env.frame = some X.env.locals) (hN : X.N.Nodup)
    (hb : ∀ (W : WX) (pn : List (Addr × Obj)) (xe : Value → Shared → Prop), Takes (X.tr pn xe) W → PassesOwn (model X.prog X.w) X.A X.env xe → PSs (X.tr pn xe) body (tb W)) (hh : HdsAs X (h0 :: hds) l) :
    PS X (.Try body (h0 :: hds) [] [] pos) (fun D σ H => tb (wLen X.N (wAsMany X.K D l)) D σ H) := by
  refine ⟨fun pins s σ H D I h => ?_⟩
  have ok := I.ok
  refine wpAny_Try_except (wpAny_mono ((hb (wLen X.N (wAsMany X.K D l)) (X.pn ++ pins) (fun e s1 => wpAny (model X.prog X.w) X.A (noteFrame e X.env) (fun _ s2 => wpAny (model X.prog X.w) X.A (setFlight e none) (fun _ s3 =>
    wpAny (model X.prog X.w) X.A (handleBy e X.env (h0 :: hds)) (SP X pins D) X.xe s3) X.xe s2) X.xe s1) (fun u s' caught => ?_) PassesOwn.looking).run [] s σ H D (I.toTry _) h) (fun f s1 hsp => ?_) fun _ _ he => he)
  · obtain ⟨a, B, sI, pins', σ', H', cls, d, rfl, J', nb, up, sky, na, os, ag, w⟩ := caught
    have J : Inv X pins σ' H' sI := J'.ofTry ok
    replace w := w J.len
    rw [hs] at sky
    show wpAny (model X.prog X.w) X.A (noteFrame (.ref a) X.env) _ _ _
    refine Sky.land Zc.steady (by rw [ok.frames, hs]) hf sky fun h3 fl3 up3 => ?_
    have J3 : Inv X pins σ' H' { s' with heap := h3 } := J.landed nb fl3.1 (up.trans up3) os ag
    obtain ⟨oe3, vs3, he3, hz3, hd3⟩ := fl3.there
    have nfr : a ∉ frs (X.env :: X.outer) := fun hm => by
      obtain ⟨_, o', e', no⟩ := fl3.2.2.1.mem hm
      rw [he3] at e'
      cases e'
      exact no _ hd3
    have nL : a ≠ X.env.locals := fun z => nfr (List.mem_filterMap.mpr ⟨X.env, List.mem_cons_self, by rw [hf, z]⟩)
    have nF : a ∉ X.fs := fun hm => let ⟨e, he, q⟩ := List.mem_filterMap.mp hm; nfr (List.mem_filterMap.mpr ⟨e, List.mem_cons_of_mem _ he, q⟩)
    have S3 := J3.suite he3 hd3 na nL nF
    clear hb h
    generalize h0 :: hds = all at hh ⊢
    induction hh with
    | stop rest => exact w.elim
    | @cons x n c i ts b0 suite np p hds2 l2 hi hln hc hsu r ih =>
      obtain ⟨b, hb1, hyes, hno⟩ := w
      have LT : PySem.W.Looks (model X.prog X.w) h3 (typeOf (.ref a)) cls := fun A Q E s k q => wpAny_typeOf_ref (k _ _ he3) (by rw [hz3.1]; exact q)
      have LM := PySem.W.exm_one (M := model X.prog X.w) J3.kIn LT hb1
      have test : ∀ {Q : Value → Shared → Prop} {E : Value → Shared → Prop}, Q c { s' with heap := h3 } → wpAny (model X.prog X.w) (X.A.mark (some (.ref a))) (eval (.Name x np) X.env) Q E { s' with heap := h3 } := fun q => by
        rcases hc with ⟨hg, hdbg, hm | ⟨hm, hv, hnn⟩⟩
        · exact ld_glob (X := X.suite a ((a, oe3) :: (X.pn ++ pins))) S3 hg hm q hdbg
        · exact ld_blt (X := X.suite a ((a, oe3) :: (X.pn ++ pins))) S3 hg hm hv q hnn hdbg
      refine wpAny_handleBy_cons (codeAny_handlers_test (test (LM.here ?_))) (by intro q; cases q)
      cases b with
      | false => exact ih (hno rfl)
      | true =>
        refine codeAny_handlers_suite_as (HandSPX.lands_againZ fl3 fun h4 fl4 up4 => ?_)
        have J4 : Inv X pins σ' H' { s' with heap := h4 } := J.landed nb fl4.1 ((up.trans up3).trans up4) os ag
        obtain ⟨oe4, vs4, he4, hz4, hd4⟩ := fl4.there
        refine store_ok (X := X.suite a ((a, oe4) :: (X.pn ++ pins))) (v := .ref a) (J4.suite he4 hd4 na nL nF) hN hi (.inl hln) rfl (fun s5 S5 => ?_) (.inr hln)
        refine wpAny_mono ((hsu a oe4 cls d (X.pn ++ pins) hz4 ⟨_, hd4⟩).run [] s5 _ H' _ S5 (hyes rfl a na)) (fun f s6 hsp => ?_) fun _ _ z => z.elim
        have gone : ∀ {σ6 : St} {H6 : Hp} {Q : Shared → Prop}, Inv (X.suite a ((a, oe4) :: (X.pn ++ pins))) [] σ6 H6 s6 → (∀ s7, Inv X pins (σ6.set i none) H6 s7 → Q s7) → wpAny (model X.prog X.w) X.A (do bindName X.env n .none; unbindBehindTheSuite X.env n p) (fun _ s7 => Q s7) X.xe s6 :=
          fun S6 hq => gone_ok (S6.unsuite ok) hN hi hln hq
        match f, hsp with
        | .next, ⟨σ6, H6, S6, q6⟩ => exact gone S6 fun s7 J7 => ⟨_, _, J7, q6⟩
        | .brk, ⟨σ6, H6, S6, q6⟩ => exact gone S6 fun s7 J7 => ⟨_, _, J7, q6⟩
        | .cont, ⟨σ6, H6, S6, q6⟩ => exact gone S6 fun s7 J7 => ⟨_, _, J7, q6⟩
        | .ret u, ⟨v6, σ6, H6, S6, r6, q6⟩ => exact gone S6 fun s7 J7 => ⟨_, _, _, J7, r6, q6⟩
  · match f, hsp with
    | .next, ⟨σ1, H1, J1, q⟩ => exact wpAny_execs_nil ⟨σ1, H1, J1.ofTry ok, q⟩
    | .brk, ⟨σ1, H1, J1, q⟩ => exact ⟨σ1, H1, J1.ofTry ok, q⟩
    | .cont, ⟨σ1, H1, J1, q⟩ => exact ⟨σ1, H1, J1.ofTry ok, q⟩
    | .ret u, ⟨v, σ1, H1, J1, r, q⟩ => exact ⟨v, σ1, H1, J1.ofTry ok, r, q⟩
end
end L2.Tb
set_option Elab.async false
set_option linter.all false
set_option maxRecDepth 100000
set_option maxHeartbeats 4000000
/-! p, q = e1, e2 where the stores stand from the left (one of the targets is no plain local name): the pair made between is not tracked -/
namespace L2.Tb
open PySem PySem.Spec PyProof.Rows
def tPairL (ta : TA) (g : TGs) : TS := fun D σ H => ta σ H fun vs H1 => vs.length = 2 ∧ g vs σ H1 D.nx
variable {X : Cx} {es vs : List Expr} {ta : TA} {g : TGs} {kt k2 : Nat} {pt pt2 pos : Pos}
theorem ps_pairL (calm : X.calm = true) (right : PA X vs ta) (left : PGs X es g)
    (star : (assignEach es X.env).findIdx? (·.1) = none) (even : (assignEach es X.env).length = 2)
    (plain : swappedStores [.Tuple es kt pt] (.Tuple vs k2 pt2) X.env = pure none)
    (noswap : swapsWithSole [.Tuple es kt pt] (.Tuple vs k2 pt2) pos.line X.env = pure false := by rfl)
    (once : (assignEach [.Tuple es kt pt] X.env).map (·.2) = [assign (.Tuple es kt pt) X.env] := by rfl) :
    PS X (.Assign [.Tuple es kt pt] (.Tuple vs k2 pt2) pos) (tPairL ta g) := by
  refine ⟨fun pins s σ H D I h => ?_⟩
  refine wpAny_Assign_stores (Tuple_ (thn (right.run _ pins s σ H _ I h) fun us s1 ⟨ws, H1, I1, r1, q1⟩ => ?_)) noswap plain
  obtain ⟨e2, q1⟩ := q1
  have hlen : us.length = 2 := by rw [← e2]; exact (Vals.length r1).symm
  refine wpAny_newObj_type ?_ (by show us.length ≤ sizeLine; rw [hlen]; decide)
  have I2 : Inv X pins σ H1 { s1 with heap := s1.heap.push { cls := .type "tuple", data := .seq us.toArray } } := I1.kept (t' := s1.toks) fun b o e => Heap.get?_push_of_some _ e
  rw [once]
  show wpAny (model X.prog X.w) X.A (assign (.Tuple es kt pt) X.env (.ref s1.heap.objs.size)) _ _ _
  refine assign_Tuple_tuple (items := us.toArray) (I.ok.hd calm) (IsTup.new s1.heap _) (by simp [even, hlen]) star fun h' hx => ?_
  have I3 := I2.kept (h' := h') (t' := s1.toks) fun b o e => hx b o (Nat.ne_of_lt (Heap.lt_size e)) e
  refine thn (left.run pins _ σ H1 ws _ D.nx I3 (by simpa using r1) q1) fun _ s2 q => ?_
  exact q
end L2.Tb
set_option Elab.async false
set_option linter.all false
set_option maxRecDepth 100000
set_option maxHeartbeats 4000000
/-! C.m(k = v), m a classmethod; repr of a bool -/
namespace L2.Tb
open PySem PySem.Spec PyProof.Rows
theorem call_repr_bl {X : Cx} : CallR X (.builtin "repr") (fun xs H Q => ∃ b, xs = [.bl b] ∧ Q (.str (if b then "True" else "False")) H) := by
  intro pins s σ H xs us Q I r h
  obtain ⟨b, rfl, q⟩ := h
  obtain ⟨u, rfl, e⟩ := vals1 r
  obtain rfl : u = Value.bool b := e
  exact PySem.P.repr_of_bool ⟨.str _, H, I.tok _, ⟨_, rfl⟩, q⟩
section
variable {X : Cx} {CX : CXT} {k : Nat} {C p g : Addr} {mc : Value} {sp : Sp} {E : XK} {o : Expr} {kws : List Keyword} {m : Str} {pos apos : Pos} {ta : TE} {tk : TA} {pl : Sem Bool} {fd : FuncData} {ps ks : List Str}
theorem pe_cmethK (he : PE X o ta) (r : ClX.CRead X.K C mc) (c : ClX.CMet X.K C mc m p g) (F : FnOk X.prog X.w X.K X.mg X.base CX k g fd ps sp) (hr : Room k X.A) (hx : Passes CX X E) (hkw : PK X kws tk) (hl : ps.length = ks.length + 1)
    (hb : ∀ (sh : Shared) (zs : List Value), zs.length = ks.length → BindsTo sh fd ⟨[.ref C], ks.zip zs⟩ (ps.zip (Value.ref C :: zs)))
    (hall : (backToKw pos (keywordEach kws X.env)).all (·.1.isSome) = true := by rfl) (hks : (backToKw pos (keywordEach kws X.env)).filterMap (·.1) = ks := by rfl)
    (hpl : ((backTo pos (starEach [] X.env)).any (·.1) || (backToKw pos (keywordEach kws X.env)).any (·.1.isNone)) = false := by rfl)
    (ht : eval (.Call (.Attribute o m apos) [] kws pos) X.env = (do
      let ov ← eval o X.env
      standAt apos.atName
      let (f, first) ← holding [ov] (getMethod ov m pl)
      callWith pos f first (backTo pos (starEach [] X.env)) (backToKw pos (keywordEach kws X.env))) := by rfl) :
    PE X (.Call (.Attribute o m apos) [] kws pos) (fun σ H Q => ta σ H fun x H1 => x = .ref C ∧ tk σ H1 fun zs H2 => sp (.ref C :: zs) H2 Q E) := by
  refine ⟨fun pins s σ H Q I h => ?_⟩
  refine PySem.W.methodCall_KW (pl := pl) (thn (he.run pins s σ H _ I h) fun u s1 hh => ?_) ht
  obtain ⟨x, H1, I1, rx, ex, q⟩ := hh
  subst ex
  obtain rfl : u = Value.ref C := rx
  refine ClX.getmethcm_ok I1 r c fun s2 I2 => ?_
  refine PySem.W.callWith_of (P := PySem.W.MethP X.K s1.heap.objs.size g (.ref C)) hpl (PySem.W.keeps_M c.fi) (evalArgs_kw2_nil hall ?_)
  refine thn (hkw.run pos _ s2 σ H1 _ I2 q) fun ws s3 hh => ?_
  obtain ⟨zs, H2, I3, rz, q2⟩ := hh
  refine ⟨⟨ClX.pin_at I3, I3.kIn⟩, ?_⟩
  rw [hks]
  have hw : ws.length = ks.length := by
    have z := F.len _ _ _ _ q2
    rw [List.length_cons, hl] at z
    rw [← rz.length]
    omega
  have run : wpAny (model X.prog X.w) X.A (call (.ref s1.heap.objs.size) [] (ks.zip ws)) (EP X ((s1.heap.objs.size, PySem.W.methodObj (.ref g) (.ref C)) :: pins) σ Q) X.xe s3 := by
    refine wpAny_call (PySem.W.method_call (ClX.pin_at I3) (codeAny_mono (F.run X.A X.stack s3 H2 ⟨[.ref C], ks.zip ws⟩ (.ref C :: ws) (.ref C :: zs) Q E hr I3.env0 (hb s3 ws hw) (.cons rfl rz) q2) fun r s' hq => ?_))
    match r, hq with
    | .error e, hq => exact hx _ σ H2 s3 e s' I3 hq
    | .ok (.ret u2), hq => exact I3.after hq
  exact thn run fun _ _ y => ClX.unpinE y
end
end L2.Tb
set_option Elab.async false
set_option linter.all false
set_option maxRecDepth 100000
set_option maxHeartbeats 4000000
/-! x != y where x's class has an __eq__ of its own and no __ne__ -/
namespace L2.Tb
open PySem PySem.Spec PyProof.Rows
section
variable {prog : Program} {w : World} {A : Around} {E : Value → Shared → Prop} {s : Shared} {K : PySem.W.Frag} {x C f : Addr} {ox : Obj} {od : Option Obj} {b : Value}
theorem ne_body {Q : Fin → Shared → Prop} (hu : A.units < cLine) (X : K.In s.heap) (I : PySem.W.InstAt s.heap x ox C od) (he : PySem.W.findIn K (.ref C) "__eq__" = some (some (.ref f))) (hf : PySem.W.isFn K (.ref f) = true)
    (h : wpAny (model prog w) A (call (.ref f) [.ref x, b]) (fun v s' => ∃ c, v = .bool c ∧ Q (.done (.ret (.bool (!c)))) s') E s) : wpAny (model prog w) A (Builtin.«object.__ne__» ⟨[.ref x, b], []⟩) Q E s := by
  unfold Builtin.«object.__ne__»
  refine wpAny_bind (wpAny_of_eq (show _ = (pure (Value.ref x, [b]) : Sem (Value × List Value)) from rfl) ?_)
  refine wpAny_bind (wpAny_cRoomFor hu (wpAny_bind (PySem.W.ifBound_K X I he hf (wpAny_mono h (fun v s' hv => ?_) fun _ _ e => e))))
  obtain ⟨c, rfl, q⟩ := hv
  exact wpAny_bind (wpAny_truthy_bool (wpAny_pure q))
theorem ne_call {Q : Value → Shared → Prop} (hu : A.in1.units < cLine) (X : K.In s.heap) (I : PySem.W.InstAt s.heap x ox C od) (hm : PySem.W.mroIn K C (.type "object") = some true) (he : PySem.W.findIn K (.ref C) "__eq__" = some (some (.ref f))) (hf : PySem.W.isFn K (.ref f) = true)
    (h : wpAny (model prog w) A.in1 (call (.ref f) [.ref x, b]) (fun v s' => ∃ c, v = .bool c ∧ Q (.bool (!c)) s') E s) : wpAny (model prog w) A (call (.builtin "object.__ne__") [.ref x, b]) Q E s :=
  wpAny_call (codeAny_call_builtin F.cmp_object.ne.plain F.cmpEntry_ne (PySem.W.check_slot F.cmpKind_ne F.cmpSplit_ne (I.type.andThen (PySem.W.looks_mroIn X hm)) (F.cmpArgs_ne _ _) (ne_body hu X I he hf h)))
theorem bound_ne {args : List Value} {Q : Option Value → Shared → Prop} (X : K.In s.heap) (I : PySem.W.InstAt s.heap x ox C od) (hs : PySem.W.findIn K (.ref C) "__ne__" = some (some (.builtin "object.__ne__")))
    (h : wpAny (model prog w) A (call (.builtin "object.__ne__") (.ref x :: args)) (fun v => Q (some v)) E s) : wpAny (model prog w) A (callSpecialIfBound? (.ref x) "__ne__" args) Q E s := by
  have run : wpAny (model prog w) A (call (.builtin "object.__ne__") ([.ref x] ++ args) >>= fun v => pure (some v)) Q E s := wpAny_bind (wpAny_mono h (fun _ _ q => wpAny_pure q) fun _ _ q => q)
  simp only [callSpecialIfBound?, bindSpecialIfBound?]
  refine wpAny_holding (wpAny_bind (wpAny_bind (wpAny_bind (I.type.here ((PySem.W.looks_findIn X hs).here (wpAny_bind (wpAny_askSetting (wpAny_ite ?_))))))))
  split
  · exact wpAny_bind (wpAny_of_eq (F.cmp_object.ne.bind _) (wpAny_pure (by exact run)))
  · exact wpAny_tryCatch (wpAny_bind (wpAny_of_eq (F.cmp_object.ne.bind _) (wpAny_pure (by exact run))))
theorem rc_ne {Q : Value → Shared → Prop} {tb : Value} (hu : A.units + 2 < cLine) (X : K.In s.heap) (I : PySem.W.InstAt s.heap x ox C od) (hb : PySem.W.Looks (model prog w) s.heap (typeOf b) tb) (hn : PySem.W.notFirst K C tb = true) (hm : PySem.W.mroIn K C (.type "object") = some true)
    (hs : PySem.W.findIn K (.ref C) "__ne__" = some (some (.builtin "object.__ne__"))) (he : PySem.W.findIn K (.ref C) "__eq__" = some (some (.ref f))) (hf : PySem.W.isFn K (.ref f) = true)
    (h : wpAny (model prog w) A.in1 (call (.ref f) [.ref x, b]) (fun v s' => ∃ c, v = .bool c ∧ Q (.bool (!c)) s') E s) : wpAny (model prog w) A (richCompare .NotEq (.ref x) b) Q E s := by
  have one : wpAny (model prog w) A (tryCompare (.ref x) (cmpInfo .NotEq).2.1 b) (fun r s' => ∃ c, r = some (.bool (!c)) ∧ Q (.bool (!c)) s') E s := by
    unfold tryCompare
    refine wpAny_bind (bound_ne X I hs (ne_call (show A.units + 1 < cLine by omega) X I hm he hf (wpAny_mono h (fun v s' hv => ?_) fun _ _ e => e)))
    obtain ⟨c, e, q⟩ := hv
    exact ⟨c, e, wpAny_pure ⟨c, rfl, q⟩⟩
  unfold richCompare
  simp only [oneThing_ref]
  refine wpAny_holding (wpAny_bind (wpAny_cRoomFor (show A.units < cLine by omega) ?_))
  refine wpAny_bind (I.type.here (wpAny_bind (hb.here ?_)))
  split
  · rename_i q
    have e : PySem.W.subIn K tb (.ref C) = some false := (Bool.or_eq_true_iff.mp hn).elim (fun z => absurd q (by rw [beq_iff_eq.mp z]; simp)) fun z => beq_iff_eq.mp z
    refine wpAny_bind ((PySem.W.looks_subIn X e).here ?_)
    simp only [Bool.false_eq_true, if_false]
    refine wpAny_bind (wpAny_mono one (fun r s' z => ?_) fun _ _ e => e)
    obtain ⟨c, rfl, hq⟩ := z
    exact wpAny_pure hq
  · refine wpAny_bind (wpAny_pure ?_)
    simp only [Bool.false_eq_true, if_false]
    refine wpAny_bind (wpAny_mono one (fun r s' z => ?_) fun _ _ e => e)
    obtain ⟨c, rfl, hq⟩ := z
    exact wpAny_pure hq
end
section
variable {X : Cx} {C f : Addr} {fd : FuncData} {ps : List Str} {sp : Sp} {k : Nat}
def rOwnNe (K : PySem.W.Frag) (C : Addr) (sp : Sp) : R2 := fun x y H Q => ∃ (a dx : Addr) (fs : List (Str × V)) (t : Value), x = .ref a ∧ H a = some (.ins C dx fs) ∧ TyX K H y t ∧ PySem.W.notFirst K C t = true ∧ sp [.ref a, y] H (fun v H' => ∃ c, v = .bl c ∧ Q (.bl (!c)) H') E0
theorem op_ownNe (F : FnOk X.prog X.w X.K X.mg X.base L2.CX0 k f fd ps sp) (hr : Room (k + 1) X.A) (hm : PySem.W.mroIn X.K C (.type "object") = some true) (hs : PySem.W.findIn X.K (.ref C) "__ne__" = some (some (.builtin "object.__ne__")))
    (he : PySem.W.findIn X.K (.ref C) "__eq__" = some (some (.ref f))) (hf : PySem.W.isFn X.K (.ref f) = true) (hb : Binds X.K fd ps []) : OpR X (compareOp .NotEq) (rOwnNe X.K C sp) := by
  intro pins s σ H x y v u Q I rx ry h
  obtain ⟨a, dx, fs, t, rfl, ea, ty, nf, h⟩ := h
  obtain rfl : v = Value.ref a := rx
  obtain ⟨mA, O, _⟩ := ins_get I.hok ea
  obtain ⟨od, J, _⟩ := O.look
  obtain ⟨Pt, kt, pt, _⟩ := kit_of I ry ty
  have hl := F.len _ _ _ _ h
  refine rc_ne (tb := t) (by have := hr.un; omega) I.kIn J (kt.ty _ _ I.kIn pt) nf hm hs he hf (wpAny_call (codeAny_mono (F.run X.A.in1 X.stack s H ⟨[.ref a, u], []⟩ [.ref a, u] [.ref a, y] _ E0 hr.in1 I.env0.in1 (by
    have z := hb s [.ref a, u] I.kIn (by simpa using hl)
    simpa using z) (.cons rfl (.cons ry .nil)) h) fun r s' hq => ?_))
  match r, hq with
  | .error e, hq => exact hq.elim
  | .ok (.ret u2), hq =>
    obtain ⟨v2, H', I', rv, c, e, q⟩ := I.after hq
    rw [e] at rv
    obtain rfl : u2 = Value.bool c := rv
    exact ⟨c, rfl, .bl (!c), H', I', rfl, q⟩
end
end L2.Tb
set_option Elab.async false
set_option linter.all false
set_option maxRecDepth 100000
set_option maxHeartbeats 4000000
namespace L2.Tb
open PySem PySem.Spec PyProof.Rows
/-! ### a def whose code object is known -/
section
variable {P : Program} {w : World} {K : PySem.W.Frag} {mg : Str → Option Value} {base : Heap} {x : Str} {st : Stmt} {fd : FuncData} {N ps : List Str} {k : Nat} {sp : Sp}
/-- as cal_mk, the body being told where the def's code object stands -/
theorem cal_mkC {at_ : Str × Option Str} (F : FnP K x st (He.fAd K at_) fd) (hm : mg x = some (.ref (He.fAd K at_))) (S : FnScope N ps (defScope st))
    (hb : ∀ (kV doc pm : Value) (an : Option Addr) (cdv ct : Value) (us : List Value), us.length = ps.length → bindArgs (PySem.W.fnOf x x (defArgs st) (defBody st) (defScope st) .none kV doc pm an cdv ct) ⟨us, []⟩ = pure (ps.zip us))
    (len : ∀ vs H Q E, sp vs H Q E → vs.length = ps.length)
    (hbody : ∀ (cdv : Value) (A : Around) (outer : List Env) (s : Shared) (H : Hp) (vs : List V) (Q : VK) (E : XK), cdv = .ref (He.codeOf K at_) → Room k (A.deeper (envOfC x (defScope st) s.heap.objs.size (He.fAd K at_) cdv)) → sp vs H Q E →
      ∃ t, PSs (cxOf L2.CX0 P w K mg base N x (defScope st) (He.fAd K at_) cdv A outer s H E).nox (defBody st) t ∧ t { nx := fun _ H' => Q .non H', rt := Q } (start N vs) H) : Cal P w K mg base (k + 1) x sp := by
  obtain ⟨oc, od, dV, kV, doc, pm, an, cdv, ct, osl, rfl, lk, hcd, _, _⟩ := id F.ex
  obtain ⟨c, rfl⟩ := He.codeIn_ref hcd
  have hc : (Value.ref c) = .ref (He.codeOf K at_) := by rw [He.codeOf_eq lk rfl]
  refine ⟨_, _, ps, fn_of lk hcd S len fun A outer s H vs Q E hr h => ?_, hm, F.kp, F.bindsN hb⟩
  obtain ⟨t, a, b⟩ := hbody _ A outer s H vs Q E hc hr h
  exact ⟨t, a.nox, b⟩
end
/-! ### the end at the place of the law's call, some code objects having tables -/
section
variable {P : Program} {w : World} {K : PySem.W.Frag} {mg mb : Str → Option Value} {fa a : Addr} {fd : FuncData} {x : Str} {sp : Sp} {s1 : Shared} {vs : List Value} {ns : List Int} {cs : List (Addr × Addr)}
theorem law_atT (KX : K.In s1.heap) (hns : s1.heap.Ns mainGlobals mg) (hb : s1.heap.Ns builtinsNs mb)
    (hbb : ∀ x : Str, x ≠ "__name__" → mb x = bootBuiltins x) (hlim : s1.heap.NoLimit) (hg : s1.gens = #[]) (hT : ∀ p ∈ cs, s1.heap.get? p.2 = some { cls := .none, data := .fields #[] }) (nT : ∀ p ∈ cs, K.lookup p.2 = none) (C : ∀ p ∈ cs, PySem.W.CodeHd s1.heap p.1 p.2)
    (hbm : ∃ (bm : Addr) (ob : Obj), mg "__builtins__" = some (.ref bm) ∧ bm ≠ builtinsNs ∧ s1.heap.get? bm = some ob ∧ ob.cls = .type "module" ∧ ob.dict = some builtinsNs ∧ ob.data = .plain)
    (ha : s1.heap.get? a = some { cls := .type "list", data := .seq vs.toArray }) (hi : IntsAre vs ns) (hl : ns.length ≤ sizeLine)
    (R : ∀ base : Heap, K.In base → base.Ns mainGlobals mg → (∀ p ∈ cs, LamX.TabB base mg p.1 p.2) → RunsAt P w K mg base fa fd [x] sp callerA) (hbind : ∀ (s : Shared) (u : Value), BindsTo s fd ⟨[u], []⟩ [(x, u)])
    (hsp : ∀ H : Hp, (∀ p ∈ cs, H p.2 = some (.tbl #[])) → SqL K H a (ns.map V.int) → sp [.ref a] H (fun v _ => v = .bl true) fun _ _ _ => False) :
    codeAny (model P w) callerA (.call (.ref fa) ⟨[.ref a], []⟩) (fun r s' => r = .ok (.ret (.bool true)) ∧ OldK s1.heap s'.heap ∧ s'.os = s1.os ∧ AllBare s'.gens) s1 := by
  let ob : Obj := { cls := .type "list", data := .seq vs.toArray }
  let Ts : List Addr := cs.map (·.2)
  let H : Hp := fun b => if b ∈ Ts then some (.tbl #[]) else if b = a ∧ K.lookup a = none then some (.frz ob (.lst (ns.map V.int))) else none
  have tabs : ∀ {b}, b ∈ Ts → ∃ p ∈ cs, p.2 = b := fun h => by
    obtain ⟨p, hp, e⟩ := List.mem_map.mp h
    exact ⟨p, hp, e⟩
  have tab1 : ∀ p ∈ cs, p.2 ∈ Ts := fun p hp => List.mem_map_of_mem hp
  have objT : ∀ {b}, b ∈ Ts → s1.heap.get? b = some { cls := .none, data := .fields #[] } := fun h => by
    obtain ⟨p, hp, rfl⟩ := tabs h
    exact hT p hp
  have aT : a ∉ Ts := fun h => by
    have z := (objT h).symm.trans ha
    cases z
  have hTab : ∀ {b}, b ∈ Ts → H b = some (.tbl #[]) := fun h => if_pos h
  have hNot : ∀ {b}, b ∉ Ts → (b = a → (K.lookup a).isSome = true) → H b = none := fun {b} h1 h2 => by
    refine (if_neg h1).trans (if_neg fun ⟨e, k⟩ => ?_)
    have z := h2 e
    rw [k] at z
    cases z
  have hCase : ∀ b o, H b = some o → (b ∈ Ts ∧ o = .tbl #[]) ∨ (b ∉ Ts ∧ b = a ∧ K.lookup a = none ∧ o = .frz ob (.lst (ns.map V.int))) := fun b o e => by
    by_cases h1 : b ∈ Ts
    · rw [hTab h1] at e
      exact .inl ⟨h1, (Option.some.inj e).symm⟩
    · have e2 : (if b = a ∧ K.lookup a = none then some (HO.frz ob (.lst (ns.map V.int))) else none) = some o := (if_neg h1).symm.trans e
      by_cases h2 : b = a ∧ K.lookup a = none
      · rw [if_pos h2] at e2
        exact .inr ⟨h1, h2.1, h2.2, (Option.some.inj e2).symm⟩
      · rw [if_neg h2] at e2
        cases e2
  have plain : ∀ {b o}, s1.heap.get? b = some o → (∀ u n, o.data ≠ .seq u n) → o.data ≠ .fields #[] → H b = none := fun {b o} e n1 n2 => by
    refine hNot (fun h => n2 ?_) fun h => absurd ?_ (n1 vs.toArray 0)
    · have z := e.symm.trans (objT h)
      cases z
      rfl
    · rw [h, ha] at e
      cases e
      rfl
  have ns1 : ∀ {b : Addr} {m : Str → Option Value}, s1.heap.Ns b m → (hidT s1.heap H).Ns b m := fun {b m} ⟨o, es, ep, e, d, r⟩ =>
    ⟨o, es, ep, hidT_get e (plain e (fun u n z => by rw [d] at z; cases z) (fun z => by rw [d] at z; cases z)), d, r⟩
  have kin : K.In (hidT s1.heap H) := fun b o e => hidT_get (KX b o e) (hNot (fun h => by
    obtain ⟨p, hp, rfl⟩ := tabs h
    rw [nT p hp] at e
    cases e) fun h => by rw [← h, e]; rfl)
  have rv := vals_ints hi
  have sq : SqL K H a (ns.map V.int) := by
    cases hk : K.lookup a with
    | none => exact .inl (.inr ⟨ob, (if_neg aT).trans (if_pos ⟨rfl, hk⟩)⟩)
    | some o =>
      have e := KX a o hk
      rw [ha] at e
      cases e
      exact .inr ⟨_, vs.toArray, _, hk, rfl, rfl, rfl, by rw [List.size_toArray, hi.length]; exact hl, by simpa using rv⟩
  have hok : HOk P w H s1.heap := fun b u z => by
    rcases hCase b u z with ⟨h1, rfl⟩ | ⟨_, rfl, _, rfl⟩
    · exact objT h1
    · exact ⟨ha, by rw [List.length_map]; exact hl, vs, _, rv, ha⟩
  obtain ⟨mc, l1, l2⟩ := hlim
  have e0 : Env0 P w K mg (hidT s1.heap H) callerA [] s1 H := ⟨rfl, ⟨kin, ns1 hns, ⟨mb, ns1 hb, hbb⟩, ⟨mc, ns1 l1, l2⟩⟩, fun _ _ e => of_hidT e, Nat.le_of_eq (hidT_size _ _), trivial, fun b hb => (nomatch hb), hok, .of_eq hg⟩
  have TB : ∀ p ∈ cs, LamX.TabB (hidT s1.heap H) mg p.1 p.2 := fun p hp => by
    have tp := hT p hp
    obtain ⟨og, es, ep, eg, dg, _⟩ := id hns
    refine ⟨?_, ?_, fun z => ?_⟩
    · obtain ⟨o, us, file, tf, flags, tg, inF, text, tt, e1, q⟩ := C p hp
      refine ⟨o, us, file, tf, flags, tg, inF, text, tt, hidT_get e1 (plain e1 (fun u n z => ?_) fun z => ?_), q⟩
      · rw [q.2.1] at z
        cases z
      · rw [q.2.1] at z
        cases z
        exact absurd q.2.2.1 (by simp)
    · obtain ⟨bm, o, b1, b2, b3, b4, b5, b6⟩ := hbm
      refine ⟨bm, o, b1, b2, fun z => ?_, fun z => ?_, hidT_get b3 (plain b3 (fun u n z => ?_) fun z => ?_), b4, b5, b6⟩
      · rw [z, eg] at b3
        cases b3
        rw [dg] at b6
        cases b6
      · rw [z, tp] at b3
        cases b3
        cases b6
      · rw [b6] at z
        cases z
      · rw [b6] at z
        cases z
    · rw [z, tp] at eg
      cases eg
      cases dg
  refine codeAny_mono (R _ kin (ns1 hns) TB [] s1 H _ [.ref a] [.ref a] (fun v _ => v = .bl true) (fun _ _ _ => False) e0 (hbind s1 (.ref a)) (.cons rfl .nil) rfl (hsp H (fun p hp => hTab (tab1 p hp)) sq)) fun r s' h => ?_
  match r, h with
  | .error e, h => exact h.elim
  | .ok (.ret u), ⟨v, H', os, bare, un, hok', r', q⟩ =>
    subst q
    obtain rfl : u = Value.bool true := r'
    have grown : ∀ {b}, b ∈ Ts → ∃ more : Array Value, s'.heap.get? b = some { cls := .none, data := .fields more } := fun {b} h => by
      obtain ⟨more, z⟩ := un.tbls b #[] (hTab h)
      exact ⟨_, hok' b _ z⟩
    have kept : ∀ {b o}, b ∉ Ts → s1.heap.get? b = some o → s'.heap.get? b = some o := fun {b o} h1 e => by
      cases z : H b with
      | none => exact un.keep b o e z (fun z => nomatch z) (fun z => nomatch z)
      | some o2 =>
        rcases hCase b o2 z with ⟨h2, _⟩ | ⟨_, rfl, _, rfl⟩
        · exact absurd h2 h1
        · rw [ha] at e
          cases e
          exact (hok' b _ (un.frzs b ob _ z)).1
    refine ⟨rfl, ⟨fun b o e => ?_, fun b o e => ?_⟩, os, bare⟩
    · by_cases h1 : b ∈ Ts
      · obtain ⟨more, hm⟩ := grown h1
        obtain ⟨p, hp, rfl⟩ := tabs h1
        have z := e.symm.trans (hT p hp)
        cases z
        exact .inr (.inl ⟨((C p hp).tab (hT p hp)).isCodeTable, rfl, #[], more, rfl, by rw [Array.empty_append]; exact hm⟩)
      · exact .inl (kept h1 e)
    · by_cases h1 : b ∈ Ts
      · obtain ⟨more, hm⟩ := grown h1
        exact ⟨_, hm⟩
      · exact ⟨o, kept h1 e⟩
end
theorem walk_atT {l : PySem.W.OpenLaw} {n : Nat} {q : Program} {loose : List Str} {XP : (Str → Option Value) → Heap → Prop} {YP : World → Heap → Prop} {d : DefRec} {x : Str} (hn : l.most = some n) (hn2 : n ≤ sizeLine) (hdf : d.params.defaults = [])
    (F : ∀ (w : World) (mg : Str → Option Value) (fa : Addr) (h : Heap), YP w h → h.Ns mainGlobals mg → mg d.name = some (.ref fa) → ∃ (K : PySem.W.Frag) (fd : FuncData) (sp : Sp) (cs : List (Addr × Addr)), K.In h ∧ (∀ p ∈ cs, h.get? p.2 = some { cls := .none, data := .fields #[] }) ∧
      (∀ p ∈ cs, K.lookup p.2 = none) ∧ (∀ p ∈ cs, PySem.W.CodeHd h p.1 p.2) ∧ (∀ (s : Shared) (u : Value), BindsTo s fd ⟨[u], []⟩ [(x, u)]) ∧
      (∀ (H : Hp) (a : Addr) (ns : List Int), ns.length ≤ n → (∀ z ∈ ns, Builtin.Int.intBits z ≤ 1048576) → (∀ p ∈ cs, H p.2 = some (.tbl #[])) → SqL K H a (ns.map V.int) → sp [.ref a] H (fun v _ => v = .bl true) fun _ _ _ => False) ∧
      ∀ base : Heap, K.In base → base.Ns mainGlobals mg → (∀ p ∈ cs, LamX.TabB base mg p.1 p.2) → RunsAt l.prog w K mg base fa fd [x] sp callerA) :
    PySem.W.WalkO q loose XP YP l.row.toRowW d [] (fun f vs => PySem.call f vs) := by
  refine Att.attach_callB hn hdf fun w s0 s1 mg mb fa o pm cd doc a vs ns G Y ho hd hcd hmg hobj hints hlen hbits hg => ?_
  obtain ⟨K, fd, sp, cs, KX, hT, nT, C, hb, hsp, R⟩ := F w mg fa _ Y G.T.g hmg
  exact law_atT KX G.T.g G.T.b G.T.builtins G.T.nolimit hg hT nT C G.T.bmain hobj hints (Nat.le_trans hlen hn2) R hb fun H hH sq => hsp H a ns hlen hbits hH sq
end L2.Tb
set_option Elab.async false
set_option linter.all false
set_option maxRecDepth 100000
set_option maxHeartbeats 4000000
/-! what a head is asked for: own facts in one Bool, defs at any address, written dicts, empty code tables -/
namespace L2.Tb
open PySem PySem.Spec PyProof.Rows
/-- a plain own class, as isinstance and != ask of it -/
structure InsC (K : PySem.W.Frag) (C : Addr) : Prop where
  ha : PySem.W.findIn K (.ref C) "__class__" = some (some (.builtin "object.__class__"))
  hn : PySem.W.specialIn K (.builtin "object.__class__") "__get__" = some (some (.builtin "getset_descriptor.__get__"))
  ht : PySem.W.takesIn K (.builtin "object.__class__") = some true
  hm : PySem.W.mroIn K C (.type "object") = some true
def insB (K : PySem.W.Frag) (C : Addr) : Bool := He.eqO (PySem.W.findIn K (.ref C) "__class__") (some (some (.builtin "object.__class__"))) && (He.eqO (PySem.W.specialIn K (.builtin "object.__class__") "__get__") (some (some (.builtin "getset_descriptor.__get__"))) &&
  (decide (PySem.W.takesIn K (.builtin "object.__class__") = some true) && decide (PySem.W.mroIn K C (.type "object") = some true)))
theorem insB_ok {K : PySem.W.Frag} {C : Addr} (h : insB K C = true) : InsC K C := by
  obtain ⟨a, h⟩ := He.ba h
  obtain ⟨b, h⟩ := He.ba h
  obtain ⟨c, d⟩ := He.ba h
  exact ⟨He.eqO_ok a, He.eqO_ok b, of_decide_eq_true c, of_decide_eq_true d⟩
/-- a property of the class -/
abbrev pAd (K : PySem.W.Frag) (C : Addr) (f : Str) : Addr := He5.wf K C "property" f
def propB (K : PySem.W.Frag) (C : Addr) (f : Str) : Bool := He.eqO (PySem.W.findIn K (.ref C) f) (some (some (.ref (He.ma K C f)))) && (He.eqO (PySem.W.specialIn K (.ref (He.ma K C f)) "__get__") (some (some (.builtin "property.__get__"))) &&
  (decide (PySem.W.takesIn K (.ref (He.ma K C f)) = some true) && (match PySem.W.recIn K (He.ma K C f) "property" with
    | some (.ref _ :: _) => true
    | _ => false)))
theorem propB_ok {K : PySem.W.Frag} {C : Addr} {f : Str} (h : propB K C f = true) : PropOf K C f (He.ma K C f) (pAd K C f) := by
  obtain ⟨a, h⟩ := He.ba h
  obtain ⟨b, h⟩ := He.ba h
  obtain ⟨c, d⟩ := He.ba h
  refine ⟨He.eqO_ok a, He.eqO_ok b, of_decide_eq_true c, ?_⟩
  unfold pAd He5.wf
  split at d
  · rename_i g r e
    exact ⟨r, by rw [e]⟩
  · cases d
/-- a class that is read by its name; its classmethods -/
abbrev cAd (K : PySem.W.Frag) (C : Addr) (m : Str) : Addr := He5.wf K C "classmethod" m
def creadB (K : PySem.W.Frag) (C : Addr) : Bool := PySem.W.readsIn K C (.type "type") && He.eqO (PySem.W.specialIn K (.ref C) "__getattribute__") (some (some (.builtin "type.__getattribute__")))
theorem creadB_ok {K : PySem.W.Frag} {C : Addr} (h : creadB K C = true) : ClX.CRead K C (.type "type") := ⟨(He.ba h).1, He.eqO_ok (He.ba h).2⟩
def cmetB (K : PySem.W.Frag) (C : Addr) (m : Str) : Bool := He5.wrapB K C "classmethod" "classmethod.__get__" m && PySem.W.fnIn K (cAd K C m)
theorem cmetB_ok {K : PySem.W.Frag} {C : Addr} {m : Str} (h : cmetB K C m = true) : ClX.CMet K C (.type "type") m (He.ma K C m) (cAd K C m) := He5.cmet_of (He.ba h).1 (He.ba h).2
/-! ### what the module's names reach -/
def refsAll (g : Addr → Option Obj) (as : List Addr) : List Addr := as.flatMap fun a => match g a with
  | some o => He.refsD o
  | none => []
def seenAt (g : Addr → Option Obj) : Nat → List Addr → List Addr
  | 0, as => as
  | n + 1, as => as ++ seenAt g n (refsAll g as)
def kH (n : Nat) (g : Addr → Option Obj) : PySem.W.Frag := He.frT g (seenAt g n [mainGlobals] ++ [cStatics])
/-! ### the Hook -/
section
variable (n : Nat) (fb : PySem.W.Frag → Bool) (fn : List He5.DefA) (ts : List He.Tab) (tf : List He.Defn)
abbrev AlH : Type := (Bool × List He.FnW) × List (Option (List (Option (Str × Int))))
def obsH (g : Addr → Option Obj) : AlH := ((fb (kH n g) && (He.tabsB g tf (kH n g) && fn.all fun d => d.ok (kH n g)), fn.map fun d => He5.fnA (kH n g) (d.at_ (kH n g))), ts.map fun t => He.dicW (kH n g) (t.1 (kH n g)))
def valH (w : World) : AlH := ((true, fn.map He5.DefA.val), ts.map fun t => some (He.keysIn w.params t.2))
structure SaysH (w : World) (h : Heap) (K : PySem.W.Frag) : Prop where
  kin : K.In h
  fb : fb K = true
  df : ∀ d ∈ fn, ∃ fd, FunD K d.name d.qual d.params d.body d.scope (d.dvs K) (d.kws K) (d.at_ K) fd
  tb : ∀ t ∈ ts, ∃ es m, KDict K w (t.1 K) es m
  hd : ∀ p ∈ tf, PySem.W.codeHdIn K (He.cT K p).1 (He.cT K p).2 = true
  out : ∀ p ∈ tf, K.lookup (He.cT K p).2 = none
  emp : ∀ p ∈ tf, h.get? (He.cT K p).2 = some { cls := .none, data := .fields #[] }
end
section
variable {n : Nat} {fb : PySem.W.Frag → Bool} {fn : List He5.DefA} {ts : List He.Tab} {tf : List He.Defn}
theorem map_mem {α β : Type} {f g : α → β} {l : List α} (h : l.map f = l.map g) {a : α} (ha : a ∈ l) : f a = g a := List.map_inj_left.mp h a ha
theorem saysH_of {w : World} {h : Heap} (e : obsH n fb fn ts tf h.get? = valH fn ts w) : SaysH fb fn ts tf w h (kH n h.get?) := by
  have e1 : (fb (kH n h.get?) && (He.tabsB h.get? tf (kH n h.get?) && fn.all fun d => d.ok (kH n h.get?))) = true := congrArg (fun z : AlH => z.1.1) e
  have e2 : (fn.map fun d => He5.fnA (kH n h.get?) (d.at_ (kH n h.get?))) = fn.map He5.DefA.val := congrArg (fun z : AlH => z.1.2) e
  have e3 : (ts.map fun t => He.dicW (kH n h.get?) (t.1 (kH n h.get?))) = ts.map fun t => some (He.keysIn w.params t.2) := congrArg (fun z : AlH => z.2) e
  obtain ⟨a, b⟩ := He.ba e1
  obtain ⟨b, c⟩ := He.ba b
  have tab : ∀ p ∈ tf, PySem.W.codeHdIn (kH n h.get?) (He.cT (kH n h.get?) p).1 (He.cT (kH n h.get?) p).2 = true ∧ ∃ o, h.get? (He.cT (kH n h.get?) p).2 = some o ∧ He.emptyTab o = true := fun p hp => by
    obtain ⟨x, y⟩ := He.ba (List.all_eq_true.mp b p hp)
    refine ⟨x, ?_⟩
    split at y
    · rename_i o q
      exact ⟨o, q, y⟩
    · cases y
  refine ⟨He.frT_in, a, fun d hd => He5.DefA.funD (map_mem e2 hd) (List.all_eq_true.mp c d hd), fun t ht => He.dicW_ok (map_mem e3 ht), fun p hp => (tab p hp).1, fun p hp => ?_, fun p hp => ?_⟩
  · obtain ⟨_, o, q, z⟩ := tab p hp
    exact He.frT_none q z
  · obtain ⟨_, o, q, z⟩ := tab p hp
    rw [q, He.emptyTab_eq z]
def hookH (n : Nat) (fb : PySem.W.Frag → Bool) (fn : List He5.DefA) (ts : List He.Tab) (tf : List He.Defn) : PySem.W.Hook where
  α := AlH
  obs := fun s => obsH n fb fn ts tf s.heap.get?
  val := fun w => valH fn ts w
  says := fun w h => ∃ K : PySem.W.Frag, SaysH fb fn ts tf w h K
  of := fun _ _ e => ⟨_, saysH_of e⟩
  keeps := fun _ _ _ ⟨K, c⟩ k => ⟨K, PySem.W.Frag.In.keeps c.kin k, c.fb, c.df, c.tb, c.hd, c.out, fun p hp => k _ _ (c.emp p hp)⟩
theorem obH_eq (s : PySem.W.SharedT) : obsH n fb fn ts tf (HandSHeadRun.getT s) = (hookH n fb fn ts tf).obs s.abs := by
  have e : HandSHeadRun.getT s = s.abs.heap.get? := funext fun a => HandSHeadRun.getT_eq s a
  show obsH n fb fn ts tf (HandSHeadRun.getT s) = obsH n fb fn ts tf s.abs.heap.get?
  rw [e]
theorem SaysH.nth {w : World} {h : Heap} {K : PySem.W.Frag} (c : SaysH fb fn ts tf w h K) (i : Nat) {d : He5.DefA} (e : fn[i]? = some d := by rfl) : ∃ fd, FunD K d.name d.qual d.params d.body d.scope (d.dvs K) (d.kws K) (d.at_ K) fd := c.df d (List.mem_of_getElem? e)
theorem SaysH.cs {w : World} {h : Heap} {K : PySem.W.Frag} (c : SaysH fb fn ts tf w h K) : (∀ p ∈ tf.map (He.cT K), h.get? p.2 = some { cls := .none, data := .fields #[] }) ∧ (∀ p ∈ tf.map (He.cT K), K.lookup p.2 = none) ∧ ∀ p ∈ tf.map (He.cT K), PySem.W.CodeHd h p.1 p.2 := by
  refine ⟨fun p hp => ?_, fun p hp => ?_, fun p hp => ?_⟩ <;> obtain ⟨q, hq, rfl⟩ := List.mem_map.mp hp
  · exact c.emp q hq
  · exact c.out q hq
  · exact PySem.W.codeHd_of_K c.kin (c.hd q hq)
end
/-- all of a list of names -/
theorem all_get {α : Type} {p : α → Bool} {l : List α} (h : l.all p = true) (i : Nat) {a : α} (e : l[i]? = some a := by rfl) : p a = true := List.all_eq_true.mp h a (List.mem_of_getElem? e)
/-! ### a written dict's keys; a written tuple -/
def keyS (e : DictEntry) : Option Str := match e.key with
  | .str z _ => some z
  | _ => none
def keysB (K : PySem.W.Frag) (a : Addr) (ks : List Str) : Bool := match K.lookup a with
  | some ⟨_, _, .dict es _, _⟩ => decide (es.toList.map keyS = ks.map some)
  | _ => false
theorem keysB_ok {K : PySem.W.Frag} {a : Addr} {ks : List Str} (h : keysB K a ks = true) (z : Str) : ∃ r, PySem.W.nsIn K a z = some r ∧ r.isSome = ks.contains z := by
  unfold keysB at h
  split at h
  · rename_i oc od es n sl q
    have h := of_decide_eq_true h
    unfold PySem.W.nsIn
    rw [q]
    dsimp only
    have key : ∀ (l : List DictEntry) (ks : List Str), l.map keyS = ks.map some → l.any (·.refKey) = false ∧ (l.find? (·.key.isStr z)).isSome = ks.contains z := by
      intro l
      induction l with
      | nil =>
        intro ks h
        cases ks with
        | nil => exact ⟨rfl, rfl⟩
        | cons => cases h
      | cons e l ih =>
        intro ks h
        cases ks with
        | nil => cases h
        | cons k ks =>
          rw [List.map_cons, List.map_cons] at h
          injection h with h1 h2
          obtain ⟨i1, i2⟩ := ih ks h2
          unfold keyS at h1
          split at h1
          · rename_i y t e1
            have h1 : y = k := Option.some.inj h1
            have r : e.refKey = false := by
              unfold DictEntry.refKey
              rw [e1]
            refine ⟨by rw [List.any_cons, r, i1]; rfl, ?_⟩
            rw [List.find?_cons, List.contains_cons]
            have w : e.key.isStr z = (z == k) := by
              rw [e1, ← h1]
              show (y == z) = (z == y)
              exact Bool.eq_iff_iff.mpr ⟨fun c => beq_iff_eq.mpr (beq_iff_eq.mp c).symm, fun c => beq_iff_eq.mpr (beq_iff_eq.mp c).symm⟩
            rw [w]
            cases (z == k) with
            | true => rfl
            | false => exact i2
          · cases h1
    obtain ⟨h1, h2⟩ := key _ _ h
    cases f : es.toList.find? (·.key.isStr z) with
    | some e =>
      rw [f] at h2
      exact ⟨_, rfl, h2⟩
    | none =>
      rw [f] at h2
      refine ⟨none, ?_, h2⟩
      dsimp only
      rw [h1]
      rfl
  · cases h
def tupB (K : PySem.W.Frag) (a : Addr) (vs : List V) : Bool := match K.lookup a with
  | some o => decide (o.cls = .type "tuple") && (match o.data with
    | .seq its _ => decide (its.size ≤ 1000) && He.relAll vs its.toList
    | _ => false)
  | none => false
theorem tupB_ok {K : PySem.W.Frag} {a : Addr} {vs : List V} (h : tupB K a vs = true) (H : Hp) : SqT K H a vs := by
  unfold tupB at h
  split at h
  · rename_i o q
    obtain ⟨h1, h2⟩ := He.ba h
    split at h2
    · rename_i its n e
      obtain ⟨h3, h4⟩ := He.ba h2
      exact .inr ⟨o, its, n, q, of_decide_eq_true h1, e, Nat.le_trans (of_decide_eq_true h3) (by rw [sizeLine_eq]; decide), He.relAll_ok h4⟩
    · cases h2
  · cases h
/-- what a written tuple names -/
def refsIn (K : PySem.W.Frag) (a : Addr) : List Addr := match K.lookup a with
  | some o => (match o.data with
    | .seq its _ => its.toList.flatMap He.refV
    | _ => [])
  | none => []
/-- the value of a written dict at a key, an object -/
def refOf (K : PySem.W.Frag) (a : Addr) (z : Str) : Addr := match PySem.W.nsIn K a z with
  | some (some (.ref l)) => l
  | _ => 0
def refB (K : PySem.W.Frag) (a : Addr) (z : Str) : Bool := He.eqO (PySem.W.nsIn K a z) (some (some (.ref (refOf K a z))))
/-! ### an error class with one attribute -/
def ercB (K : PySem.W.Frag) (b : Bs) (x f : Str) : Bool := (He.Fa.glo x).ok K && (ecB K b (He.ga K x) && ((He.Fa.meth x "__init__").ok K && (He.Fa.noat x f).ok K))
theorem binds_kw {K : PySem.W.Frag} {x q fl : Str} {params : Arguments} {body : List Stmt} {scope : Scope} {f : Addr} {fd : FuncData} (F : FunD K x q params body scope [] [] f fd)
    (hk : ∀ (kV doc pm : Value) (an : Option Addr) (cdv ct u v : Value), bindArgs (PySem.W.fnOf x q params body scope .none kV doc pm an cdv ct) ⟨[u], [(fl, v)]⟩ = pure [(("self" : Str), u), (fl, v)]) (sh : Shared) (a : Addr) (zs : List Value)
    (hl : zs.length = [fl].length) : BindsTo sh fd ⟨[Value.ref a], [fl].zip zs⟩ (("self" :: [fl] : List Str).zip (Value.ref a :: zs)) := by
  obtain ⟨oc, od, dV, kV, doc, pm, an, cdv, ct, osl, rfl, lk, hcd, hD, hK⟩ := F.ex
  match zs, hl with
  | [v], _ =>
    rcases hD with ⟨_, rfl⟩ | ⟨e, _⟩
    · exact .of_eq (hk kV doc pm an cdv ct _ v)
    · exact absurd rfl e
section
variable {P : Program} {w : World} {K : PySem.W.Frag} {mg : Str → Option Value} {base h : Heap}
theorem erc_of {st : Stmt} {x q fl : Str} {b : Bs} {p1 p2 p3 p4 : Pos} (X : K.In h) (G : h.Ns mainGlobals mg) (e : ercB K b x fl = true) (ok : b.Ok)
    (hF : ∃ fd, FunD K "__init__" q (defArgs st) (defBody st) (defScope st) [] [] (He.ma K (He.ga K x) "__init__") fd) (hbody : defBody st = [.Assign [.Attribute (.Name "self" p1) fl p2] (.Name fl p3) p4])
    (S : FnScope ["self", fl] ["self", fl] (defScope st)) (h0 : (defScope st).names.lookup ("self" : Str) = some .local) (h1 : (defScope st).names.lookup fl = some .local) (hd : (fl == ("__debug__" : Str)) = false) (hcd : (fl == ("__classdict__" : Str)) = false)
    (hp : ∀ (kV doc pm : Value) (an : Option Addr) (cdv ct : Value) (us : List Value), us.length = (["self", fl] : List Str).length → bindArgs (PySem.W.fnOf "__init__" q (defArgs st) (defBody st) (defScope st) .none kV doc pm an cdv ct) ⟨us, []⟩ = pure ((["self", fl] : List Str).zip us))
    (hk : ∀ (kV doc pm : Value) (an : Option Addr) (cdv ct u v : Value), bindArgs (PySem.W.fnOf "__init__" q (defArgs st) (defBody st) (defScope st) .none kV doc pm an cdv ct) ⟨[u], [(fl, v)]⟩ = pure [(("self" : Str), u), (fl, v)]) :
    ErC P w K mg base x fl b (He.ga K x) := by
  obtain ⟨e1, e2⟩ := He.ba e
  obtain ⟨e2, e3⟩ := He.ba e2
  obtain ⟨e3, e4⟩ := He.ba e3
  have m := He.meth_ok e3
  obtain ⟨fd, F⟩ := hF
  refine ⟨He.glo_ok X G e1, ecB_ok ok e2, He.noat_ok e4, _, fd, m.1, beq_iff_eq.mp m.2, ?_, F.bindsN hp, binds_kw F hk⟩
  rw [hbody] at F
  exact init_ok F S h0 h1 hd hcd
end
end L2.Tb
set_option Elab.async false
set_option linter.all false
set_option maxRecDepth 100000
set_option maxHeartbeats 4000000
/-! sorted(..) of tuples of ints of either sign: a list of them, a set of them -/
namespace L2.Tb
open PySem PySem.Spec PyProof.Rows
def Wi (B : Int) (ns : List Int) : Prop := ∀ m ∈ ns, -B ≤ m ∧ m < B
/-- a rank in the tuples' order -/
def rk (B : Int) (ns : List Int) : Int := TS.code (B + B) (ns.map fun m => m + B)
theorem Wi.bd {B : Int} {ns : List Int} (h : Wi B ns) : TS.Bd (B + B) (ns.map fun m => m + B) := fun m hm => by
  obtain ⟨k, hk, rfl⟩ := List.mem_map.mp hm
  have := h k hk
  constructor <;> omega
theorem Wi.rest {B d : Int} {ns : List Int} (h : Wi B (d :: ns)) : Wi B ns := fun m hm => h m (List.mem_cons_of_mem _ hm)
theorem rk_lt {B d e : Int} {u v : List Int} (hl : u.length = v.length) (hu : Wi B u) (hv : Wi B v) (h : d < e) : rk B (d :: u) < rk B (e :: v) :=
  TS.code_lt (d := d + B) (e := e + B) (by rw [List.length_map, List.length_map]; exact hl) hu.bd hv.bd (by omega)
theorem rk_same {B d : Int} {u v : List Int} (hl : u.length = v.length) : rk B (d :: u) < rk B (d :: v) ↔ rk B u < rk B v :=
  TS.code_same (d := d + B) (by rw [List.length_map, List.length_map]; exact hl)
theorem rk_ne {B d e : Int} {u v : List Int} (hl : u.length = v.length) (hu : Wi B u) (hv : Wi B v) (n : d ≠ e) : rk B (d :: u) < rk B (e :: v) ↔ d < e := by
  refine ⟨fun h => ?_, rk_lt hl hu hv⟩
  rcases Int.lt_or_gt_of_ne n with c | c
  · exact c
  · exact absurd (rk_lt hl.symm hv hu c) (Int.not_lt.mpr (Int.le_of_lt h))
/-- the rank tells the tuple -/
theorem rk_inj {B : Int} : ∀ {u v : List Int}, u.length = v.length → Wi B u → Wi B v → rk B u = rk B v → u = v
  | [], [], _, _, _, _ => rfl
  | d :: u, e :: v, hl, hu, hv, h => by
    have hl' : u.length = v.length := by simpa using hl
    by_cases c : d = e
    · subst c
      have t : rk B u = rk B v := by
        rcases Int.lt_trichotomy (rk B u) (rk B v) with z | z | z
        · have := (rk_same (d := d) hl').mpr z
          omega
        · exact z
        · have := (rk_same (d := d) hl'.symm).mpr z
          omega
      rw [rk_inj hl' hu.rest hv.rest t]
    · rcases Int.lt_or_gt_of_ne c with z | z
      · have := rk_lt hl' hu.rest hv.rest z
        omega
      · have := rk_lt hl'.symm hv.rest hu.rest z
        omega
  | [], _ :: _, hl, _, _, _ => by simp at hl
  | _ :: _, [], hl, _, _, _ => by simp at hl
section
variable {P : Program} {w : World} {A : Around} {E : Value → Shared → Prop} {s : Shared}
theorem lexW {Q : Bool → Shared → Prop} {B : Int} {b : Bool} : ∀ {us vs : List Value} {ns ms : List Int} (i : Nat), IntsAre us ns → IntsAre vs ms → ns.length = ms.length → Wi B ns → Wi B ms → Q (decide (rk B ns < rk B ms)) s →
    PySem.W.KatLex P w A b false Q (us.zip vs) i s
  | _, _, _, _, i, .nil, .nil, _, _, _, h => PySem.W.kat_nil (by rw [decide_eq_false (Int.lt_irrefl _)] at h; exact h)
  | _, _, _, _, i, .cons p t a, .cons q u c, hl, w1, w2, h => by
    have l2 := Nat.succ.inj hl
    refine PySem.W.kat_cons (wpAny_eqBool_int ?_)
    by_cases e : p = q
    · rw [e, beq_self_eq_true]
      rw [e, decide_eq_decide.mpr (rk_same l2)] at h
      exact PySem.W.kat_yes (lexW (i + 1) a c l2 w1.rest w2.rest h)
    · rw [beq_eq_false_iff_ne.mpr e]
      rw [decide_eq_decide.mpr (rk_ne l2 w1.rest w2.rest e)] at h
      exact PySem.W.kat_no (TS.oneLt_ints _ h)
  | _, _, _, _, _, .nil, .cons .., hl, _, _, _ => by simp at hl
  | _, _, _, _, _, .cons .., .nil, hl, _, _, _ => by simp at hl
/-- tuples of d ints each -/
def TpsOk (h : Heap) (d : Nat) (B : Int) (vs : List Value) : Prop := ∀ v ∈ vs, ∃ ns, TS.TupInts h v ns ∧ ns.length = d ∧ Wi B ns
theorem TpsOk.keeps {h h' : Heap} {d : Nat} {B : Int} {vs : List Value} (x : TpsOk h d B vs) (k : ∀ b o, h.get? b = some o → o.cls = .type "tuple" → h'.get? b = some o) : TpsOk h' d B vs := fun v hv => by
  obtain ⟨ns, t, q⟩ := x v hv
  exact ⟨ns, t.keeps k, q⟩
theorem heads_of {h : Heap} {d : Nat} {B : Int} (d1 : 1 ≤ d) : ∀ vs : List Value, TpsOk h d B vs → ∃ fs, PySem.W.KatTups h vs fs ∧ fs.length = vs.length ∧ ∀ f ∈ fs, ∃ n t, f = Value.int n t
  | [], _ => ⟨[], .nil, rfl, fun f hf => by cases hf⟩
  | v :: vs, x => by
    obtain ⟨fs, kt, len, all⟩ := heads_of d1 vs fun u hu => x u (List.mem_cons_of_mem _ hu)
    obtain ⟨ns, ⟨a, items, rfl, ⟨ob, g1, g2, m, g3⟩, ia⟩, ln, _⟩ := x v (List.mem_cons_self ..)
    cases e : items.toList with
    | nil =>
      rw [e] at ia
      have z := ia.length
      rw [ln] at z
      exact absurd (z ▸ d1 : 1 ≤ ([] : List Value).length) (by decide)
    | cons y ys =>
      obtain ⟨n, t, ey⟩ := ia.all y (by rw [e]; exact List.mem_cons_self ..)
      have g4 : items[0]? = some y := by rw [← Array.getElem?_toList, e]; rfl
      refine ⟨y :: fs, .cons g1 g2 g3 g4 kt, congrArg Nat.succ len, fun f hf => ?_⟩
      rcases List.mem_cons.mp hf with rfl | hf
      · exact ⟨n, t, ey⟩
      · exact all f hf
theorem kindW {d : Nat} {B : Int} {vs : List Value} (d1 : 1 ≤ d) (two : 2 ≤ vs.length) (x : TpsOk s.heap d B vs) (r : Value → Int) (hr : ∀ v ∈ vs, ∀ ns, TS.TupInts s.heap v ns → r v = rk B ns) (Q : SortKind → Shared → Prop)
    (h : ∀ κ, TS.Cmp P w A s κ (pairsOf vs) r → Q κ s) : wpAny (model P w) A (keyKind' vs.toArray) Q E s := by
  obtain ⟨fs, kt, len, all⟩ := heads_of d1 vs x
  refine PySem.W.kat_kind (T := Value.type "int") kt (by omega) (fun f hf => ?_) rfl (h _ fun p q mp mq Q2 E2 goal => ?_)
  · obtain ⟨n, t, rfl⟩ := all f hf
    exact PySem.W.Looks.of_pure rfl
  · rw [pairsOf_toList] at mp mq
    have m1 := (mem_zip_self mp).2
    have m2 := (mem_zip_self mq).2
    obtain ⟨ns, t1, l1, w1⟩ := x _ m1
    obtain ⟨ms, t2, l2, w2⟩ := x _ m2
    have g : Q2 (decide (rk B ns < rk B ms)) s := by
      rw [← hr _ m1 _ t1, ← hr _ m2 _ t2]
      exact goal
    obtain ⟨a1, i1, e1, ⟨o1, p1, c1, n1, y1⟩, z1⟩ := t1
    obtain ⟨a2, i2, e2, ⟨o2, p2, c2, n2, y2⟩, z2⟩ := t2
    rw [e1, e2]
    refine PySem.W.kat_lt p1 y1 p2 y2 ?_
    have k1 := z1.length
    have k2 := z2.length
    rw [Array.length_toList] at k1 k2
    rw [show decide (i1.size < i2.size) = false from decide_eq_false (by omega)]
    exact lexW 0 z1 z2 (by omega) w1 w2 g
theorem sortW {a : Addr} {vs : List Value} {n d : Nat} {B : Int} {R : PySem.Fin → Shared → Prop} (at_ : s.heap.get? a = some (seqObj "list" vs.toArray n)) (few : vs.length < 64) (d1 : 1 ≤ d) (x : TpsOk s.heap d B vs)
    (r : Value → Int) (hr : ∀ v ∈ vs, ∀ ns, TS.TupInts s.heap v ns → r v = rk B ns)
    (h : ∀ out : Array Value, out.toList.Perm vs → out.toList.Pairwise (fun u v => r u ≤ r v) → R (.done (.ret .none)) { s with heap := sortedHeap s.heap a vs out }) : wpAny (model P w) A (Builtin.«list.sort» ⟨[.ref a], []⟩) R E s := by
  have stay : ∀ b o, s.heap.get? b = some o → o.cls = .type "tuple" → (TS.midHeap s.heap a vs).get? b = some o := fun b o e hc => by
    refine TS.midHeap_old (fun z => ?_) e
    rw [z, at_] at e
    cases e
    have y : Value.type "list" = Value.type "tuple" := hc
    injection y with y
    exact absurd y (by decide)
  refine SK.plain_sort (r := r) at_ few (fun two Q hQ => ?_) fun ps out q1 q2 q3 => ?_
  · refine kindW (s := { s with heap := TS.midHeap s.heap a vs }) d1 two (x.keeps stay) r (fun v hv ns t => ?_) Q hQ
    obtain ⟨ms, t0, _⟩ := x v hv
    rw [t.ints.symm.trans (t0.keeps stay).ints]
    exact hr v hv ms t0
  · obtain ⟨z1, z2⟩ := TS.out_rank q1 q2 q3
    exact h out z1 z2
/-- sorted(xs) of a list -/
theorem sortedW {l : Addr} {vs : List Value} {d : Nat} {B : Int} {Q : Value → Shared → Prop} (hl : s.heap.IsList l vs.toArray) (few : vs.length < 64) (d1 : 1 ≤ d) (x : TpsOk s.heap d B vs)
    (h : ∀ out : Array Value, out.toList.Perm vs → out.toList.Pairwise (fun u v => rk B (TS.intsOf s.heap u) ≤ rk B (TS.intsOf s.heap v)) → Q (.ref (s.heap.objs.size + 1)) { s with heap := sortedAll s.heap vs out }) :
    wpAny (model P w) A (call (.builtin "sorted") [.ref l]) Q E s := by
  have big : vs.length ≤ sizeLine := by rw [sizeLine_eq]; omega
  refine Calls.call_function_entry kind_sorted PyProof.Rows.plain_sorted entry_sorted (args_sorted1 _) ?_
  unfold Builtin.«sorted»
  refine wpAny_bind (m := checkCount "sorted" 1 1 _) (wpAny_pure (wpAny_bind (collect_list hl ?_ big)))
  refine wpAny_bind (wpAny_newList ?_ big)
  let h1 : Heap := (s.heap.push (seqObj "list" #[] 0)).update s.heap.objs.size (Obj.mapSeq (· ++ vs.toArray))
  have z1 : h1.objs.size = s.heap.objs.size + 1 := by
    show ((s.heap.push (seqObj "list" #[] 0)).update s.heap.objs.size (Obj.mapSeq (· ++ vs.toArray))).objs.size = _
    rw [Heap.size_update, size_push']
  have at_ : (h1.push (seqObj "list" vs.toArray 0)).get? (s.heap.objs.size + 1) = some (seqObj "list" vs.toArray 0) := by
    rw [← z1]
    exact Heap.get?_push_size _ rfl
  have stay : ∀ b o, s.heap.get? b = some o → o.cls = .type "tuple" → (h1.push (seqObj "list" vs.toArray 0)).get? b = some o := fun b o e _ => by
    have lt := Heap.lt_size e
    rw [Heap.get?_push_ne _ _ _ (by rw [z1]; exact Nat.ne_of_lt (Nat.lt_succ_of_lt lt))]
    exact (Heap.get?_update_ne _ _ _ _ (Nat.ne_of_lt lt)).trans ((Heap.get?_push_ne _ _ _ (Nat.ne_of_lt lt)).trans e)
  show wpAny _ _ _ _ _ { s with heap := h1.push (seqObj "list" vs.toArray 0) }
  have z2 : ({ s with heap := h1 } : Shared).heap.objs.size = s.heap.objs.size + 1 := z1
  refine wpAny_bind (wpAny_holding ?_)
  show wpAny (model P w) A.in1 (call (.builtin "list.sort") [.ref h1.objs.size]) _ _ { s with heap := h1.push (seqObj "list" vs.toArray 0) }
  rw [z1]
  refine wpAny_call_entry slot_list_sort ⟨_, at_, rfl⟩ entry_list_sort (sortW at_ few d1 (x.keeps stay) (fun v => rk B (TS.intsOf s.heap v)) (fun v hv ns t => ?_) fun out a1 a2 => ⟨_, rfl, ?_⟩) (args_list_sort _)
  · obtain ⟨ms, t0, _⟩ := x v hv
    show rk B (TS.intsOf s.heap v) = rk B ns
    rw [t0.ints, ← (t0.keeps stay).ints, t.ints]
  · show wpAny _ _ (pure _) _ _ _
    exact wpAny_pure ⟨_, rfl, h out a1 a2⟩
end
/-! ### as rules -/
theorem perm_back {α β : Type} {f : α → β} {l m : List β} (h : l.Perm m) : ∀ ks : List α, m = ks.map f → ∃ L : List α, L.Perm ks ∧ l = L.map f := by
  induction h with
  | nil => exact fun ks e => ⟨ks, .refl _, e⟩
  | cons x _ ih =>
    intro ks e
    cases ks with
    | nil => cases e
    | cons k ks =>
      rw [List.map_cons] at e
      injection e with e1 e2
      obtain ⟨L, p, q⟩ := ih ks e2
      exact ⟨k :: L, p.cons k, by rw [List.map_cons, ← q, e1]⟩
  | swap x y l =>
    intro ks e
    match ks, e with
    | k1 :: k2 :: ks, e =>
      rw [List.map_cons, List.map_cons] at e
      injection e with e1 e2
      injection e2 with e2 e3
      exact ⟨k2 :: k1 :: ks, .swap .., by rw [List.map_cons, List.map_cons, ← e1, ← e2, ← e3]⟩
  | trans _ _ i1 i2 =>
    intro ks e
    obtain ⟨L, p, q⟩ := i2 ks e
    obtain ⟨M, p2, q2⟩ := i1 L q
    exact ⟨M, p2.trans p, q2⟩
/-- addresses of tuples of d ints -/
def Tps (K : PySem.W.Frag) (H : Hp) (d : Nat) (B : Int) (ks : List (Addr × List Int)) : Prop := ∀ p ∈ ks, SqT K H p.1 (p.2.map V.int) ∧ p.2.length = d ∧ Wi B p.2
def rSortW (K : PySem.W.Frag) (d : Nat) (B : Int) : List V → Hp → VK → Prop := fun vs H Q => ∃ (a : Addr) (ks : List (Addr × List Int)), vs = [.ref a] ∧ SqL K H a (ks.map fun p => V.ref p.1) ∧ ks.length < 64 ∧ Tps K H d B ks ∧
  ∀ (L : List (Addr × List Int)) (p : Addr), L.Perm ks → L.Pairwise (fun q r => rk B q.2 ≤ rk B r.2) → H p = none → Q (.ref p) (upd H p (.lst (L.map fun q => V.ref q.1)))
theorem ranks {B : Int} {h : Heap} {L ks : List (Addr × List Int)} {out : List Value} (e : out = L.map fun q => Value.ref q.1) (pm : L.Perm ks) (tk : ∀ q ∈ ks, TS.TupInts h (.ref q.1) q.2)
    (pw : out.Pairwise (fun u v => rk B (TS.intsOf h u) ≤ rk B (TS.intsOf h v))) : L.Pairwise (fun q r => rk B q.2 ≤ rk B r.2) := by
  subst e
  refine List.Pairwise.imp_of_mem (fun {q r} hq hr z => ?_) (List.pairwise_map.mp pw)
  rw [(tk q (pm.mem_iff.mp hq)).ints, (tk r (pm.mem_iff.mp hr)).ints] at z
  exact z
theorem cr_sortW {X : Cx} {d : Nat} {B : Int} (d1 : 1 ≤ d) : CallR X (.builtin "sorted") (rSortW X.K d B) := by
  intro pins s σ H vs us Q I r h
  obtain ⟨a, ks, rfl, hs, few, tp, q⟩ := h
  obtain ⟨its, rv, pl, _⟩ := I.list hs
  rw [Vals.ref1 r]
  have ei : its = ks.map fun p => Value.ref p.1 := refs_of_vals rv
  have tk : ∀ p ∈ ks, TS.TupInts s.heap (.ref p.1) p.2 := fun p hp => tupI_raw I (tp p hp).1
  refine sortedW (d := d) (B := B) pl.isList (by rw [ei, List.length_map]; exact few) d1 (fun v hv => ?_) fun out a1 a2 => ?_
  · rw [ei] at hv
    obtain ⟨p, hp, rfl⟩ := List.mem_map.mp hv
    exact ⟨p.2, tk p hp, (tp p hp).2⟩
  · obtain ⟨L, pm, e⟩ := perm_back a1 ks ei
    obtain ⟨ep, at_⟩ := PyProof.Rows.sortedAll_at s.heap its out
    refine ⟨.ref _, upd H (s.heap.objs.size + 1) (.lst (L.map fun q => V.ref q.1)), I.laid (t' := s.toks) (fun _ _ => PyProof.Rows.sortedAll_old) (Nat.le_succ _) ⟨?_, out.toList, ep, ?_, at_⟩, rfl, q L _ pm (ranks e pm tk a2) (I.hok.fresh (Nat.le_succ _))⟩
    · rw [List.length_map, pm.length_eq, sizeLine_eq]
      omega
    · rw [e]
      exact vals_of_refs L
/-- sorted of a set -/
def rSortWS (K : PySem.W.Frag) (P : Program) (w : World) (d : Nat) (B : Int) : List V → Hp → VK → Prop := fun vs H Q => ∃ (a : Addr) (ks : List (Addr × List Int)), vs = [.ref a] ∧ H a = some (SetTO P w a ks) ∧ Tps K H d B ks ∧
  ∀ (L : List (Addr × List Int)) (p : Addr), L.Perm ks → (L.map (·.2)).Nodup → L.length < 64 → L.Pairwise (fun q r => rk B q.2 ≤ rk B r.2) → H p = none → Q (.ref p) (upd H p (.lst (L.map fun q => V.ref q.1)))
theorem sortedWS {P : Program} {w : World} {A : Around} {E : Value → Shared → Prop} {s : Shared} {a : Addr} {ks : List (Addr × List Int)} {es : Array (Int × Value)} {ep : Nat} {t : SetTable} {Q : Value → Shared → Prop} {d : Nat} {B : Int} (R : SetTR P w s.heap a ks es ep t) (hh : A.handled = none)
    (d1 : 1 ≤ d) (hB : ∀ p ∈ ks, p.2.length = d ∧ Wi B p.2)
    (q : ∀ s2 p (out : Array Value) (c : Nat) (L : List (Addr × List Int)), (∀ b o, s.heap.get? b = some o → s2.heap.get? b = some o) → s2.gens = s.gens → s2.os = s.os → s.heap.objs.size ≤ p →
      s2.heap.get? p = some (seqObj "list" out c) → out.toList = L.map (fun z => Value.ref z.1) → L.Perm ks → L.Pairwise (fun y z => rk B y.2 ≤ rk B z.2) → Q (.ref p) s2) : wpAny (model P w) A (call (.builtin "sorted") [.ref a]) Q E s := by
  obtain ⟨o, g1, g2, g3⟩ := R.ob
  have few := R.few
  have sz := R.size
  refine Calls.call_function_entry kind_sorted PyProof.Rows.plain_sorted entry_sorted (args_sorted1 _) ?_
  unfold Builtin.«sorted»
  refine wpAny_bind (m := checkCount "sorted" 1 1 _) (wpAny_pure (wpAny_bind (collect_set (A := A.in1) hh ⟨o, g1, g2.1, g3⟩ R.fits (by unfold scanBound; omega) R.tab.ris R.led fun s1 vs k1 up gg oo pm => ?_)))
  have vals : es.toList.map (·.2) = ks.map fun z => Value.ref z.1 := by
    rw [R.rows]
    unfold rowsOf
    rw [List.map_map]
    rfl
  rw [vals] at pm
  obtain ⟨M, pM, eM⟩ := perm_back pm ks rfl
  have lM : vs.length < 64 := by rw [eM, List.length_map, pM.length_eq]; exact few
  refine wpAny_bind (wpAny_newList ?_ (by rw [sizeLine_eq]; omega))
  have at_ : (s1.heap.push (seqObj "list" vs.toArray 0)).get? s1.heap.objs.size = some (seqObj "list" vs.toArray 0) := Heap.get?_push_size _ rfl
  have tk : ∀ z ∈ ks, TS.TupInts (s1.heap.push (seqObj "list" vs.toArray 0)) (.ref z.1) z.2 := fun z hz => tupInts_of (P := P) (w := w) (isT_keep (R.tup z hz) fun b u e => Heap.get?_push_of_some _ (k1 b u e))
  have okM : TpsOk (s1.heap.push (seqObj "list" vs.toArray 0)) d B vs := fun v hv => by
    rw [eM] at hv
    obtain ⟨z, hz, rfl⟩ := List.mem_map.mp hv
    have hk := pM.mem_iff.mp hz
    exact ⟨z.2, tk z hk, hB z hk⟩
  refine wpAny_bind (wpAny_holding (wpAny_call_entry slot_list_sort ⟨_, at_, rfl⟩ entry_list_sort (sortW (s := { s1 with heap := s1.heap.push (seqObj "list" vs.toArray 0) }) at_ lM d1 okM (fun v => rk B (TS.intsOf (s1.heap.push (seqObj "list" vs.toArray 0)) v)) (fun v hv ns t => by
    show rk B (TS.intsOf (s1.heap.push (seqObj "list" vs.toArray 0)) v) = rk B ns
    rw [t.ints]) fun out a1 a2 => ⟨_, rfl, ?_⟩) (args_list_sort _)))
  obtain ⟨c, hc⟩ := sortedHeap_at (vs := vs) (out := out) at_
  obtain ⟨L, pL, eL⟩ := perm_back a1 M eM
  refine wpAny_pure ⟨_, rfl, q _ s1.heap.objs.size out c L (fun b u e => ?_) gg oo up hc eL (pL.trans pM) (ranks eL (pL.trans pM) tk a2)⟩
  have e1 := k1 b u e
  have lt := Heap.lt_size e1
  show (sortedHeap (s1.heap.push (seqObj "list" vs.toArray 0)) s1.heap.objs.size vs out).get? b = some u
  rw [sortedHeap_old (Nat.ne_of_lt lt) (by rw [size_push']; exact Nat.lt_succ_of_lt lt)]
  exact Heap.get?_push_of_some _ e1
theorem cr_sortWS {X : Cx} {d : Nat} {B : Int} (hc : X.calm = true) (d1 : 1 ≤ d) : CallR X (.builtin "sorted") (rSortWS X.K X.prog X.w d B) := by
  intro pins s σ H vs us Q I r h
  obtain ⟨a, ks, rfl, ha, tp, q⟩ := h
  have R0 : SetT0 X.prog X.w s.heap a ks := (I.hok a _ ha).1
  obtain ⟨es, ep, t, R⟩ := R0.full fun p hp => I.isT (tp p hp).1
  rw [Vals.ref1 r]
  refine sortedWS R (I.ok.hd hc) d1 (fun p hp => (tp p hp).2) fun s2 p out c L k gg oo up at_ eo pm pw => ?_
  have few : L.length < 64 := pm.length_eq ▸ R.few
  have nw : H p = none := I.hok.fresh up
  have len : (L.map fun z => V.ref z.1).length ≤ sizeLine := by
    rw [List.length_map, sizeLine_eq]
    omega
  have vl : Vals (L.map fun z => V.ref z.1) out.toList := eo ▸ vals_of_refs L
  have es2 : s2 = { s with heap := s2.heap, gens := s2.gens, drawn := s2.drawn, toks := s2.toks } := by
    obtain ⟨_, _, _, _, _⟩ := s2
    obtain ⟨_, _, _, _, _⟩ := s
    cases oo
    rfl
  have J : Inv X pins σ (upd H p (.lst (L.map fun z => V.ref z.1))) { s with heap := s2.heap, gens := s2.gens, drawn := s2.drawn, toks := s2.toks } :=
    I.call (ch := []) (Un.laid k up nw) (I.hok.laid k up ⟨len, out.toList, c, vl, at_⟩) (by rw [gg]; exact I.bare) (fun _ z => nomatch z)
  rw [es2]
  exact ⟨.ref p, _, J, rfl, q L p pm ((pm.map (·.2)).nodup_iff.mpr R.nd) few pw nw⟩
end L2.Tb
set_option Elab.async false
set_option linter.all false
set_option maxRecDepth 100000
set_option maxHeartbeats 4000000
/-! {e for x in ..}, e a tuple of ints -/
namespace L2.Tb
open PySem PySem.Spec PySem.Calls PyProof.Rows PpSet
section
variable {P : Program} {w : World} {A : Around} {E : Value → Shared → Prop} {s : Shared} {a x : Addr} {k : List Int} {L : List (Addr × List Int)}
/-- what L becomes by k at x -/
def Added (L L2 : List (Addr × List Int)) (x : Addr) (k : List Int) : Prop := (k ∈ L.map (·.2) → L2 = L) ∧ (k ∉ L.map (·.2) → L2.Perm ((x, k) :: L))
theorem setT_add {es : Array (Int × Value)} {ep : Nat} {t : SetTable} {Q : Value → Shared → Prop} (R : SetTR P w s.heap a L es ep t) (kx : IsT P w s.heap k x) (hu : A.units + 3 < cLine) (few : L.length + 1 < 64)
    (q : ∀ h2 tk L2 es2 ep2 t2, Heap.SameBut a s.heap h2 → SetTR P w h2 a L2 es2 ep2 t2 → Added L L2 x k → Q .none { s with heap := h2, toks := tk }) : wpAny (model P w) A (call (.builtin "set.add") [.ref a, .ref x]) Q E s := by
  obtain ⟨o, g1, g2, g3⟩ := R.ob
  refine wpAny_call_entry F.slot_set_add ⟨o, g1, g2.1⟩ F.entry_set_add ?_ (F.args_set_add_2 _ _)
  unfold Builtin.«set.add» Builtin.Frozenset.oneOther
  simp only [List.isEmpty_nil, bind_assoc]
  unfold Builtin.Frozenset.addrOf setAdd
  refine wpAny_bind (wpAny_pure ?_)
  try dsimp only
  refine wpAny_bind (wpAny_pure ?_)
  try dsimp only
  refine wpAny_bind (wpAny_holding (wpAny_bind (wpAny_pyHash_tuple (by first | exact Nat.lt_of_le_of_lt (Nat.le_add_right _ 3) hu | (show A.units + 1 < cLine; omega) | (show A.units + 2 < cLine; omega)) kx ?_)))
  refine add_at (s := { s with toks := s.toks + (k.length + 1) }) R kx (by first | exact Nat.lt_of_le_of_lt (Nat.le_add_right _ 3) hu | (show A.units + 1 < cLine; omega) | (show A.units + 2 < cLine; omega)) few fun b h2 L2 es2 ep2 t2 sb R2 c1 c2 => ?_
  show wpAny _ _ (ret Value.none) _ _ _
  exact wpAny_pure ⟨_, rfl, q h2 _ L2 es2 ep2 t2 sb R2 ⟨c1, c2⟩⟩
end
section
variable {X : Cx}
theorem addT_ok {pins : List (Addr × Obj)} {σ : L2.St} {H : Hp} {s : Shared} {E : Value → Shared → Prop} {D x : Addr} {k : List Int} {L : List (Addr × List Int)} {Q : Value → Shared → Prop} (I : Inv X pins σ H s) (hD : H D = some (SetTO X.prog X.w D L))
    (tp : ∀ p ∈ L, SqT X.K H p.1 (p.2.map V.int)) (hx : SqT X.K H x (k.map V.int)) (hu : X.A.units + 64 < cLine) (few : L.length + 1 < 64)
    (q : ∀ s2 L2, Added L L2 x k → Inv X pins σ (upd H D (SetTO X.prog X.w D L2)) s2 → Q .none s2) : wpAny (model X.prog X.w) X.A (call (.builtin "set.add") [.ref D, .ref x]) Q E s := by
  have R0 : SetT0 X.prog X.w s.heap D L := (I.hok D _ hD).1
  obtain ⟨es, ep, t, R⟩ := R0.full fun p hp => I.isT (tp p hp)
  refine setT_add R (I.isT hx) (by omega) few fun h2 tk L2 es2 ep2 t2 sb R2 ad => ?_
  have there : ∃ u, h2.get? D = some u := by
    obtain ⟨u, e, _⟩ := R2.ob
    exact ⟨u, e⟩
  exact q _ L2 ad (I.write (e := D) (t' := tk) (by rw [hD]; trivial) (.inl rfl) (fun b u hb hu => (sb.2 b hb).trans hu) there (setTO_new R2.t0))
/-- one turn's wish: the new element joins -/
def joins (P : Program) (w : World) (K : PySem.W.Frag) (D : Addr) (Nx : Hp → Prop) : V → Hp → Prop := fun y H => ∃ (x : Addr) (k : List Int) (L : List (Addr × List Int)), y = .ref x ∧ SqT K H x (k.map V.int) ∧ H D = some (SetTO P w D L) ∧ (∀ p ∈ L, SqT K H p.1 (p.2.map V.int)) ∧ L.length + 1 < 64 ∧
  ∀ L2, Added L L2 x k → Nx (upd H D (SetTO P w D L2))
def tScT (P : Program) (w : World) (K : PySem.W.Frag) (wi : TI) (g : TG) (tt : TT) (te : TE) (vs : List Nat) : TE := fun σ H Q => wi σ H fun J H1 => ∀ D, H1 D = none → ∃ W : Nat → Nat → Hp → Prop, (∃ m, W 0 m (upd H1 D (SetTO P w D []))) ∧ ∀ i m G, W i m G →
  (J.stop i G ∧ Q (.ref D) G) ∨ (J.go i G ∧ ∃ Nx : Hp → Prop, (∀ G2, Nx G2 → ∃ m2, m2 < m ∧ W (i + 1) m2 G2) ∧ ∀ x G2, J.yld i G x G2 → g x (wipe σ vs) G2 fun σ2 G3 => wipe σ2 vs = wipe σ vs ∧ tt σ2 G3 fun b G4 => if b = true then te σ2 G4 (joins P w K D Nx) else Nx G4)
theorem pe_scT {elt tg iter : Expr} {ifs : List Expr} {scope : Scope} {own : List (PySem.Str × Nat)} {pos : Pos} {wi : TI} {g : TG} {tt : TT} {te : TE} (calm : X.calm = true) (nd : X.N.Nodup) (hu : X.A.units + 64 < cLine) (walk : PI X tg iter wi) (ok : BlkOk X.N X.env.scope scope own)
    (hg : ∀ (s : Shared) (H : Hp) (C : Addr) (cl : List (PySem.Str × Addr)) (fp : List Addr), PG (X.blk s H scope (compEnvC scope cl C X.env) fp) tg g) (ht : ∀ (s : Shared) (H : Hp) (C : Addr) (cl : List (PySem.Str × Addr)) (fp : List Addr), PTs (X.blk s H scope (compEnvC scope cl C X.env) fp) ifs tt)
    (he : ∀ (s : Shared) (H : Hp) (C : Addr) (cl : List (PySem.Str × Addr)) (fp : List Addr), PE (X.blk s H scope (compEnvC scope cl C X.env) fp) elt te) (fs : ∀ x, foldedSetIterable iter X.env x = pure x := by intro _; rfl) :
    PE X (.SetComp elt [⟨tg, iter, ifs, 0⟩] scope pos) (tScT X.prog X.w X.K wi g tt te (own.map (·.2))) := by
  refine ⟨fun pins s σ H Q I h => ?_⟩
  rw [eval_SetComp]
  have caps : ∀ y ∈ scope.names, y.2 = .free → ∃ c, X.env.cells.lookup y.1 = some c := fun y my ey =>
    (ok.free y my ey).elim (fun z => I.ok.has _ (.inl z)) fun z => I.ok.has _ (.inr z)
  refine wpAny_comprehension_free (use := none) rfl fs (closure_ok caps) ok.kind (fun y my ey => by rw [ok.uniq y my, ey]) (thn (walk.run pins s σ H _ I h) fun xv sa ha => thn ha fun itv sb hb => ?_)
  obtain ⟨it, fp, tn, J, Hb, e0, Ib, T, stb, fpb, q⟩ := hb
  subst e0
  refine newSet_ok (newEnv_comp ?_)
  generalize dD : sb.heap.objs.size = D
  have newD : Hb D = none := Ib.hok.fresh (Nat.le_of_eq dD)
  obtain ⟨W, ⟨m0, w0⟩, turn⟩ := q D newD
  let emp : Obj := { cls := .type "set", dict := none, data := .set #[] 0 (.fresh 0 0 (!X.w.params.followText "set-order")) }
  generalize dsc : ({ sb with heap := sb.heap.push emp } : Shared) = sc
  have hsc : sc.heap = sb.heap.push emp := by rw [← dsc]
  have Ic : Inv X pins σ (upd Hb D (SetTO X.prog X.w D [])) sc := by
    rw [← dsc, ← dD]
    refine Ib.laid (t' := sb.toks) (fun b o e => Heap.get?_push_of_some _ e) (Nat.le_refl _) (setTO_new (SetTR.t0 (setTR_fresh (Heap.get?_push_size _ rfl))))
  have small : ∀ b ∈ fp, b < sb.heap.objs.size := fun b mb => by
    obtain ⟨o, e, _⟩ := T.obj _ _ stb b mb
    exact Heap.lt_size e
  have fpc : ∀ b ∈ fp, FpOk X pins (upd Hb D (SetTO X.prog X.w D [])) b ∧ b < sc.heap.objs.size := fun b mb => by
    have lt := small b mb
    have nb : b ≠ D := by rw [← dD]; exact Nat.ne_of_lt lt
    exact ⟨⟨(upd_ne nb).trans (fpb b mb).1, (fpb b mb).2⟩, by rw [hsc, Heap.size_push]; exact Nat.lt_succ_of_lt lt⟩
  have stc : tn 0 sc.heap := T.keep _ _ _ stb fun b _ o e => by rw [hsc]; exact Heap.get?_push_of_some _ e
  have Id := block_start Ic ok nd fpc
  let cl := cellsFrom (sc.heap.objs.size + 1) scope.names (cloFrom X.env.cells scope.names [])
  have pg := hg sc (upd Hb D (SetTO X.prog X.w D [])) sc.heap.objs.size cl fp
  have pt := ht sc (upd Hb D (SetTO X.prog X.w D [])) sc.heap.objs.size cl fp
  have pe := he sc (upd Hb D (SetTO X.prog X.w D [])) sc.heap.objs.size cl fp
  show codeAny _ _ (.compStart (.SetComp elt [⟨tg, iter, ifs, 0⟩] scope pos) 0 (.ref it) (.ref D) (compEnvC scope cl sc.heap.objs.size X.env)) (compPost (model X.prog X.w) X.A X.xe none _ (.ref D) sc.heap.objs.size) { sc with heap := pushCells (sc.heap.push { cls := .type "dict", data := .dict #[] }) scope.names }
  have fpn : ∀ b ∈ fp, (upd Hb D (SetTO X.prog X.w D [])) b = none := fun b mb => (fpc b mb).1.1
  generalize dce : compEnvC scope cl sc.heap.objs.size X.env = ce at Id pg pt pe ⊢
  have loc : ce.locals = sc.heap.objs.size := by rw [← dce]; rfl
  generalize dHc : upd Hb D (SetTO X.prog X.w D []) = Hc at Ic Id pg pt pe w0 fpn fpc
  generalize dsd : ({ sc with heap := pushCells (sc.heap.push { cls := .type "dict", data := .dict #[] }) scope.names } : Shared) = sd at Id ⊢
  have std : tn 0 sd.heap := T.keep _ _ _ stc fun b _ o e => by rw [← dsd]; exact pushCells_keeps _ _ _ _ (Heap.get?_push_of_some _ e)
  have stays : ∀ {σ2 : L2.St} {G : Hp} {z : Shared}, Inv (X.blk sc Hc scope ce fp) [] σ2 G z → (∀ b ∈ fp, G b = none) → ∀ b ∈ fp, FpOk (X.blk sc Hc scope ce fp) [] G b := fun {σ2 G z} Iz nz b mb =>
    ⟨nz b mb, (Iz.ok.exf b mb).1, Iz.ok.exfs b mb, .inl mb, fun x c e => (Iz.ok.exf b mb).2 x c e, fun p mp => by cases mp⟩
  refine codeAny_compStart_set ?loop (T.self X.A 0 _ _ _ std ?loop)
  case loop =>
    refine compLoopS_any (fun n z => ∃ i G, Inv (X.blk sc Hc scope ce fp) [] (wipe σ (own.map (·.2))) G z ∧ tn i z.heap ∧ (∀ b ∈ fp, G b = none) ∧ W i n G) ?_ m0 ⟨0, Hc, Id, std, fpn, w0⟩
    rintro n se ⟨i, He, Ie, ste, fpe, we⟩
    rcases turn i n He we with ⟨halt, fin⟩ | ⟨goes, Nx, nxt, body⟩
    · refine thnF (T.done (X.blk sc Hc scope ce fp) rfl rfl rfl calm i [] se _ He (fun _ _ => False) Ie (stays Ie fpe) ste halt) fun r sf ⟨er, If⟩ => ?_
      subst er
      have Ig : Inv X pins σ He sf := Ic.call' (ch := fp) If.os If.base If.hok If.bare fun b mb => ⟨(fpc b mb).1.2.2.2.1, (fpc b mb).1.2.1, (fpc b mb).1.2.2.2.2.1, (fpc b mb).1.2.2.2.2.2⟩
      have nC : He sc.heap.objs.size = none := loc ▸ (show He ce.locals = none from If.free)
      obtain ⟨mm, hn, _⟩ := If.loc
      have hn : sf.heap.Ns sc.heap.objs.size mm := loc ▸ (show sf.heap.Ns ce.locals mm from hn)
      obtain ⟨y0, y1, y2, y3, y4, y5⟩ := Ic.fpOk (Nat.le_refl _) nC
      exact ⟨mm, hn, fun h3 sm => ⟨.ref D, He, Ig.turned (t' := sf.toks) (fun b o nb e => (sm.2 b nb).trans e) y0 y1 y3 y4 y5, rfl, fin⟩⟩
    · refine thnF (T.item (X.blk sc Hc scope ce fp) rfl rfl rfl calm i [] se _ He (fun _ _ => False) Ie (stays Ie fpe) ste goes) fun r sf ⟨u, er, hf⟩ => ?_
      subst er
      refine thnF hf fun _ sg ⟨x, Hg, Ig, rg, yg, stg, ng⟩ => ?_
      have Ip := Ig.pinned (stays Ig ng) (T.obj _ _ stg)
      refine thnF (pg.run _ sg _ Hg x u _ Ip rg (body x Hg yg)) fun _ sh ⟨σh, Hh, Ih, wh, qh⟩ => ?_
      refine thnF (pt.run _ sh σh Hh _ Ih qh) fun b si ⟨Hi, Ii, qi⟩ => ?_
      have close : ∀ {z : Shared} {G : Hp}, Inv (X.blk sc Hc scope ce fp) ([] ++ pinsAt fp sg.heap) σh G z → Nx G → ∃ m, m < n ∧ ∃ i G, Inv (X.blk sc Hc scope ce fp) [] (wipe σ (own.map (·.2))) G z ∧ tn i z.heap ∧ (∀ b ∈ fp, G b = none) ∧ W i m G := fun {z G} Iz nx => by
        obtain ⟨m2, lm, w2⟩ := nxt G nx
        have pin : ∀ b ∈ fp, ∀ o, sg.heap.get? b = some o → z.heap.get? b = some o ∧ G b = none := fun b mb o e => by
          have y := Iz.pin (b, o) (List.mem_append_right _ (List.mem_append_right _ (mem_pinsAt mb e)))
          exact ⟨y.1, y.2.1⟩
        refine ⟨m2, lm, i + 1, G, (Iz.unpinned (pins := [])).weak (by rw [← wh, wipe_length]) (fun j v e => ?_), T.keep _ _ _ stg fun b mb o e => (pin b mb o e).1, fun b mb => ?_, w2⟩
        · rw [← wh] at e
          exact (wipe_some e).1
        · obtain ⟨o, e, _⟩ := T.obj _ _ stg b mb
          exact (pin b mb o e).2
      cases b with
      | false =>
        simp only [Bool.false_eq_true, if_false] at qi ⊢
        exact close Ii qi
      | true =>
        simp only [if_true] at qi ⊢
        refine thnF (pe.run _ si σh Hi _ Ii qi) fun z sj ⟨yv, Hj, Ij, rj, xa, kk, L, ey, hx, hD, tp, few, nx⟩ => ?_
        subst ey
        cases (show z = Value.ref xa from rj)
        exact addT_ok (X := X.blk sc Hc scope ce fp) Ij hD tp hx hu few fun sk L2 ad Ik => close Ik (nx L2 ad)
end
/-- over a tuple that stands -/
theorem scT_tup {P : Program} {w : World} {K : PySem.W.Frag} {a : Addr} {xs : List V} {g : TG} {tt : TT} {te : TE} {vs : List Nat} {σ : L2.St} {H1 : Hp} {D : Addr} {Qd : Hp → Prop} (Pv : Nat → Hp → Prop) (h0 : Pv 0 (upd H1 D (SetTO P w D []))) (hl : ∀ i H, i ≤ xs.length → Pv i H → SqT K H a xs)
    (hs : ∀ i x H, xs[i]? = some x → Pv i H → g x (wipe σ vs) H fun σ2 H2 => wipe σ2 vs = wipe σ vs ∧ tt σ2 H2 fun b H3 => if b = true then te σ2 H3 (joins P w K D (Pv (i + 1))) else Pv (i + 1) H3) (hd : ∀ H, Pv xs.length H → Qd H) :
    ∃ W : Nat → Nat → Hp → Prop, (∃ m, W 0 m (upd H1 D (SetTO P w D []))) ∧ ∀ i m G, W i m G →
      ((Itt K a).stop i G ∧ Qd G) ∨ ((Itt K a).go i G ∧ ∃ Nx : Hp → Prop, (∀ G2, Nx G2 → ∃ m2, m2 < m ∧ W (i + 1) m2 G2) ∧ ∀ x G2, (Itt K a).yld i G x G2 → g x (wipe σ vs) G2 fun σ2 G3 => wipe σ2 vs = wipe σ vs ∧ tt σ2 G3 fun b G4 => if b = true then te σ2 G4 (joins P w K D Nx) else Nx G4) := by
  refine ⟨fun i m G => m + i = xs.length ∧ Pv i G, ⟨xs.length, rfl, h0⟩, fun i m G ⟨em, p⟩ => ?_⟩
  have st := hl i G (by omega) p
  rcases Nat.lt_or_ge i xs.length with lt | ge
  · refine .inr ⟨⟨xs, xs[i], st, List.getElem?_eq_getElem lt⟩, Pv (i + 1), fun G2 p2 => ⟨m - 1, by omega, by omega, p2⟩, fun x G2 y => ?_⟩
    obtain ⟨e, y⟩ := y
    subst e
    exact hs i x _ (y xs st) p
  · have e : i = xs.length := by omega
    exact .inl ⟨⟨xs, st, by omega⟩, hd G (e ▸ p)⟩
end L2.Tb
set_option Elab.async false
set_option linter.all false
set_option maxRecDepth 100000
set_option maxHeartbeats 4000000
/-! calls of defs that ask for an unguarded stack; o.m(k = v) -/
namespace L2.Tb
open PySem PySem.Spec PyProof.Rows
/-- a def that keeps its promise where nothing is guarded (repr of lists and tuples asks that) -/
structure CalG (P : Program) (w : World) (K : PySem.W.Frag) (mg : Str → Option Value) (base : Heap) (k : Nat) (x : Str) (sp : Sp) : Prop where
  ex : ∃ (f : Addr) (fd : FuncData) (ps : List Str), (∀ vs H Q E, sp vs H Q E → vs.length = ps.length) ∧ (∀ A, Room k A → A.guards = some [] → RunsAt P w K mg base f fd ps sp A) ∧ mg x = some (.ref f) ∧ PySem.W.keepIn K (.ref f) = true ∧ Binds K fd ps []
section
variable {P : Program} {w : World} {K : PySem.W.Frag} {mg : Str → Option Value} {base : Heap} {x : Str} {st : Stmt} {f : Addr} {fd : FuncData} {N ps : List Str} {k : Nat} {sp : Sp}
theorem Cal.g (c : Cal P w K mg base k x sp) : CalG P w K mg base k x sp := by
  obtain ⟨f, fd, ps, F, a, b, d⟩ := c.ex
  exact ⟨f, fd, ps, F.len, fun A hr _ outer s H args us vs Q E e0 hb r _ h => F.run A outer s H args us vs Q E hr e0 hb r h, a, b, d⟩
theorem calG_mk (F : FnP K x st f fd) (hm : mg x = some (.ref f)) (S : FnScope N ps (defScope st))
    (hb : ∀ (kV doc pm : Value) (an : Option Addr) (cdv ct : Value) (us : List Value), us.length = ps.length → bindArgs (PySem.W.fnOf x x (defArgs st) (defBody st) (defScope st) .none kV doc pm an cdv ct) ⟨us, []⟩ = pure (ps.zip us))
    (len : ∀ vs H Q E, sp vs H Q E → vs.length = ps.length)
    (hbody : ∀ (cdv : Value) (A : Around) (outer : List Env) (s : Shared) (H : Hp) (vs : List V) (Q : VK) (E : XK), (A.deeper (envOfC x (defScope st) s.heap.objs.size f cdv)).guards = some [] → Room k (A.deeper (envOfC x (defScope st) s.heap.objs.size f cdv)) → sp vs H Q E →
      ∃ t, PSs (cxOf L2.CX0 P w K mg base N x (defScope st) f cdv A outer s H E).nox (defBody st) t ∧ t { nx := fun _ H' => Q .non H', rt := Q } (start N vs) H) : CalG P w K mg base (k + 1) x sp :=
  ⟨f, fd, ps, len, fun A hr hg => runs_body F S hr fun cdv outer s H vs Q E hr2 h => let ⟨t, a, b⟩ := hbody cdv A outer s H vs Q E hg hr2 h; ⟨t, a.nox, b⟩, hm, F.kp, F.bindsN hb⟩
/-- .. its code object known -/
theorem calG_mkC {at_ : Str × Option Str} (F : FnP K x st (He.fAd K at_) fd) (hm : mg x = some (.ref (He.fAd K at_))) (S : FnScope N ps (defScope st))
    (hb : ∀ (kV doc pm : Value) (an : Option Addr) (cdv ct : Value) (us : List Value), us.length = ps.length → bindArgs (PySem.W.fnOf x x (defArgs st) (defBody st) (defScope st) .none kV doc pm an cdv ct) ⟨us, []⟩ = pure (ps.zip us))
    (len : ∀ vs H Q E, sp vs H Q E → vs.length = ps.length)
    (hbody : ∀ (cdv : Value) (A : Around) (outer : List Env) (s : Shared) (H : Hp) (vs : List V) (Q : VK) (E : XK), cdv = .ref (He.codeOf K at_) → (A.deeper (envOfC x (defScope st) s.heap.objs.size (He.fAd K at_) cdv)).guards = some [] → Room k (A.deeper (envOfC x (defScope st) s.heap.objs.size (He.fAd K at_) cdv)) → sp vs H Q E →
      ∃ t, PSs (cxOf L2.CX0 P w K mg base N x (defScope st) (He.fAd K at_) cdv A outer s H E).nox (defBody st) t ∧ t { nx := fun _ H' => Q .non H', rt := Q } (start N vs) H) : CalG P w K mg base (k + 1) x sp := by
  refine ⟨_, fd, ps, len, fun A hr hg => ?_, hm, F.kp, F.bindsN hb⟩
  obtain ⟨oc, od, dV, kV, doc, pm, an, cdv, ct, osl, rfl, lk, hcd, _, _⟩ := id F.ex
  obtain ⟨c, rfl⟩ := He.codeIn_ref hcd
  have hc : (Value.ref c) = .ref (He.codeOf K at_) := by rw [He.codeOf_eq lk rfl]
  intro outer s H args us vs Q E e0 hbd r hl hsp
  refine LamX.run_ofS (CX := L2.CX0) (Q := Q) (E := E) (N := N) lk hcd S hr e0 hbd r hl fun hr2 => ?_
  obtain ⟨t, a, b⟩ := hbody _ A outer s H vs Q E hc hg hr2 hsp
  exact ⟨t, a.nox, b⟩
end
section
variable {X : Cx} {k j : Nat} {x : Str} {sp : Sp} {p pos : Pos} {e : Expr} {es : List Expr} {t : TA}
theorem pe_calG (c : CalG X.prog X.w X.K X.mg X.base k x sp) (hr : Room j X.A) (hk : k ≤ j) (free : X.A.guards = some []) (hg : Gl X x) (ha : PA X (e :: es) t)
    (hdb : (x == ("__debug__" : Str)) = false := by decide) (he : starEach (e :: es) X.env = (false, eval e X.env) :: starEach es X.env := by rfl) (hpl : (backTo pos (starEach es X.env)).any (·.1) = false := by rfl) :
    PE X (.Call (.Name x p) (e :: es) [] pos) (tCall sp [] E0 t) := by
  obtain ⟨f, fd, ps, len, R, hm, kp, b⟩ := c.ex
  refine ⟨fun pins s σ H Q I h => wpAny_Call_Name_kw (ld_glob I hg hm (PySem.W.callWith_K (h₀ := X.base) I.ok.mod.kin kp (thn (ha.run pos pins s σ H _ I h) fun us s1 hh => ?_) he hpl) hdb)⟩
  obtain ⟨vs, H1, I1, r, q⟩ := hh
  rw [List.append_nil] at q
  have hl := len _ _ _ _ q
  refine ⟨I1.kIn, wpAny_call (codeAny_mono (R X.A (hr.mono hk) free X.stack s1 H1 ⟨us, []⟩ us vs Q E0 I1.env0 ?_ r hl q) fun r2 s2 z => ?_)⟩
  · have y := b s1 us I1.kIn (by rw [List.append_nil, ← r.length]; exact hl)
    rw [List.append_nil] at y
    exact y
  · match r2, z with
    | .error e, z => exact pass0 pins σ H1 s1 e s2 I1 z
    | .ok (.ret u), z => exact I1.after z
end
section
variable {X : Cx} {CX : CXT} {k : Nat} {C f : Addr} {fd : FuncData} {ps ks : List Str} {sp : Sp} {E : XK} {o : Expr} {kws : List Keyword} {m : Str} {pos apos : Pos} {ta : TE} {tk : TA} {pl : Sem Bool}
def tMethK (C : Addr) (m : Str) (sp : Sp) (E : XK) (ta : TE) (tk : TA) : TE := fun σ H Q => ta σ H fun x H1 => ∃ a dx fs, x = .ref a ∧ H1 a = some (.ins C dx fs) ∧ fs.lookup m = none ∧ tk σ H1 fun zs H2 => sp (.ref a :: zs) H2 Q E
/-- o.m(k = v, ..), all of m's parameters by name -/
theorem pe_methK (he : PE X o ta) (c : Cls X.K C) (hm : Meth X.K C m f) (F : FnOk X.prog X.w X.K X.mg X.base CX k f fd ps sp) (hr : Room k X.A) (hx : Passes CX X E) (hkw : PK X kws tk) (hl : ps.length = ks.length + 1)
    (hb : ∀ (sh : Shared) (a : Addr) (zs : List Value), zs.length = ks.length → BindsTo sh fd ⟨[.ref a], ks.zip zs⟩ (ps.zip (Value.ref a :: zs)))
    (hall : (backToKw pos (keywordEach kws X.env)).all (·.1.isSome) = true := by rfl) (hks : (backToKw pos (keywordEach kws X.env)).filterMap (·.1) = ks := by rfl)
    (hpl : ((backTo pos (starEach [] X.env)).any (·.1) || (backToKw pos (keywordEach kws X.env)).any (·.1.isNone)) = false := by rfl)
    (ht : eval (.Call (.Attribute o m apos) [] kws pos) X.env = (do
      let ov ← eval o X.env
      standAt apos.atName
      let (f, first) ← holding [ov] (getMethod ov m pl)
      callWith pos f first (backTo pos (starEach [] X.env)) (backToKw pos (keywordEach kws X.env))) := by rfl) :
    PE X (.Call (.Attribute o m apos) [] kws pos) (tMethK C m sp E ta tk) := by
  refine ⟨fun pins s σ H Q I h => PySem.W.methodCall_KW (pl := pl) (thn (he.run pins s σ H _ I h) fun u s1 hh => ?_) ht⟩
  obtain ⟨x, H1, I1, rx, a, dx, fs, ex, ea, lk, q⟩ := hh
  subst ex
  obtain rfl : u = Value.ref a := rx
  refine getmeth_ok I1 ea c hm lk (PySem.W.callWith_KW0 (h₀ := X.base) (first := [.ref a]) I.ok.mod.kin hm.kp hall (thn (hkw.run pos _ s1 σ H1 _ I1 q) fun ws s2 hh => ?_) hpl)
  obtain ⟨zs, H2, I2, rz, q2⟩ := hh
  refine ⟨I2.kIn, ?_⟩
  rw [hks]
  have hw : ws.length = ks.length := by
    have z := F.len _ _ _ _ q2
    rw [List.length_cons, hl] at z
    rw [← rz.length]
    omega
  refine wpAny_call (codeAny_mono (F.run X.A X.stack s2 H2 ⟨[.ref a], ks.zip ws⟩ (.ref a :: ws) (.ref a :: zs) Q E hr I2.env0 (hb s2 a ws hw) (.cons rfl rz) q2) fun r s3 z => ?_)
  match r, z with
  | .error e, z => exact hx pins σ H2 s2 e s3 I2 z
  | .ok (.ret u2), z => exact I2.after z
end
end L2.Tb
set_option Elab.async false
set_option linter.all false
set_option maxRecDepth 100000
set_option maxHeartbeats 4000000
/-! x in t, x not in t: t a tuple of data of any depth -/
namespace L2.Tb
open PySem PySem.Spec PyProof.Rows
variable {X : Cx}
def rInDT (K : PySem.W.Frag) (neg : Bool) : R2 := fun x y H Q => ∃ d ds, Dp K H x d ∧ Dp K H y (.tuple ds) ∧ SeqAt.shaped d = true ∧ SeqAt.shaped (.tuple ds) = true ∧ Q (.bl (if neg = true then !(ds.any fun z => PyData.eqv z d) else ds.any fun z => PyData.eqv z d)) H
theorem room_inDT {A : Around} {ds : List PyData} {d : PyData} (sd : SeqAt.shaped d = true) (hu : A.units + 65 < cLine) : A.units + 1 + min (PyData.depthAll ds) d.depth < cLine := by
  have h := SeqAt.depth_of_shaped sd
  have h2 := Nat.min_le_right (PyData.depthAll ds) d.depth
  omega
theorem op_inDT (hu : X.A.units + 65 < cLine) : OpR X (compareOp .In) (rInDT X.K false) := by
  intro pins s σ H x y v u Q I rx ry h
  obtain ⟨d, ds, hd, he, sd, se, q⟩ := h
  obtain ⟨as, r1⟩ := Dp.reads I d x v hd rx
  obtain ⟨bs, r2⟩ := Dp.reads I (.tuple ds) y u he ry
  exact SeqAt.in_tuple_reads r2 r1 (by simpa only [PyData.canLay0] using SeqAt.canLay_of_shaped se) (SeqAt.canLay_of_shaped sd) (room_inDT sd hu) ⟨.bl _, H, I, rfl, q⟩
theorem op_notInDT (hu : X.A.units + 65 < cLine) : OpR X (compareOp .NotIn) (rInDT X.K true) := by
  intro pins s σ H x y v u Q I rx ry h
  obtain ⟨d, ds, hd, he, sd, se, q⟩ := h
  obtain ⟨as, r1⟩ := Dp.reads I d x v hd rx
  obtain ⟨bs, r2⟩ := Dp.reads I (.tuple ds) y u he ry
  exact SeqAt.notIn_tuple_reads r2 r1 (by simpa only [PyData.canLay0] using SeqAt.canLay_of_shaped se) (SeqAt.canLay_of_shaped sd) (room_inDT sd hu) ⟨.bl _, H, I, rfl, q⟩
end L2.Tb
set_option Elab.async false
set_option linter.all false
set_option maxRecDepth 100000
set_option maxHeartbeats 4000000
/-! for z in d: d a dict of the head with text keys -/
namespace L2.Tb
open PySem PySem.Spec PyProof.Rows RZ
def Ikd (ks : List Str) : It := ⟨fun i _ => i < ks.length, fun i H x H' => H' = H ∧ ∃ z, ks[i]? = some z ∧ x = .str z, fun i _ => ks.length ≤ i⟩
structure KeysAt (K : PySem.W.Frag) (w : World) (d : Addr) (ks : List Str) : Prop where
  ex : ∃ es n, KDict K w d es n ∧ es.toList.map keyS = ks.map some
theorem keys_at {K : PySem.W.Frag} {w : World} {d : Addr} {ks : List Str} {es : Array DictEntry} {n : Nat} (h : keysB K d ks = true) (D : KDict K w d es n) : KeysAt K w d ks := by
  refine ⟨es, n, D, ?_⟩
  unfold keysB at h
  rw [D.at_] at h
  exact of_decide_eq_true h
section
variable {P : Program} {w : World} {K : PySem.W.Frag} {tg : Expr} {d : Addr} {es : Array DictEntry} {n : Nat} {ks : List Str}
theorem turn_kd (it : Addr) (D : KDict K w d es n) (hk : es.toList.map keyS = ks.map some) : Turn P w K tg (Ikd ks) [it] it (fun i h => h.IsKeyIter it d i ks.length n) where
  mem := by simp
  obj := fun i h st b hb => by
    have e : b = it := by simpa using hb
    subst e
    obtain ⟨oi, e, c, dd⟩ := st
    exact ⟨oi, e, fun v z => by rw [dd] at z; cases z⟩
  keep := fun i h h' st k => st.at fun oi e => k it (by simp) oi e
  item := by
    intro X hP hw hK hc i pins s σ H E I hf st hi
    subst hP hw hK
    obtain ⟨f0, f1, f2, f3, f4, f5⟩ := hf it (by simp)
    have hgd := I.kIn _ _ D.at_
    have hsz : es.size = ks.length := by
      have := congrArg List.length hk
      simpa using this
    have hi2 : i < ks.length := hi
    obtain ⟨en, hen, z, t, ek, ez⟩ : ∃ en, es[i]? = some en ∧ ∃ z t, en.key = .str z t ∧ ks[i]? = some z := by
      have hi3 : i < es.size := by omega
      refine ⟨es[i], Array.getElem?_eq_getElem hi3, ?_⟩
      have h := congrArg (fun l : List (Option Str) => l[i]?) hk
      rw [List.getElem?_map, List.getElem?_map, Array.getElem?_toList, Array.getElem?_eq_getElem hi3, List.getElem?_eq_getElem hi2] at h
      simp only [Option.map_some, Option.some.injEq] at h
      unfold keyS at h
      split at h
      · rename_i z t e
        injection h with h
        exact ⟨z, t, e, by rw [List.getElem?_eq_getElem hi2, h]⟩
      · cases h
    refine next_key_item st hgd rfl hsz hen fun h' st' sb => ?_
    have I1 : Inv X pins σ H { s with heap := h' } := I.turned (t' := s.toks) (fun b ob hb e => (sb.2 b hb).trans e) f0 f1 f3 f4 f5
    obtain ⟨oi, e, c, dd⟩ := id st'
    exact ⟨en.key, rfl, go_of (s := { s with heap := h' }) e c dd (by decide) ⟨.str z, H, I1, ⟨t, ek⟩, ⟨rfl, z, ez, rfl⟩, st', fun b hb => (hf b hb).1⟩⟩
  done := by
    intro X hP hw hK hc i pins s σ H E I hf st hi
    subst hP hw hK
    obtain ⟨f0, f1, f2, f3, f4, f5⟩ := hf it (by simp)
    have hgd := I.kIn _ _ D.at_
    have hsz : es.size = ks.length := by
      have := congrArg List.length hk
      simpa using this
    exact next_key_end (I.ok.hd hc) st hgd rfl hsz hi fun h' eb => ⟨rfl, I.turned (t' := s.toks) (fun b ob hb e => eb b ob hb e) f0 f1 f3 f4 f5⟩
  self := fun A i s Q E st h => wpAny_pyIter_keyiter st h
end
def iKd (ks : List Str) (d : Addr) (td : TE) : TI := fun σ H R => td σ H fun x H1 => x = .ref d ∧ R (Ikd ks) H1
theorem pi_kd {X : Cx} {tg e : Expr} {td : TE} {d : Addr} {ks : List Str} (A : KeysAt X.K X.w d ks) (he : PE X e td) : PI X tg e (iKd ks d td) := by
  obtain ⟨es, n, D, hk⟩ := A.ex
  refine ⟨fun pins s σ H R I h => ?_⟩
  refine thn (he.run pins s σ H _ I h) fun u s1 ⟨x, H1, I1, rx, ex, q⟩ => ?_
  subst ex
  obtain rfl : u = Value.ref d := rx
  have hsz : es.size = ks.length := by
    have := congrArg List.length hk
    simpa using this
  refine iter_keys D.low (I1.kIn _ _ D.at_) ⟨rfl, rfl, rfl⟩ rfl (pi_one (tk := s1.toks) I1 _ (turn_kd _ D hk) ⟨_, Heap.get?_push_size _ rfl, rfl, ?_⟩ q)
  rw [hsz] <;> rfl
/-- a walk over its keys -/
theorem walk_kd {ks : List Str} : Walk (Ikd ks) ks.length (fun _ => True) (fun i H v H' => H' = H ∧ ∃ z, ks[i]? = some z ∧ v = .str z) := by
  refine ⟨fun i _ hi _ => hi, fun _ _ => Nat.le_refl _, fun i H v H' _ _ y => y⟩
end L2.Tb
set_option Elab.async false
set_option linter.all false
set_option maxRecDepth 100000
set_option maxHeartbeats 4000000
/-! x op y by the own method of x's class, y of the same class -/
namespace L2.Tb
open PySem PySem.Spec PyProof.Rows
section
variable {X : Cx} {CX : CXT} {C f : Addr} {fd : FuncData} {ps : List Str} {sp : Sp} {k : Nat} {op : Operator}
def rOwnBin (C : Addr) (sp : Sp) : R2 := fun x y H Q => ∃ (a dx : Addr) (fs : List (Str × V)) (c dy : Addr) (gs : List (Str × V)), x = .ref a ∧ y = .ref c ∧ H a = some (.ins C dx fs) ∧ H c = some (.ins C dy gs) ∧ sp [.ref a, .ref c] H Q E0
theorem op_ownBin (F : FnOk X.prog X.w X.K X.mg X.base CX k f fd ps sp) (hr : Room k X.A) (hc : PySem.W.selfFirst X.K C = true) (hs : PySem.W.findIn X.K (.ref C) (PySem.dunder op.info.2) = some (some (.ref f))) (hf : PySem.W.isFn X.K (.ref f) = true) (hb : Binds X.K fd ps []) (hx : Passes CX X E0) :
    OpR X (binaryOp op) (rOwnBin C sp) := by
  intro pins s σ H x y v u Q I rx ry h
  obtain ⟨a, dx, fs, c, dy, gs, rfl, rfl, ea, ec, h⟩ := h
  obtain rfl : v = Value.ref a := rx
  obtain rfl : u = Value.ref c := ry
  obtain ⟨mA, O, _⟩ := ins_get I.hok ea
  obtain ⟨od, J, _⟩ := O.look
  obtain ⟨mC, O2, _⟩ := ins_get I.hok ec
  obtain ⟨od2, J2, _⟩ := O2.look
  obtain ⟨m, hF⟩ := I.fr
  have hl := F.len _ _ _ _ h
  refine PySem.W.binop_K hF I.ok.mod.kin J J2.type hc hs hf (wpAny_call (codeAny_mono (F.run X.A X.stack s H ⟨[.ref a, .ref c], []⟩ [.ref a, .ref c] [.ref a, .ref c] _ E0 hr I.env0 (by
    have z := hb s [.ref a, .ref c] I.kIn (by simpa using hl)
    simpa using z) (.cons rfl (.cons rfl .nil)) h) fun r s' hq => ?_))
  match r, hq with
  | .error e, hq => exact hx pins σ H s e s' I hq
  | .ok (.ret u2), hq =>
    obtain ⟨v2, H', I', rv, q⟩ := I.after hq
    exact cmp_back rv ⟨v2, H', I', rv, q⟩
end
end L2.Tb
set_option Elab.async false
set_option linter.all false
set_option maxRecDepth 100000
set_option maxHeartbeats 4000000
/-! y in x by an own __contains__; bool(x) by an own __bool__; o.f as a target among others; s * n -/
namespace L2.Tb
open PySem PySem.Spec PyProof.Rows
section
variable {X : Cx} {C f : Addr} {fd : FuncData} {ps : List Str} {sp : Sp} {k : Nat}
def rOwnIn (C : Addr) (sp : Sp) : R2 := fun v y H Q => ∃ (a dx : Addr) (fs : List (Str × V)), y = .ref a ∧ H a = some (.ins C dx fs) ∧ sp [.ref a, v] H (fun r H' => ∃ b, r = .bl b ∧ Q (.bl b) H') E0
theorem op_ownIn (F : FnOk X.prog X.w X.K X.mg X.base L2.CX0 k f fd ps sp) (hr : Room k X.A) (hs : PySem.W.findIn X.K (.ref C) "__contains__" = some (some (.ref f))) (hf : PySem.W.isFn X.K (.ref f) = true) (hb : Binds X.K fd ps []) : OpR X (compareOp .In) (rOwnIn C sp) := by
  intro pins s σ H x y v u Q I rx ry h
  obtain ⟨a, dx, fs, rfl, ea, h⟩ := h
  obtain rfl : u = Value.ref a := ry
  obtain ⟨mA, O, _⟩ := ins_get I.hok ea
  obtain ⟨od, J, _⟩ := O.look
  obtain ⟨m, hF⟩ := I.fr
  have hl := F.len _ _ _ _ h
  refine PySem.W.in_K hF I.ok.mod.kin J hs hf (wpAny_call (codeAny_mono (F.run X.A X.stack s H ⟨[.ref a, v], []⟩ [.ref a, v] [.ref a, x] _ E0 hr I.env0 (by
    have z := hb s [.ref a, v] I.kIn (by simpa using hl)
    simpa using z) (.cons rfl (.cons rx .nil)) h) fun r s' hq => ?_))
  match r, hq with
  | .error e, hq => exact hq.elim
  | .ok (.ret u), hq =>
    obtain ⟨v2, H', I', rv, b, ev, q⟩ := I.after hq
    rw [ev] at rv
    obtain rfl : u = Value.bool b := rv
    exact wpAny_truthy_bool ⟨.bl b, H', I', rfl, q⟩
def rBoolOwn (C : Addr) (sp : Sp) : List V → Hp → VK → Prop := fun xs H Q => ∃ (a dx : Addr) (fs : List (Str × V)), xs = [.ref a] ∧ H a = some (.ins C dx fs) ∧ sp [.ref a] H (fun v H' => ∃ b, v = .bl b ∧ Q (.bl b) H') E0
end
section
variable {prog : Program} {w : World} {A : Around} {E : Value → Shared → Prop} {s : Shared} {K : PySem.W.Frag} {x C L f : Addr} {h₀ : Heap} {m : Str → Option Value} {ox : Obj} {od : Option Obj}
theorem kbo_call {Q : Value → Shared → Prop} (F : PyProof.Rows.Fr h₀ L s.heap m) (X₀ : K.In h₀) (I : PySem.W.InstAt s.heap x ox C od) (hs : PySem.W.findIn K (.ref C) "__bool__" = some (some (.ref f))) (hf : PySem.W.isFn K (.ref f) = true)
    (h : wpAny (model prog w) A.in1.in1 (call (.ref f) [.ref x]) (PySem.W.BoolBack fun b s' => Q (.bool b) s') E s) : wpAny (model prog w) A (call (.type "bool") [.ref x]) Q E s := by
  refine callType_codes (T := "bool") (Bi := Builtin.«object.__init__») (Q₁ := fun r s₁ => ∃ b, r = .bool b ∧ Q r s₁) PySem.F.called_bool (PySem.F.typeCall_bool_1 _) PySem.F.entry_object_init ?_ ?_
  · refine codeAny_of_tree ?_
    show wpAny _ A.in1.in1 (do checkBuiltinCall "bool.__new__" ⟨[.type "bool", .ref x], []⟩; again (.builtin "bool.__new__" ⟨[.type "bool", .ref x], []⟩)) _ _ s
    refine wpAny_bind (wpAny_of_eq (PySem.F.newCall_bool_1 _) (wpAny_pure ⟨plainId_quiet (by decide +kernel) _, codeAny_builtin PySem.F.entry_bool_new ?_⟩))
    rw [Around.under_plainId (by decide +kernel) _]
    have key := PySem.W.truthy_K (M := model prog w) (A := A.in1.in1) (E := E) (Q := fun b s' => ∃ b', Value.bool b = .bool b' ∧ Q (.bool b) s') F X₀ I hs hf (wpAny_mono h (fun r s1 hr => by cases r <;> first | exact hr.elim | exact ⟨_, rfl, hr⟩) fun _ _ y => y)
    obtain ⟨hp, g, dr, tk, os⟩ := s
    have f1 := PySem.F.conv_sub_bool
    repeat (any_goals (first | assumption | (with_reducible refine wpAny_mono key (fun b s1 hb => ?_) (fun e s1 he => ?_)) | wp_step))
    all_goals first | exact hb | exact he | skip
  · rintro obj s₁ ⟨b, rfl, hq⟩
    exact ⟨PySem.typeIs_bool _ _, PySem.F.args_object_init_2 _ _, object_init_meets PySem.F.called_bool.init.lookup PySem.F.called_bool.made (by decide) prog w A.in1 _ s₁ ⟨PySem.typeIs_bool _ _, rfl, hq⟩⟩
end
section
variable {X : Cx}
/-- o.f = .., as a target among others -/
def gFld (K : PySem.W.Frag) (to : TE) (f : Str) : TG := fun v σ H Q => to σ H fun x H1 => ∃ a C dx fs, x = .ref a ∧ H1 a = some (.ins C dx fs) ∧ Cls K C ∧ NoAttr K C f ∧ fs.length < 1000 ∧ Q σ (upd H1 a (.ins C dx (putF f v fs)))
theorem pg_fld {o : Expr} {to : TE} {f : Str} {pos : Pos} (ho : PE X o to) (ha : ∀ v, assign (.Attribute o f pos) X.env v = (do
      let ov ← holding [v] (eval o X.env)
      standAt pos.atName
      holding [v, ov] (setAttr ov f v)
      release [v, ov] []) := by intro _; rfl) : PG X (.Attribute o f pos) (gFld X.K to f) := by
  refine ⟨fun pins s σ H v u Q I r h => ?_⟩
  rw [ha]
  refine wpAny_bind (wpAny_holding (thn (ho.run pins s σ H _ I h) fun ov s1 ⟨x, H1, I1, r1, a, C, dx, fs, ex, ea, c, n, l, q⟩ => ?_))
  subst ex
  obtain rfl : ov = Value.ref a := r1
  exact wpAny_bind (wpAny_standAt (wpAny_bind (wpAny_holding (setattr_ok I1 ea c n l r fun s3 I3 => wpAny_release ⟨σ, _, I3, q⟩))))
def rMulS : R2 := fun x y H Q => ∃ (z : Str) (n : Nat), x = .str z ∧ y = .int (n : Int) ∧ 1 ≤ n ∧ z.length ≠ 0 ∧ n ≤ 1000 ∧ z.length ≤ 1000 ∧ Q (.str ⟨((List.replicate n z.cps.toList).flatten).toArray⟩) H
theorem rep_arr (z : Array Nat) : ∀ (n : Nat) (a : Array Nat), ((List.replicate n z).foldl (· ++ ·) a).toList = a.toList ++ (List.replicate n z.toList).flatten
  | 0, a => by simp
  | n + 1, a => by
    rw [List.replicate_succ, List.foldl_cons, rep_arr z n (a ++ z), List.replicate_succ, List.flatten_cons, Array.toList_append, List.append_assoc]
theorem op_mulS : OpR X (binaryOp .Mult) rMulS := by
  intro pins s σ H x y v u Q I rx ry h
  obtain ⟨z, n, rfl, rfl, n1, z1, nb, zb, q⟩ := h
  obtain ⟨t, rfl⟩ := (show ∃ t, v = Value.str z t from rx)
  obtain ⟨t', rfl⟩ := (show ∃ t', u = Value.int (n : Int) t' from ry)
  have hlt : ¬ (n : Int) < 1 := by omega
  have mul : z.length * n ≤ 1000 * 1000 := Nat.mul_le_mul zb nb
  have eq1 : (⟨(List.replicate n z.cps).foldl (· ++ ·) #[]⟩ : Str) = ⟨((List.replicate n z.cps.toList).flatten).toArray⟩ := by
    congr 1
    apply Array.toList_inj.mp
    rw [rep_arr]
    simp
  refine P.mul_str ?_ (fun _ _ => ?_) (fun _ _ => ?_) ?_
  · rw [decide_eq_false (by omega), decide_eq_false (by omega)]
    rfl
  · have d : (1000 : Int) ≤ (2 ^ 63 - 1) / (n : Int) := by
      refine Int.le_ediv_of_mul_le (by omega) ?_
      omega
    omega
  · rw [Int.toNat_natCast]
    have : sizeLine = 16777216 := sizeLine_eq
    simp only [Builtin.Str.tooLong, decide_eq_false_iff_not]
    omega
  · rw [if_neg hlt]
    by_cases c : ((n : Int) == 1 || z.length == 0) = true
    · rw [if_pos c]
      have n1' : n = 1 := by
        rcases (Bool.or_eq_true _ _).mp c with c | c
        · have := beq_iff_eq.mp c
          omega
        · exact absurd (beq_iff_eq.mp c) z1
      subst n1'
      refine ⟨.str z, H, I, ⟨_, rfl⟩, ?_⟩
      simpa using q
    · rw [if_neg c]
      refine ⟨?_, ?_⟩
      · rw [Int.toNat_natCast, eq1]
        have e : (⟨((List.replicate n z.cps.toList).flatten).toArray⟩ : Str).length = n * z.length := by
          show ((List.replicate n z.cps.toList).flatten).toArray.size = _
          rw [List.size_toArray, List.length_flatten, List.map_replicate, List.sum_replicate_nat]
          rfl
        rw [e, Nat.mul_comm, sizeLine_eq]
        omega
      · rw [Int.toNat_natCast, eq1]
        exact ⟨.str _, H, I.tok _, ⟨_, rfl⟩, q⟩
/-- bool(x) -/
theorem call_boolOwn {C f : Addr} {fd : FuncData} {ps : List Str} {sp : Sp} {k : Nat} (F : FnOk X.prog X.w X.K X.mg X.base L2.CX0 k f fd ps sp) (hr : Room (k + 2) X.A) (hs : PySem.W.findIn X.K (.ref C) "__bool__" = some (some (.ref f))) (hf : PySem.W.isFn X.K (.ref f) = true) (hb : Binds X.K fd ps []) : CallR X (.type "bool") (rBoolOwn C sp) := by
  intro pins s σ H xs us Q I r h
  obtain ⟨a, dx, fs, rfl, ea, h⟩ := h
  rw [Vals.ref1 r]
  obtain ⟨mA, O, _⟩ := ins_get I.hok ea
  obtain ⟨od, J, _⟩ := O.look
  obtain ⟨m, hF⟩ := I.fr
  have r2 : Room k X.A.in1.in1 := hr.in1.in1
  have hl := F.len _ _ _ _ h
  refine kbo_call hF I.ok.mod.kin J hs hf (wpAny_call (codeAny_mono (F.run X.A.in1.in1 X.stack s H ⟨[.ref a], []⟩ [.ref a] [.ref a] _ E0 r2 I.env0.in1.in1 (by
    have z := hb s [.ref a] I.kIn (by simpa using hl)
    simpa using z) (.cons rfl .nil) h) fun r s' hq => ?_))
  match r, hq with
  | .error e, hq => exact hq.elim
  | .ok (.ret u), hq =>
    obtain ⟨v, H', I', rv, b, ev, q⟩ := I.after hq
    rw [ev] at rv
    obtain rfl : u = Value.bool b := rv
    exact ⟨.bl b, H', I', rfl, q⟩
end
end L2.Tb
set_option Elab.async false
set_option linter.all false
set_option maxRecDepth 100000
set_option maxHeartbeats 8000000
namespace L2.K19
open PySem PySem.Spec PyProof.Rows L2.Tb
open SX (S)
/-! ### the text by places -/
def top (i : Nat) : Stmt := PySem.Challenge.pw_thirdback_k19_whole_alike_by_own_closing.main.body.getD i (.Pass ⟨0, 0, 0, 0⟩)
/-- the built-ins' names -/
structure Bt (mg : Str → Option Value) : Prop where
  m_len : mg "len" = none
  m_int : mg "int" = none
  m_abs : mg "abs" = none
  m_divmod : mg "divmod" = none
  m_isinstance : mg "isinstance" = none
  m_tuple : mg "tuple" = none
  m_list : mg "list" = none
  m_bool : mg "bool" = none
  m_all : mg "all" = none
  m_zip : mg "zip" = none
  m_range : mg "range" = none
  m_max : mg "max" = none
  m_min : mg "min" = none
  m_enumerate : mg "enumerate" = none
  m_repr : mg "repr" = none
  m_sorted : mg "sorted" = none
  m_ValueError : mg "ValueError" = none
  m_LookupError : mg "LookupError" = none
  m_ArithmeticError : mg "ArithmeticError" = none
abbrev iBits := Builtin.Int.intBits
section
theorem bits31 {z : Int} (h0 : 0 ≤ z) (h1 : z < 2147483648) : iBits z ≤ 1048576 := Nat.le_trans (PyProof.Rows.intBits_le (k := 31) (by omega)) (by decide)
theorem mem_map_int {ns : List Int} {i : Nat} {y : V} (h : (ns.map V.int)[i]? = some y) : ∃ u, y = V.int u ∧ u ∈ ns := by
  rw [List.getElem?_map] at h
  cases e : ns[i]? with
  | none =>
    rw [e] at h
    cases h
  | some u =>
    rw [e] at h
    exact ⟨u, (Option.some.inj h).symm, List.mem_of_getElem? e⟩
end
/-- the lots, as the law writes them -/
abbrev Turn := Int × Int × Int
def turnV (t : Turn) : List V := [.int t.1, .int t.2.1, .int t.2.2]
def lotD : List (Str × List Turn) := [("plain", [(0, 1, 2)]), ("sides", [(0, 1, 2), (1, 0, 2)]), ("front", [(0, 1, 2), (2, 1, 0)]), ("back", [(0, 1, 2), (0, 2, 1)]), ("round", [(0, 1, 2), (1, 2, 0), (2, 0, 1)]), ("all", [(0, 1, 2), (0, 2, 1), (1, 0, 2), (1, 2, 0), (2, 0, 1), (2, 1, 0)])]
theorem paired_imp {α β : Type} {R S : α → β → Prop} (h : ∀ a b, R a b → S a b) : ∀ {xs : List α} {ys : List β}, Paired R xs ys → Paired S xs ys
  | _, _, .nil => .nil
  | _, _, .cons r t => .cons (h _ _ r) (paired_imp h t)
def wordsD : List Str := lotD.map (·.1)
def pairD : List (Str × Bool) := wordsD.map (fun x => (x, false)) ++ wordsD.map (fun x => (x, true))
theorem take_at {α : Type} {l : List α} {i : Nat} {x : α} (h : l[i]? = some x) : l.take (i + 1) = l.take i ++ [x] := by rw [List.take_add_one, h]; rfl
theorem drop_at {α : Type} {l : List α} {i : Nat} {x : α} (h : l[i]? = some x) : l.drop i = x :: l.drop (i + 1) := by
  obtain ⟨hi, e⟩ := List.getElem?_eq_some_iff.mp h
  rw [List.drop_eq_getElem_cons hi, e]
theorem pairedNth {α β : Type} {R : α → β → Prop} : ∀ {xs : List α} {ys : List β} {i : Nat} {x : α}, Paired R xs ys → xs[i]? = some x → ∃ y, ys[i]? = some y ∧ R x y
  | _, _, _, _, .nil, h => by cases h
  | _, _, 0, _, .cons h _, e => ⟨_, rfl, by cases e; exact h⟩
  | _, _, i + 1, _, .cons _ t, e => pairedNth (i := i) t e
theorem same_put {H0 H : Hp} {D : Addr} {o : HO} (n : H0 D = none) (s : Same H0 H) : Same H0 (upd H D o) := fun b u e => by rw [upd_ne (ne_of_none e n)]; exact s _ _ e
theorem same_pt {H0 H : Hp} {D : Addr} {o : HO} (n : H0 D = none) (s : Same H0 H) : Same H0 (upd H D o) := fun b u e => by rw [upd_ne (ne_of_none e n)]; exact s _ _ e
theorem gname_go {i : Nat} {x : V} {σ : St} {H : Hp} {k : St → Hp → Prop} (h : k (σ.set i (some x)) H) : gName i x σ H k := h
theorem seqx {a b : TS} {D : Ends} {σ : St} {H : Hp} (Pv : St → Hp → Prop) (hb : ∀ σ' H', Pv σ' H' → b D σ' H') (h : (∀ σ' H', Pv σ' H' → ({ D with nx := b D } : Ends).nx σ' H') → a { D with nx := b D } σ H) : tSeq a b D σ H := h hb
theorem paired_in {α β : Type} {R S : α → β → Prop} : ∀ {xs : List α} {ys : List β}, Paired R xs ys → (∀ a b, a ∈ xs → R a b → S a b) → Paired S xs ys
  | _, _, .nil, _ => .nil
  | _, _, .cons h t, f => .cons (f _ _ List.mem_cons_self h) (paired_in t fun a b ha r => f a b (List.mem_cons_of_mem _ ha) r)
theorem ret_go {te : TE} {D : Ends} {σ : St} {H : Hp} (h : te σ H D.rt) : tRet te D σ H := h
theorem cb_one {r : List V → Hp → VK → Prop} {ta : TE} {σ : St} {H : Hp} {Q : VK} (h : ta σ H fun x H1 => r [x] H1 Q) : tCB r (tCons ta tNil) σ H Q := h
theorem lenN {xs : List V} {n : Nat} (h : xs.length = n) : decide (V.int ((xs.length : Nat) : Int) = V.int (n : Nat)) = true := decide_eq_true (by rw [h])
theorem lenX {xs : List V} {n : Nat} (h : xs.length ≠ n) : decide (V.int ((xs.length : Nat) : Int) = V.int (n : Nat)) = false := decide_eq_false fun z => h (by injection z with z; omega)
theorem paired_snoc_inv {α β : Type} {R : α → β → Prop} : ∀ {xs : List α} {x : α} {ys : List β}, Paired R (xs ++ [x]) ys → ∃ ys' y, ys = ys' ++ [y] ∧ Paired R xs ys' ∧ R x y
  | [], x, _, .cons h .nil => ⟨[], _, rfl, .nil, h⟩
  | a :: xs, x, _, .cons h t => by
    obtain ⟨ys', y, rfl, p, r⟩ := paired_snoc_inv t
    exact ⟨_ :: ys', y, rfl, .cons h p, r⟩
theorem paired_pairs {α β : Type} {R : α → β → Prop} : ∀ ks : List (α × β), (∀ p ∈ ks, R p.1 p.2) → Paired R (ks.map (·.1)) (ks.map (·.2))
  | [], _ => .nil
  | k :: ks, h => .cons (h k List.mem_cons_self) (paired_pairs ks fun p hp => h p (List.mem_cons_of_mem _ hp))
theorem paired_zip {α β : Type} {R : α → β → Prop} : ∀ {xs : List α} {ys : List β}, Paired R xs ys → (∀ p ∈ xs.zip ys, R p.1 p.2) ∧ (xs.zip ys).map (·.1) = xs ∧ (xs.zip ys).map (·.2) = ys
  | _, _, .nil => ⟨(fun p hp => by cases hp), rfl, rfl⟩
  | _, _, .cons h t => by
    obtain ⟨a, b, c⟩ := paired_zip t
    refine ⟨fun p hp => ?_, by rw [List.zip_cons_cons, List.map_cons, b], by rw [List.zip_cons_cons, List.map_cons, c]⟩
    rcases List.mem_cons.mp hp with rfl | hp
    · exact h
    · exact a p hp
theorem paired_mapR {α β γ : Type} {R : α → γ → Prop} (g : β → γ) : ∀ {xs : List α} {ys : List β}, Paired (fun x y => R x (g y)) xs ys → Paired R xs (ys.map g)
  | _, _, .nil => .nil
  | _, _, .cons h t => .cons h (paired_mapR g t)
theorem pf_len {α β : Type} {R : α → β → Prop} {xs : List α} {ys : List β} (h : Paired R xs ys) : xs.length = ys.length := h.length
theorem pair_get {α β : Type} {R : α → β → Prop} {xs : List α} {ys : List β} (h : Paired R xs ys) {i : Nat} {y : β} (e : ys[i]? = some y) : ∃ x, xs[i]? = some x ∧ R x y := by
  have il : i < ys.length := (List.getElem?_eq_some_iff.mp e).1
  have jl : i < xs.length := by rw [h.length]; exact il
  obtain ⟨y', hy, r⟩ := pairedNth h (List.getElem?_eq_getElem jl)
  rw [e] at hy
  cases hy
  exact ⟨_, List.getElem?_eq_getElem jl, r⟩
end L2.K19
set_option Elab.async false
set_option linter.all false
set_option maxRecDepth 100000
set_option maxHeartbeats 8000000
namespace L2.K19
open PySem PySem.Spec PyProof.Rows L2.Tb
open SX (S)
/-! ### the kinds -/
theorem op_isnotB {X : Cx} : OpR X (compareOp .IsNot) (fun x y H Q => ∃ b, y = .bl b ∧ Q (.bl (!decide (x = .bl b))) H) := by
  intro pins s σ H x y v u Q I rx ry h
  obtain ⟨b, rfl, q⟩ := h
  cases (show u = Value.bool b from ry)
  by_cases e : x = .bl b
  · subst e
    cases (show v = Value.bool b from rx)
    exact wpAny_isNot_self rfl ⟨.bl false, H, I, rfl, by simpa using q⟩
  · have q2 : Q (.bl true) H := by simpa [e] using q
    have fin : ∀ {w : Value}, v = w → w ≠ .bool b → (plainIs w (.bool b) = true) → wpAny (model X.prog X.w) X.A (compareOp .IsNot v (.bool b)) (EP X pins σ Q) X.xe s := fun e1 e2 e3 => by
      rw [e1]
      exact wpAny_isNot_other e3 e2 ⟨.bl true, H, I, rfl, q2⟩
    cases x with
    | bl c =>
      cases (show v = Value.bool c from rx)
      exact fin rfl (fun z => e (by injection z with z; rw [z])) rfl
    | non => exact fin rx (fun z => nomatch z) rfl
    | ref a => exact fin rx (fun z => nomatch z) rfl
    | ty n => exact fin rx (fun z => nomatch z) rfl
    | int i =>
      obtain ⟨t, e1⟩ := rx
      exact fin e1 (fun z => nomatch z) rfl
    | str i =>
      obtain ⟨t, e1⟩ := rx
      exact fin e1 (fun z => nomatch z) rfl
    | byt i =>
      obtain ⟨t, e1⟩ := rx
      exact fin e1 (fun z => nomatch z) rfl
    | flt i =>
      obtain ⟨t, e1⟩ := rx
      exact fin e1 (fun z => nomatch z) rfl
abbrev s_kinit : Stmt := inClass (top 39) 0
abbrev N_kinit : List Str := ["self", "turns", "calm"]
theorem sc_kinit : FnScope N_kinit ["self", "turns", "calm"] (defScope s_kinit) := ⟨rfl, rfl, rfl, by decide +kernel, rfl, by decide +kernel, by decide +kernel⟩
/-- not a text -/
structure NoS (K : PySem.W.Frag) (H : Hp) (x : V) : Prop where
  ex : ∃ t, TyX K H x t ∧ PySem.W.kitOne K t (.type "str") = some false
theorem str_ty {K : PySem.W.Frag} {H : Hp} {z : Str} : TyX K H (.str z) (.type "str") := .base (.str z)
theorem str_kit {K : PySem.W.Frag} : PySem.W.kitOne K (.type "str") (.type "str") = some true := rfl
theorem iteT2 {c : Bool} {A B : Prop} (hc : c = true) (h : A) : if c = true then A else B := by rw [if_pos hc]; exact h
theorem iteN2 {c : Bool} {A B : Prop} (hc : c = false) (h : B) : if c = true then A else B := by rw [if_neg (by rw [hc]; decide)]; exact h
structure KiF (P : Program) (w : World) (K : PySem.W.Frag) (mg : Str → Option Value) (base : Heap) (C dL CT CF : Addr) (es : Array DictEntry) (n : Nat) : Prop where
  mgC : mg "Kind" = some (.ref C)
  cls : Cls K C
  noT : NoAttr K C "_turns"
  noC : NoAttr K C "_calm"
  mgL : mg "LOTS" = some (.ref dL)
  tab : KDict K w dL es n
  inL : ∀ z, ∃ r, PySem.W.nsIn K dL z = some r ∧ r.isSome = wordsD.contains z
  eT : ErC P w K mg base "InvalidTurns" "given" bVE CT
  eF : ErC P w K mg base "InvalidFlag" "given" bVE CF
  tyT : PySem.W.typeIn K (.ref CT) = some (.type "type")
  tyF : PySem.W.typeIn K (.ref CF) = some (.type "type")
def kindF (z : Str) (b : Bool) : List (Str × V) := [("_turns", .str z), ("_calm", .bl b)]
def spKinit (K : PySem.W.Frag) (C CT CF : Addr) : Sp := fun vs H Q E => ∃ (a dx : Addr) (t c : V), vs = [.ref a, t, c] ∧ H a = some (.ins C dx []) ∧
  ((∃ z b, t = .str z ∧ wordsD.contains z = true ∧ c = .bl b ∧ Q .non (upd (upd H a (.ins C dx [("_turns", .str z)])) a (.ins C dx (kindF z b)))) ∨
   (((∃ z, t = .str z ∧ wordsD.contains z = false) ∨ NoS K H t) ∧ ∀ d H', Same H H' → H d = none → H' d = some (.xd [("given", t)]) → E (.ref CT) (some d) H') ∨
   (∃ z, t = .str z ∧ wordsD.contains z = true ∧ (∀ b, c ≠ .bl b) ∧ ∀ d H', Same H H' → H d = none → H' d = some (.xd [("given", c)]) → E (.ref CF) (some d) H'))
section
variable {P : Program} {w : World} {K : PySem.W.Frag} {mg : Str → Option Value} {base : Heap} {f : Addr} {fd : FuncData} {C dL CT CF : Addr} {es : Array DictEntry} {n : Nat}
theorem c_kinit (T : Bt mg) (mstr : mg "str" = none) (KF : KiF P w K mg base C dL CT CF es n) (F : FunD K "__init__" "Kind.__init__" (defArgs s_kinit) (defBody s_kinit) (defScope s_kinit) [] [("calm", .bl false)] f fd) : FnOk P w K mg base (L2.CX P w) 3 f fd ["self", "turns", "calm"] (spKinit K C CT CF) := by
  have hnd := sc_kinit.nd
  refine F.ok sc_kinit (fun vs H Q E h => ?_) (fun cdv A outer s H vs Q E hr h => ?_)
  · obtain ⟨a, dx, t, c, rfl, _⟩ := h
    rfl
  · obtain ⟨a, dx, t, c, rfl, ha, h⟩ := h
    refine ⟨_, (pss_cons (ps_if (PW.pt (pw_or (pt_not (pt_val (pe_callB call_isi (by rfl) T.m_isinstance (by decide +kernel) (pa_cons (pv 1) (pa_cons (pe_bltn (v := .ty "str") (by rfl) mstr (by decide +kernel) rfl) pa_nil))))) (pw_or1 (pt_cmpR (op_notIn_kd KF.tab) (pv 1) (pe_glob (v := .ref dL) (by rfl) KF.mgL rfl) (by rfl)))))
      (pss_one (ps_raise (by rfl) (takes_of rfl rfl rfl rfl) (pmk_er KF.eT KF.tyT hr (by omega) (by rfl) (pv 1))))
      pss_nil)
      (pss_cons (ps_if (PW.pt (pw_and (pt_cmpR op_isnotB (pv 2) pe_bl (nomark _)) (pw_and1 (pt_cmpR op_isnotB (pv 2) pe_bl (nomark _)))))
      (pss_one (ps_raise (by rfl) (takes_of rfl rfl rfl rfl) (pmk_er KF.eF KF.tyF hr (by omega) (by rfl) (pv 2))))
      pss_nil)
      (pss_cons (ps_fld (pv 0) (pv 1) (by rfl))
      (pss_one (ps_fld (pv 0) (pv 2) (by rfl)))))), ?_⟩
    rcases h with ⟨z, b, rfl, hz, rfl, q⟩ | ⟨hb, q⟩ | ⟨z, rfl, hz, hc, q⟩
    · obtain ⟨r, e, hr2⟩ := KF.inL z
      refine ⟨_, rfl, _, _, _, _, _, rfl, .ty _, str_ty, str_kit, _, rfl, iteF ⟨_, rfl, z, r, rfl, rfl, e, ?_⟩⟩
      rw [hr2, hz]
      refine ⟨_, rfl, iteF ?_⟩
      refine ⟨_, rfl, true, rfl, _, rfl, ?_⟩
      cases b with
      | true =>
        refine iteN2 (by decide +kernel) (iteF ?_)
        refine ⟨_, rfl, _, rfl, a, C, dx, [], rfl, ha, KF.cls, KF.noT, by decide, ?_⟩
        refine ⟨_, rfl, _, rfl, a, C, dx, _, rfl, upd_same, KF.cls, KF.noC, Nat.le_of_ble_eq_true rfl, ?_⟩
        exact q
      | false =>
        refine iteT2 (by decide +kernel) ⟨_, rfl, false, rfl, _, rfl, iteN2 (by decide +kernel) ?_⟩
        refine ⟨_, rfl, _, rfl, a, C, dx, [], rfl, ha, KF.cls, KF.noT, by decide, ?_⟩
        refine ⟨_, rfl, _, rfl, a, C, dx, _, rfl, upd_same, KF.cls, KF.noC, Nat.le_of_ble_eq_true rfl, ?_⟩
        exact q
    · rcases hb with ⟨z, rfl, hz⟩ | hb
      · obtain ⟨r, e, hr2⟩ := KF.inL z
        refine ⟨_, rfl, _, _, _, _, _, rfl, .ty _, str_ty, str_kit, _, rfl, iteF ⟨_, rfl, z, r, rfl, rfl, e, ?_⟩⟩
        rw [hr2, hz]
        exact ⟨_, rfl, iteT ⟨_, rfl, fun d H' s n x => q d H' s n x⟩⟩
      · obtain ⟨T0, ty, k⟩ := hb.ex
        exact ⟨_, rfl, _, _, _, _, _, rfl, .ty _, ty, k, _, rfl, iteT (iteT ⟨_, rfl, fun d H' s n x => q d H' s n x⟩)⟩
    · obtain ⟨r, e, hr2⟩ := KF.inL z
      refine ⟨_, rfl, _, _, _, _, _, rfl, .ty _, str_ty, str_kit, _, rfl, iteF ⟨_, rfl, z, r, rfl, rfl, e, ?_⟩⟩
      rw [hr2, hz]
      refine ⟨_, rfl, iteF ?_⟩
      refine ⟨_, rfl, true, rfl, _, rfl, ?_⟩
      refine iteT2 (by rw [decide_eq_false (hc true)]; rfl) ⟨_, rfl, false, rfl, _, rfl, iteT2 (by rw [decide_eq_false (hc false)]; rfl) ?_⟩
      exact ⟨_, rfl, fun d H' s n x => q d H' s n x⟩
end
abbrev s_kturns : Stmt := inClass (top 39) 2
abbrev N_kturns : List Str := ["self"]
theorem sc_kturns : FnScope N_kturns ["self"] (defScope s_kturns) := ⟨rfl, rfl, rfl, by decide +kernel, rfl, by decide +kernel, by decide +kernel⟩
abbrev s_kcalm : Stmt := inClass (top 39) 3
abbrev N_kcalm : List Str := ["self"]
theorem sc_kcalm : FnScope N_kcalm ["self"] (defScope s_kcalm) := ⟨rfl, rfl, rfl, by decide +kernel, rfl, by decide +kernel, by decide +kernel⟩
abbrev s_klot : Stmt := inClass (top 39) 4
abbrev N_klot : List Str := ["self"]
theorem sc_klot : FnScope N_klot ["self"] (defScope s_klot) := ⟨rfl, rfl, rfl, by decide +kernel, rfl, by decide +kernel, by decide +kernel⟩
abbrev s_kstr : Stmt := inClass (top 39) 10
abbrev N_kstr : List Str := ["self"]
theorem sc_kstr : FnScope N_kstr ["self"] (defScope s_kstr) := ⟨rfl, rfl, rfl, by decide +kernel, rfl, by decide +kernel, by decide +kernel⟩
abbrev s_keq : Stmt := inClass (top 39) 9
abbrev N_keq : List Str := ["self", "other"]
theorem sc_keq : FnScope N_keq ["self", "other"] (defScope s_keq) := ⟨rfl, rfl, rfl, by decide +kernel, rfl, by decide +kernel, by decide +kernel⟩
/-- a kind stands at a -/
def KindAt (C : Addr) (H : Hp) (a : Addr) (z : Str) (b : Bool) : Prop := ∃ dx, H a = some (.ins C dx (kindF z b))
theorem KindAt.same {C : Addr} {H H' : Hp} {a : Addr} {z : Str} {b : Bool} (h : KindAt C H a z b) (s : Same H H') : KindAt C H' a z b := let ⟨dx, e⟩ := h; ⟨dx, s _ _ e⟩
def lotOf (z : Str) : List Turn := (lotD.lookup z).getD []
/-- a lot of the program, a tuple of tuples that stands for good -/
def LotK (K : PySem.W.Frag) (l : Addr) (lot : List Turn) : Prop := ∃ ts : List Addr, (∀ H, SqT K H l (ts.map V.ref)) ∧ Paired (fun t u => ∀ H, SqT K H t (turnV u)) ts lot
def spKturns (C : Addr) : Sp := fun vs H Q _ => ∃ (a : Addr) (z : Str) (b : Bool), vs = [.ref a] ∧ KindAt C H a z b ∧ Q (.str z) H
def spKcalm (C : Addr) : Sp := fun vs H Q _ => ∃ (a : Addr) (z : Str) (b : Bool), vs = [.ref a] ∧ KindAt C H a z b ∧ Q (.bl b) H
def spKlot (K : PySem.W.Frag) (C : Addr) : Sp := fun vs H Q _ => ∃ (a : Addr) (z : Str) (b : Bool), vs = [.ref a] ∧ KindAt C H a z b ∧ wordsD.contains z = true ∧ ∀ l, LotK K l (lotOf z) → Q (.ref l) H
/-- a kind's text -/
def kindS (z : Str) (b : Bool) : Str := cond b (Str.empty ++ ("calm " : Str) ++ z) z
def spKstr (C : Addr) : Sp := fun vs H Q _ => ∃ (a : Addr) (z : Str) (b : Bool), vs = [.ref a] ∧ KindAt C H a z b ∧ z.length ≤ 1000 ∧ Q (.str (kindS z b)) H
def spKeq (K : PySem.W.Frag) (C : Addr) : Sp := fun vs H Q _ => ∃ (a : Addr) (z : Str) (b : Bool) (y : V), vs = [.ref a, y] ∧ KindAt C H a z b ∧
  ((∃ (c : Addr) (z2 : Str) (b2 : Bool), y = .ref c ∧ KindAt C H c z2 b2 ∧ Q (.bl (decide (z = z2) && decide (b = b2))) H) ∨ (∃ t, TyX K H y t ∧ PySem.W.kitOne K t (.ref C) = some false ∧ Q (.bl false) H))
structure KiG (K : PySem.W.Frag) (w : World) (mg : Str → Option Value) (C dL : Addr) : Prop where
  calm : ∃ t, mg "_CALM" = some (.str "calm " t)
  lots : ∀ z, wordsD.contains z = true → ∃ l, KDct K w dL z (.ref l) ∧ LotK K l (lotOf z)
  ex : InsC K C
  self : PySem.W.kitOne K (.ref C) (.ref C) = some true
section
variable {P : Program} {w : World} {K : PySem.W.Frag} {mg : Str → Option Value} {base : Heap} {f : Addr} {fd : FuncData} {C dL CT CF : Addr} {es : Array DictEntry} {n : Nat}
theorem c_kturns (KF : KiF P w K mg base C dL CT CF es n) (F : FunD K "turns" "Kind.turns" (defArgs s_kturns) (defBody s_kturns) (defScope s_kturns) [] [] f fd) : FnOk P w K mg base L2.CX0 1 f fd ["self"] (spKturns C) := by
  have hnd := sc_kturns.nd
  refine F.ok sc_kturns (fun vs H Q E h => ?_) (fun cdv A outer s H vs Q E hr h => ?_)
  · obtain ⟨a, z, b, rfl, _⟩ := h
    rfl
  · obtain ⟨a, z, b, rfl, ⟨dx, e⟩, q⟩ := h
    exact ⟨_, (pss_one (ps_ret (pe_fld (pv 0) (by rfl)))), _, rfl, a, C, dx, _, _, rfl, e, KF.cls, KF.noT, rfl, q⟩
theorem c_kcalm (KF : KiF P w K mg base C dL CT CF es n) (F : FunD K "calm" "Kind.calm" (defArgs s_kcalm) (defBody s_kcalm) (defScope s_kcalm) [] [] f fd) : FnOk P w K mg base L2.CX0 1 f fd ["self"] (spKcalm C) := by
  have hnd := sc_kcalm.nd
  refine F.ok sc_kcalm (fun vs H Q E h => ?_) (fun cdv A outer s H vs Q E hr h => ?_)
  · obtain ⟨a, z, b, rfl, _⟩ := h
    rfl
  · obtain ⟨a, z, b, rfl, ⟨dx, e⟩, q⟩ := h
    exact ⟨_, (pss_one (ps_ret (pe_fld (pv 0) (by rfl)))), _, rfl, a, C, dx, _, _, rfl, e, KF.cls, KF.noC, rfl, q⟩
theorem c_klot (KF : KiF P w K mg base C dL CT CF es n) (KG : KiG K w mg C dL) (F : FunD K "lot" "Kind.lot" (defArgs s_klot) (defBody s_klot) (defScope s_klot) [] [] f fd) : FnOk P w K mg base L2.CX0 1 f fd ["self"] (spKlot K C) := by
  have hnd := sc_klot.nd
  refine F.ok sc_klot (fun vs H Q E h => ?_) (fun cdv A outer s H vs Q E hr h => ?_)
  · obtain ⟨a, z, b, rfl, _⟩ := h
    rfl
  · obtain ⟨a, z, b, rfl, ⟨dx, e⟩, hz, q⟩ := h
    obtain ⟨l, kd, lk⟩ := KG.lots z hz
    exact ⟨_, (pss_one (ps_ret (pe_ix ix_kdict (pe_glob (v := .ref dL) (by rfl) KF.mgL rfl) (pe_fld (pv 0) (by rfl)) (fun _ _ => rfl)))), _, rfl, a, C, dx, _, _, rfl, e, KF.cls, KF.noT, rfl, dL, z, .ref l, rfl, rfl, kd, q l lk⟩
theorem c_kstr (T : Bt mg) (mstr : mg "str" = none) (KF : KiF P w K mg base C dL CT CF es n) (KG : KiG K w mg C dL) (F : FunD K "__str__" "Kind.__str__" (defArgs s_kstr) (defBody s_kstr) (defScope s_kstr) [] [] f fd) : FnOk P w K mg base L2.CX0 1 f fd ["self"] (spKstr C) := by
  have hnd := sc_kstr.nd
  obtain ⟨tc, mc⟩ := KG.calm
  refine F.ok sc_kstr (fun vs H Q E h => ?_) (fun cdv A outer s H vs Q E hr h => ?_)
  · obtain ⟨a, z, b, rfl, _⟩ := h
    rfl
  · obtain ⟨a, z, b, rfl, ⟨dx, e⟩, hz, q⟩ := h
    refine ⟨_, (pss_cons (ps_if (pt_val (pe_fld (pv 0) (by rfl)))
      (pss_one (ps_ret (pe_joined (.cons (pe_fmt (pe_glob (v := .str "calm ") (by rfl) mc ⟨_, rfl⟩)) (.cons (pe_fmt (pe_fld (pv 0) (by rfl))) .nil)))))
      pss_nil)
      (pss_one (ps_ret (pe_callTy SkE.call_str_str (by rfl) mstr (by decide +kernel) (pa_cons (pe_fld (pv 0) (by rfl)) pa_nil))))), ?_⟩
    refine ⟨_, rfl, a, C, dx, _, _, rfl, e, KF.cls, KF.noC, rfl, b, rfl, ?_⟩
    cases b with
    | true =>
      refine iteT2 rfl (.inl ⟨_, rfl, Nat.le_of_ble_eq_true rfl, _, rfl, Nat.le_of_ble_eq_true rfl, ?_⟩)
      refine ⟨_, rfl, a, C, dx, _, _, rfl, e, KF.cls, KF.noT, rfl, .inl ⟨_, rfl, ?_, _, rfl, ?_, q⟩⟩
      · rw [sizeLine_eq]
        omega
      · rw [sizeLine_eq]
        have : (Str.empty ++ ("calm " : Str) ++ z).length = 5 + z.length := by
          rw [Str.length_append]
          rfl
        omega
    | false => exact iteN2 rfl ⟨_, rfl, a, C, dx, _, _, rfl, e, KF.cls, KF.noT, rfl, _, rfl, q⟩
theorem c_keq (T : Bt mg) (KF : KiF P w K mg base C dL CT CF es n) (KG : KiG K w mg C dL) (F : FunD K "__eq__" "Kind.__eq__" (defArgs s_keq) (defBody s_keq) (defScope s_keq) [] [] f fd) : FnOk P w K mg base L2.CX0 1 f fd ["self", "other"] (spKeq K C) := by
  have hnd := sc_keq.nd
  refine F.ok sc_keq (fun vs H Q E h => ?_) (fun cdv A outer s H vs Q E hr h => ?_)
  · obtain ⟨a, z, b, y, rfl, _⟩ := h
    rfl
  · obtain ⟨a, z, b, y, rfl, ⟨dx, e⟩, q⟩ := h
    refine ⟨_, (pss_one (ps_ret (pe_and (pe_callB call_isi (by rfl) T.m_isinstance (by decide +kernel) (pa_cons (pv 1) (pa_cons (pe_glob (v := .ref C) (by rfl) KF.mgC rfl) pa_nil))) (pe_and (pe_cmpR op_eq (pe_fld (pv 0) (by rfl)) (pe_fld (pv 1) (by rfl)) (nomark _)) (pe_one (pe_cmpR op_eq (pe_fld (pv 0) (by rfl)) (pe_fld (pv 1) (by rfl)) (nomark _))))))), ?_⟩
    rcases q with ⟨c, z2, b2, rfl, ⟨dy, e2⟩, q⟩ | ⟨t, ty, kn, q⟩
    · refine ⟨_, rfl, _, _, _, _, _, rfl, .own C, .base (.ins e2 KF.cls KG.ex.ha KG.ex.hn KG.ex.ht KG.ex.hm), KG.self, true, rfl, iteT ?_⟩
      refine ⟨_, rfl, a, C, dx, _, _, rfl, e, KF.cls, KF.noT, rfl, _, rfl, c, C, dy, _, _, rfl, e2, KF.cls, KF.noT, rfl, rfl, _, rfl, ?_⟩
      have hz : decide (V.str z = V.str z2) = decide (z = z2) := decide_eq_decide.mpr ⟨fun h => by injection h, fun h => by rw [h]⟩
      rw [hz]
      cases hd : decide (z = z2) with
      | true =>
        rw [hd, Bool.true_and] at q
        refine iteT ⟨_, rfl, a, C, dx, _, _, rfl, e, KF.cls, KF.noC, rfl, _, rfl, c, C, dy, _, _, rfl, e2, KF.cls, KF.noC, rfl, rfl, ?_⟩
        have hb : decide (V.bl b = V.bl b2) = decide (b = b2) := decide_eq_decide.mpr ⟨fun h => by injection h, fun h => by rw [h]⟩
        rw [hb]
        exact q
      | false =>
        rw [hd, Bool.false_and] at q
        exact iteF q
    · exact ⟨_, rfl, _, _, _, _, _, rfl, .own C, ty, kn, false, rfl, iteF q⟩
end
end L2.K19
set_option Elab.async false
set_option linter.all false
set_option maxRecDepth 100000
set_option maxHeartbeats 8000000
namespace L2.K19
open PySem PySem.Spec PyProof.Rows L2.Tb
open SX (S)
abbrev kps : List Str := ["self", "turns", "calm"]
/-! ### Kind at the head -/
def kindB (K : PySem.W.Frag) (C : Addr) : Bool := (He.Fa.cls "Kind").ok K && ((He.Fa.noat "Kind" "_turns").ok K && ((He.Fa.noat "Kind" "_calm").ok K && ((He.Fa.mkr "Kind").ok K && (insB K C && (propB K C "calm" && (propB K C "lot" && decide (PySem.W.kitOne K (.ref C) (.ref C) = some true)))))))
def turnsB (K : PySem.W.Frag) : List Addr → List Turn → Bool
  | [], [] => true
  | t :: ts, u :: us => tupB K t (turnV u) && turnsB K ts us
  | _, _ => false
def lotB (K : PySem.W.Frag) (l : Addr) (lot : List Turn) : Bool := tupB K l ((refsIn K l).map V.ref) && turnsB K (refsIn K l) lot
def lotsB (K : PySem.W.Frag) (d : Addr) : Bool := keysB K d wordsD && wordsD.all fun z => refB K d z && lotB K (refOf K d z) (lotOf z)
theorem turnsB_ok {K : PySem.W.Frag} : ∀ {ts : List Addr} {us : List Turn}, turnsB K ts us = true → Paired (fun t u => ∀ H, SqT K H t (turnV u)) ts us
  | [], [], _ => .nil
  | t :: ts, u :: us, h => .cons (tupB_ok (He.ba h).1) (turnsB_ok (He.ba h).2)
  | [], _ :: _, h => by cases h
  | _ :: _, [], h => by cases h
theorem lotB_ok {K : PySem.W.Frag} {l : Addr} {lot : List Turn} (h : lotB K l lot = true) : LotK K l lot := ⟨refsIn K l, tupB_ok (He.ba h).1, turnsB_ok (He.ba h).2⟩
theorem lotsB_ok {K : PySem.W.Frag} {w : World} {d : Addr} {es : Array DictEntry} {n : Nat} (h : lotsB K d = true) (D : KDict K w d es n) : (∀ z, ∃ r, PySem.W.nsIn K d z = some r ∧ r.isSome = wordsD.contains z) ∧ ∀ z, wordsD.contains z = true → ∃ l, KDct K w d z (.ref l) ∧ LotK K l (lotOf z) := by
  obtain ⟨h1, h2⟩ := He.ba h
  refine ⟨keysB_ok h1, fun z hz => ?_⟩
  obtain ⟨h3, h4⟩ := He.ba (List.all_eq_true.mp h2 z (List.contains_iff_mem.mp hz))
  exact ⟨_, ⟨es, n, _, D.at_, D.lit, He.eqO_ok h3, rfl⟩, lotB_ok h4⟩
def errsB (K : PySem.W.Frag) (xs : List Str) : Bool := xs.all (fun x => ercB K bVE x "given" && (decide (PySem.W.typeIn K (.ref (He.ga K x)) = some (.type "type")) && (xfB K (He.ga K x) && (He.Fa.noat x "given").ok K))) &&
  xs.all fun x => xs.all fun y => decide (PySem.W.exmOne K (.ref (He.ga K x)) (.ref (He.ga K y)) = some (x == y))
theorem errsB_ok {K : PySem.W.Frag} {xs : List Str} (h : errsB K xs = true) : (∀ x ∈ xs, ercB K bVE x "given" = true ∧ PySem.W.typeIn K (.ref (He.ga K x)) = some (.type "type") ∧ XfC K (He.ga K x) ∧ PySem.W.findIn K (.ref (He.ga K x)) "given" = some none) ∧
    ∀ x ∈ xs, ∀ y ∈ xs, PySem.W.exmOne K (.ref (He.ga K x)) (.ref (He.ga K y)) = some (x == y) := by
  obtain ⟨h1, h2⟩ := He.ba h
  refine ⟨fun x hx => ?_, fun x hx y hy => of_decide_eq_true (List.all_eq_true.mp (List.all_eq_true.mp h2 x hx) y hy)⟩
  obtain ⟨a, q⟩ := He.ba (List.all_eq_true.mp h1 x hx)
  obtain ⟨b, q⟩ := He.ba q
  obtain ⟨c, d⟩ := He.ba q
  exact ⟨a, of_decide_eq_true b, xfB_ok c, He.noat_ok d⟩
section
variable {P : Program} {w : World} {K : PySem.W.Frag} {mg : Str → Option Value} {base : Heap} {fi : Addr} {fdi : FuncData}
abbrev FunK (K : PySem.W.Frag) (x q : Str) (st : Stmt) (kws : List (Str × V)) (f : Addr) (fd : FuncData) : Prop := FunD K x q (defArgs st) (defBody st) (defScope st) [] kws f fd
theorem kinit_binds (F : FunK K "__init__" "Kind.__init__" s_kinit [("calm", .bl false)] fi fdi) : KBn K fdi kps 2 ["calm"] (fun us ws => us ++ ws) (fun us ws => us ++ ws) ∧ KBn K fdi kps 1 ["turns", "calm"] (fun us ws => us ++ ws) (fun us ws => us ++ ws) ∧
    KBn K fdi kps 1 ["calm", "turns"] (fun us ws => us ++ ws.reverse) (fun us ws => us ++ ws.reverse) ∧ (∃ ds, Vals [V.bl false] ds ∧ Binds K fdi kps ds) ∧ (∃ dv, KBn K fdi kps 1 ["turns"] (fun us ws => us ++ (ws ++ dv)) (fun us ws => us ++ (ws ++ [.bl false]))) := by
  refine ⟨?_, ?_, ?_, ?_, ?_⟩
  · obtain ⟨mv, h⟩ := FunD.kbinds0 (ps := kps) F 2 ["calm"] [] (fun us _ ws => us ++ ws) (by simp) (by simp) (fun r1 _ r3 => r1.append r3) fun D doc pm an cdv ct us mv ws l1 l2 l3 => match us, mv, ws, l1, l2, l3 with
      | [_, _], [], [_], _, _, _ => rfl
    exact h
  · obtain ⟨mv, h⟩ := FunD.kbinds0 (ps := kps) F 1 ["turns", "calm"] [] (fun us _ ws => us ++ ws) (by simp) (by simp) (fun r1 _ r3 => r1.append r3) fun D doc pm an cdv ct us mv ws l1 l2 l3 => match us, mv, ws, l1, l2, l3 with
      | [_], [], [_, _], _, _, _ => rfl
    exact h
  · have rev : ∀ {vs : List V} {us : List Value}, Vals vs us → Vals vs.reverse us.reverse := fun {vs us} r => by
      induction r with
      | nil => exact .nil
      | cons a _ ih =>
        rw [List.reverse_cons, List.reverse_cons]
        exact ih.append (.cons a .nil)
    obtain ⟨mv, h⟩ := FunD.kbinds0 (ps := kps) F 1 ["calm", "turns"] [] (fun us _ ws => us ++ ws.reverse) (by simp) (by simp) (fun r1 _ r3 => r1.append (rev r3)) fun D doc pm an cdv ct us mv ws l1 l2 l3 => match us, mv, ws, l1, l2, l3 with
      | [_], [], [_, _], _, _, _ => rfl
    exact h
  · exact FunD.binds0 (ps := kps) F 2 (by simp) rfl fun D doc pm an cdv ct us ks l1 l2 => match us, ks, l1, l2 with
      | [_, _], [_], _, _ => ⟨_, _, _, _, _, _, rfl, rfl, rfl⟩
  · exact FunD.kbinds0 (ps := kps) F 1 ["turns"] [("calm", .bl false)] (fun us mz ws => us ++ (ws ++ mz)) (by simp) (by simp) (fun r1 r2 r3 => r1.append (r3.append r2)) fun D doc pm an cdv ct us mv ws l1 l2 l3 => match us, mv, ws, l1, l2, l3 with
      | [_], [_], [_], _, _, _ => ⟨_, _, _, _, _, _, rfl, rfl, rfl⟩
end
/-! ### Beginning at the head -/
def e0A (K : PySem.W.Frag) : Addr := He.dflAt ("Beginning", some "__init__") 0 K
def othB (K : PySem.W.Frag) (a : Addr) : Bool := match refsIn K a with
  | [b0, b1, b2] => tupB K a [.ref b0, .ref b1, .ref b2] && (tupB K b0 [.int 1, .int 2] && (tupB K b1 [.int 0, .int 2] && tupB K b2 [.int 0, .int 1]))
  | _ => false
theorem othB_ok {K : PySem.W.Frag} {a : Addr} (h : othB K a = true) : ∃ b0 b1 b2 : Addr, (∀ H, SqT K H a [.ref b0, .ref b1, .ref b2]) ∧ (∀ H, SqT K H b0 [.int 1, .int 2]) ∧ (∀ H, SqT K H b1 [.int 0, .int 2]) ∧ ∀ H, SqT K H b2 [.int 0, .int 1] := by
  unfold othB at h
  split at h
  · rename_i b0 b1 b2 _
    obtain ⟨h1, h⟩ := He.ba h
    obtain ⟨h2, h⟩ := He.ba h
    obtain ⟨h3, h4⟩ := He.ba h
    exact ⟨b0, b1, b2, tupB_ok h1, tupB_ok h2, tupB_ok h3, tupB_ok h4⟩
  · cases h
def idxB (K : PySem.W.Frag) (x : Str) : Bool := ercB K bVE x "index" && decide (PySem.W.typeIn K (.ref (He.ga K x)) = some (.type "type"))
def tmB (K : PySem.W.Frag) : Bool := ercB K bAE "TooMany" "limit" && decide (PySem.W.typeIn K (.ref (He.ga K "TooMany")) = some (.type "type"))
end L2.K19
set_option Elab.async false
set_option linter.all false
set_option maxRecDepth 100000
set_option maxHeartbeats 0
namespace L2.K19
open PySem PySem.Spec PyProof.Rows L2.Tb
/-! ### the head -/
def frees : List Str := [("len" : Str), ("int" : Str), ("abs" : Str), ("divmod" : Str), ("isinstance" : Str), ("tuple" : Str), ("list" : Str), ("bool" : Str), ("all" : Str), ("zip" : Str), ("range" : Str), ("max" : Str), ("min" : Str), ("enumerate" : Str), ("repr" : Str), ("sorted" : Str), ("ValueError" : Str), ("LookupError" : Str), ("ArithmeticError" : Str), ("str" : Str), ("set" : Str)]
def gloL : List Str := [("InvalidTurns" : Str), ("InvalidFlag" : Str), ("NotAKind" : Str), ("InvalidName" : Str), ("NotAFormula" : Str), ("InvalidFacts" : Str), ("TooMany" : Str), ("Kind" : Str), ("LOTS" : Str), ("OTHERS" : Str), ("Formula" : Str), ("Table" : Str), ("is_integer" : Str), ("is_triple" : Str), ("is_name" : Str), ("letter" : Str), ("signed_triple" : Str), ("check_formula" : Str), ("check_facts" : Str), ("_is_fact" : Str), ("_signed" : Str), ("_replaced" : Str), ("_in_order" : Str), ("check_kind" : Str)] ++ [("all_parts" : Str), ("part_numbers" : Str), ("operation_triples" : Str), ("turned" : Str), ("in_classes" : Str), ("closed" : Str), ("merged" : Str), ("_merged_once" : Str), ("follows" : Str), ("_pair_table" : Str), ("_law_purse" : Str), ("_law_pick" : Str), ("_law_kind" : Str), ("_law_turns" : Str), ("_law_images" : Str), ("_law_names" : Str), ("_law_form" : Str), ("_law_made" : Str), ("_law_parts" : Str), ("_law_triple" : Str), ("_law_rows" : Str), ("_law_joined" : Str), ("_law_marks" : Str), ("_law_facts" : Str)] ++ [("_law_wider" : Str), ("_law_pair" : Str), ("_law_size" : Str), ("_law_sides" : Str), ("_law_told_facts" : Str), ("_law_right" : Str), ("law" : Str)]
def errL : List Str := ["InvalidTurns", "InvalidFlag", "NotAKind", "InvalidName", "NotAFormula"]

def factB (K : PySem.W.Frag) : Bool := gloL.all (fun x => (He.Fa.glo x).ok K) && (frees.all (fun x => (He.Fa.free x).ok K) && (errsB K errL && ((He.Fa.str "_CALM" "calm ").ok K && (kindB K (He.ga K "Kind") && (lotsB K (He.ga K "LOTS") && (othB K (He.ga K "OTHERS") && (idxB K "InvalidFacts" && (tmB K && ((He.Fa.str "_LETTERS" "abcdefghijklmnopqrstuvwxyz").ok K && ((He.Fa.str "_DIGITS" "0123456789").ok K && ((He.Fa.int "_LONGEST_NAME" 8).ok K && ((He.Fa.int "MOST_OPERATIONS" 8).ok K && ((He.Fa.int "MOST_FACTS" 4).ok K && ((He.Fa.cls "Formula").ok K && ((He.Fa.noat "Formula" "_sign").ok K && ((He.Fa.noat "Formula" "_name").ok K && ((He.Fa.noat "Formula" "_left").ok K && ((He.Fa.noat "Formula" "_right").ok K && ((He.Fa.noat "Formula" "_text").ok K && ((He.Fa.noat "Formula" "_signs").ok K && ((He.Fa.noat "Formula" "_inner").ok K && ((He.Fa.mkr "Formula").ok K && (insB K (He.ga K "Formula") && (decide (PySem.W.kitOne K (.ref (He.ga K "Formula")) (.ref (He.ga K "Formula")) = some true) && (He.eqO (PySem.W.findIn K (.ref (He.ga K "Formula")) "__format__") (some (some (.builtin "object.__format__"))) && ((He.Fa.meth "Formula" "__mul__").ok K && ((He.Fa.meth "Formula" "__floordiv__").ok K && ((He.Fa.meth "Formula" "__rshift__").ok K && ((He.Fa.meth "Formula" "__len__").ok K && ((He.Fa.meth "Formula" "__str__").ok K && (propB K (He.ga K "Formula") "sign" && (propB K (He.ga K "Formula") "name" && (propB K (He.ga K "Formula") "left" && (propB K (He.ga K "Formula") "right" && (propB K (He.ga K "Formula") "parts" && (PySem.W.selfFirst K (He.ga K "Formula") && (He.eqO (PySem.W.findIn K (.ref (He.ga K "Formula")) (dunderR Operator.Mult.info.2)) (some none) && (He.eqO (PySem.W.findIn K (.ref (He.ga K "Formula")) (dunderR Operator.FloorDiv.info.2)) (some none) && (He.eqO (PySem.W.findIn K (.ref (He.ga K "Formula")) (dunderR Operator.RShift.info.2)) (some none) && ((He.Fa.cls "Table").ok K && ((He.Fa.noat "Table" "_kind").ok K && ((He.Fa.noat "Table" "_letters").ok K && ((He.Fa.noat "Table" "_things").ok K && ((He.Fa.noat "Table" "_count").ok K && ((He.Fa.noat "Table" "_triples").ok K && ((He.Fa.noat "Table" "_mergings").ok K && ((He.Fa.mkr "Table").ok K && ((He.Fa.meth "Table" "thing").ok K && ((He.Fa.meth "Table" "alike").ok K)))))))))))))))))))))))))))))))))))))))))))))))))
def dIn (at_ : PySem.W.Frag → Addr) (x q : Str) (st : Stmt) (kw : List (Str × He.Dv)) : He5.DefA := ⟨at_, x, q, defArgs st, defBody st, defScope st, [], kw⟩
def dTop (x : Str) (i : Nat) : He5.DefA := dIn (fun K => He.fAd K (x, none)) x x (top i) []
def fnA1 : List He5.DefA := [dTop "is_integer" 17, dTop "is_triple" 18, dTop "is_name" 19, dTop "letter" 24, dTop "signed_triple" 26, dTop "check_formula" 27, dTop "check_facts" 28, dTop "_is_fact" 29, dTop "_signed" 30, dTop "_replaced" 31, dTop "_in_order" 32, dTop "check_kind" 40, dTop "all_parts" 45, dTop "part_numbers" 46, dTop "operation_triples" 47, dTop "turned" 48, dTop "in_classes" 49, dTop "closed" 50, dTop "merged" 51, dTop "_merged_once" 52, dTop "follows" 54, dTop "_pair_table" 55, dTop "_law_purse" 57, dTop "_law_pick" 58] ++ [dTop "_law_kind" 59, dTop "_law_turns" 60, dTop "_law_images" 61, dTop "_law_names" 62, dTop "_law_form" 63, dTop "_law_made" 64, dTop "_law_parts" 65, dTop "_law_triple" 66, dTop "_law_rows" 67, dTop "_law_joined" 68, dTop "_law_marks" 69, dTop "_law_facts" 70, dTop "_law_wider" 71, dTop "_law_pair" 72, dTop "_law_size" 73, dTop "_law_sides" 74, dTop "_law_told_facts" 75, dTop "_law_right" 76, dTop "law" 77]
def fnA2 : List He5.DefA := [dIn (fun K => He.ma K (He.ga K "InvalidTurns") "__init__") "__init__" "InvalidTurns.__init__" (inClass (top 6) 0) [], dIn (fun K => He.ma K (He.ga K "InvalidFlag") "__init__") "__init__" "InvalidFlag.__init__" (inClass (top 5) 0) [], dIn (fun K => He.ma K (He.ga K "NotAKind") "__init__") "__init__" "NotAKind.__init__" (inClass (top 8) 0) [], dIn (fun K => He.ma K (He.ga K "InvalidName") "__init__") "__init__" "InvalidName.__init__" (inClass (top 3) 0) [], dIn (fun K => He.ma K (He.ga K "NotAFormula") "__init__") "__init__" "NotAFormula.__init__" (inClass (top 9) 0) [], dIn (fun K => He.ma K (He.ga K "InvalidFacts") "__init__") "__init__" "InvalidFacts.__init__" (inClass (top 10) 0) [], dIn (fun K => He.ma K (He.ga K "TooMany") "__init__") "__init__" "TooMany.__init__" (inClass (top 12) 0) [], dIn (fun K => He.ma K (He.ga K "Kind") "__init__") "__init__" "Kind.__init__" (inClass (top 39) 0) [("calm", .bl false)], dIn (fun K => pAd K (He.ga K "Kind") "calm") "calm" "Kind.calm" (inClass (top 39) 3) [], dIn (fun K => pAd K (He.ga K "Kind") "lot") "lot" "Kind.lot" (inClass (top 39) 4) [], dIn (fun K => He.ma K (He.ga K "Formula") "__init__") "__init__" "Formula.__init__" (inClass (top 25) 0) [], dIn (fun K => He.ma K (He.ga K "Formula") "__mul__") "__mul__" "Formula.__mul__" (inClass (top 25) 9) [], dIn (fun K => He.ma K (He.ga K "Formula") "__floordiv__") "__floordiv__" "Formula.__floordiv__" (inClass (top 25) 10) [], dIn (fun K => He.ma K (He.ga K "Formula") "__rshift__") "__rshift__" "Formula.__rshift__" (inClass (top 25) 11) [], dIn (fun K => He.ma K (He.ga K "Formula") "__len__") "__len__" "Formula.__len__" (inClass (top 25) 13) [], dIn (fun K => He.ma K (He.ga K "Formula") "__str__") "__str__" "Formula.__str__" (inClass (top 25) 16) [], dIn (fun K => pAd K (He.ga K "Formula") "sign") "sign" "Formula.sign" (inClass (top 25) 2) [], dIn (fun K => pAd K (He.ga K "Formula") "name") "name" "Formula.name" (inClass (top 25) 3) [], dIn (fun K => pAd K (He.ga K "Formula") "left") "left" "Formula.left" (inClass (top 25) 4) [], dIn (fun K => pAd K (He.ga K "Formula") "right") "right" "Formula.right" (inClass (top 25) 5) [], dIn (fun K => pAd K (He.ga K "Formula") "parts") "parts" "Formula.parts" (inClass (top 25) 7) [], dIn (fun K => He.ma K (He.ga K "Table") "__init__") "__init__" "Table.__init__" (inClass (top 44) 0) [], dIn (fun K => He.ma K (He.ga K "Table") "thing") "thing" "Table.thing" (inClass (top 44) 1) [], dIn (fun K => He.ma K (He.ga K "Table") "alike") "alike" "Table.alike" (inClass (top 44) 2) []]
def fnA : List He5.DefA := fnA1 ++ fnA2
def tabL : List He.Tab := [(fun K => He.ga K "LOTS", wordsD)]
def cdL : List He.Defn := []
abbrev hookX : PySem.W.Hook := hookH 5 factB fnA tabL cdL
abbrev R : PySem.W.OpenRow := PySem.W.OpenLaw.row PySem.Challenge.rw_thirdback_k19_whole_alike_by_own_closing
def ob (s : PySem.W.SharedT) : AlH := obsH 5 factB fnA tabL cdL (HandSHeadRun.getT s)
theorem ob_eq (s : PySem.W.SharedT) : ob s = hookX.obs s.abs := obH_eq s
def looseN : List Str := [("WrongValue" : Str), ("InvalidName" : Str), ("InvalidText" : Str), ("InvalidFlag" : Str), ("InvalidTurns" : Str), ("InvalidTriple" : Str), ("NotAKind" : Str), ("NotAFormula" : Str), ("InvalidFacts" : Str), ("NoAnswer" : Str), ("TooMany" : Str), ("Formula" : Str), ("Kind" : Str), ("Table" : Str), ("_LETTERS" : Str), ("_DIGITS" : Str), ("_LONGEST_NAME" : Str), ("MOST_OPERATIONS" : Str), ("MOST_FACTS" : Str), ("SIGNS" : Str), ("LOTS" : Str), ("OTHERS" : Str), ("_CALM" : Str), ("_wall" : Str)] ++ [("is_integer" : Str), ("is_triple" : Str), ("is_name" : Str), ("letter" : Str), ("signed_triple" : Str), ("check_formula" : Str), ("check_facts" : Str), ("_is_fact" : Str), ("_signed" : Str), ("_replaced" : Str), ("_in_order" : Str), ("_parsed" : Str), ("_closed" : Str), ("check_kind" : Str), ("_holds" : Str), ("_least_lot" : Str), ("all_parts" : Str), ("part_numbers" : Str), ("operation_triples" : Str), ("turned" : Str), ("in_classes" : Str), ("closed" : Str), ("merged" : Str), ("_merged_once" : Str)] ++ [("follows" : Str), ("_pair_table" : Str), ("_law_purse" : Str), ("_law_pick" : Str), ("_law_kind" : Str), ("_law_turns" : Str), ("_law_images" : Str), ("_law_names" : Str), ("_law_form" : Str), ("_law_made" : Str), ("_law_parts" : Str), ("_law_triple" : Str), ("_law_rows" : Str), ("_law_joined" : Str), ("_law_marks" : Str), ("_law_facts" : Str), ("_law_wider" : Str), ("_law_pair" : Str), ("_law_size" : Str), ("_law_sides" : Str), ("_law_told_facts" : Str), ("_law_right" : Str)]
theorem run_f (w : World) : HandSHeadRun.RunEq R (PySem.W.view R.prog [77]) hookX ob 20000 looseN (w.withFollow "special-get-raises" false) := fun os => by kernel_rfl
theorem run_t (w : World) : HandSHeadRun.RunEq R (PySem.W.view R.prog [77]) hookX ob 20000 looseN (w.withFollow "special-get-raises" true) := fun os => by kernel_rfl
theorem run (w : World) : HandSHeadRun.RunEq R (PySem.W.view R.prog [77]) hookX ob 20000 looseN w :=
  PySem.W.byRow2 "special-get-raises" (P := fun w => HandSHeadRun.RunEq R (PySem.W.view R.prog [77]) hookX ob 20000 looseN w) run_f run_t w
end L2.K19
set_option Elab.async false
set_option linter.all false
set_option maxRecDepth 100000
set_option maxHeartbeats 8000000
namespace L2.K19
open PySem PySem.Spec PyProof.Rows L2.Tb
open SX (S)
/-! ### drawn names -/
def lowB (c : Nat) : Bool := Nat.ble 97 c && Nat.ble c 122
def signB (c : Nat) : Bool := lowB c || (Nat.ble 48 c && Nat.ble c 57)
/-- a right name -/
def nameB : List Nat → Bool
  | [] => false
  | c :: r => lowB c && (Nat.ble r.length 7 && r.all signB)
theorem nameB_snoc {l : List Nat} {c : Nat} (h : nameB l = true) (hl : l.length ≤ 7) (hc : signB c = true) : nameB (l ++ [c]) = true := by
  cases l with
  | nil => cases h
  | cons a r =>
    simp only [nameB, Bool.and_eq_true, Nat.ble_eq] at h
    simp only [List.cons_append, nameB, Bool.and_eq_true, Nat.ble_eq, List.length_append, List.length_singleton, List.all_append, List.all_cons, List.all_nil, Bool.and_true]
    have : (a :: r).length = r.length + 1 := rfl
    exact ⟨h.1, by omega, h.2.2, hc⟩
theorem nameB_len {l : List Nat} (h : nameB l = true) : 1 ≤ l.length ∧ l.length ≤ 8 := by
  cases l with
  | nil => cases h
  | cons a r =>
    simp only [nameB, Bool.and_eq_true, Nat.ble_eq] at h
    have : (a :: r).length = r.length + 1 := rfl
    omega
theorem low_at : ∀ k : Nat, k < 26 → (Str.ofString "abcdefghijklmnopqrstuvwxyz").cps.toList[k]? = some (97 + k) := by decide +kernel
def signAt (k : Nat) : Nat := if k < 26 then 97 + k else 22 + k
theorem sign_at : ∀ k : Nat, k < 36 → (Str.ofString "abcdefghijklmnopqrstuvwxyz0123456789").cps.toList[k]? = some (signAt k) ∧ signB (signAt k) = true := by decide +kernel
theorem str_S (z : Str) : z = S z.cps.toList := by
  obtain ⟨a⟩ := z
  simp
theorem nodup_sub {α : Type} [DecidableEq α] : ∀ {l m : List α}, l.Nodup → (∀ x ∈ l, x ∈ m) → l.length ≤ m.length
  | [], _, _, _ => Nat.zero_le _
  | a :: l, m, h, s => by
    have ha := s a List.mem_cons_self
    have hn := List.nodup_cons.mp h
    have ih := nodup_sub (m := m.erase a) hn.2 fun x hx => (List.mem_erase_of_ne (fun e => hn.1 (by rw [← e]; exact hx))).mpr (s x (List.mem_cons_of_mem _ hx))
    rw [List.length_erase_of_mem ha] at ih
    have := List.length_pos_of_mem ha
    rw [List.length_cons]
    omega
def nmV (l : List Nat) : V := .str (S l)
theorem nmV_inj {a b : List Nat} (h : nmV a = nmV b) : a = b := by
  unfold nmV at h
  injection h with h
  exact SX.S_inj h
theorem inV_names {a : List Nat} : ∀ {ls : List (List Nat)}, inV (nmV a) (ls.map nmV) = decide (a ∈ ls)
  | [] => by simp [inV]
  | l :: ls => by
    have ih := inV_names (a := a) (ls := ls)
    unfold inV at ih ⊢
    rw [List.map_cons, List.any_cons, ih]
    by_cases c : l = a
    · subst c
      simp [eqV, nmV]
    · have c2 : ¬ a = l := fun e => c e.symm
      have c3 : (S l == S a) = false := beq_eq_false_iff_ne.mpr fun e => c (SX.S_inj e)
      simp [eqV, nmV, c3, c2]
theorem names_flat (ls : List (List Nat)) : (ls.map nmV).all flatV = true := List.all_eq_true.mpr fun x hx => by
  obtain ⟨z, _, rfl⟩ := List.mem_map.mp hx
  rfl
theorem paired_app {α β : Type} {R : α → β → Prop} : ∀ {xs xs' : List α} {ys ys' : List β}, Paired R xs ys → Paired R xs' ys' → Paired R (xs ++ xs') (ys ++ ys')
  | _, _, _, _, .nil, h => h
  | _, _, _, _, .cons r t, h => .cons r (paired_app t h)
abbrev s_is_name : Stmt := top 19
abbrev N_is_name : List Str := ["value", "sign"]
theorem sc_is_name : FnScope N_is_name ["value"] (defScope s_is_name) := ⟨rfl, rfl, rfl, by decide +kernel, rfl, by decide +kernel, by decide +kernel⟩
def lettersS : Str := "abcdefghijklmnopqrstuvwxyz"
def digitsS : Str := "0123456789"
/-- the constants of the checks -/
structure ChF (mg : Str → Option Value) : Prop where
  mL : ∃ t, mg "_LETTERS" = some (.str lettersS t)
  mD : ∃ t, mg "_DIGITS" = some (.str digitsS t)
  mM : ∃ t, mg "_LONGEST_NAME" = some (.int 8 t)
def digB (c : Nat) : Bool := Nat.ble 48 c && Nat.ble c 57
theorem low_in {c : Nat} (h : lowB c = true) : c ∈ lettersS.cps.toList := by
  simp only [lowB, Bool.and_eq_true, Nat.ble_eq] at h
  have e := low_at (c - 97) (by omega)
  rw [show 97 + (c - 97) = c by omega] at e
  exact List.mem_of_getElem? e
theorem dig_at : ∀ k : Nat, k < 10 → digitsS.cps.toList[k]? = some (48 + k) := by decide +kernel
theorem dig_in {c : Nat} (h : digB c = true) : c ∈ digitsS.cps.toList := by
  simp only [digB, Bool.and_eq_true, Nat.ble_eq] at h
  have e := dig_at (c - 48) (by omega)
  rw [show 48 + (c - 48) = c by omega] at e
  exact List.mem_of_getElem? e
theorem low_eq (c : Nat) : decide (c ∈ lettersS.cps.toList) = lowB c := by
  have all : ∀ c ∈ lettersS.cps.toList, lowB c = true := by decide +kernel
  cases h : lowB c with
  | true => exact decide_eq_true (low_in h)
  | false => exact decide_eq_false fun m => by rw [all c m] at h; cases h
theorem dig_eq (c : Nat) : decide (c ∈ digitsS.cps.toList) = digB c := by
  have all : ∀ c ∈ digitsS.cps.toList, digB c = true := by decide +kernel
  cases h : digB c with
  | true => exact decide_eq_true (dig_in h)
  | false => exact decide_eq_false fun m => by rw [all c m] at h; cases h
theorem slenB {l : List Nat} (h : l.length ≤ 100000) : (S l).length ≤ sizeLine := by
  rw [SX.S_len, sizeLine_eq]
  omega
theorem nameB_cons (a : Nat) (r : List Nat) (h : (a :: r).length ≤ 8) : nameB (a :: r) = (lowB a && (a :: r).all signB) := by
  have hr : Nat.ble r.length 7 = true := Nat.ble_eq.mpr (by simp only [List.length_cons] at h; omega)
  rw [nameB, hr, Bool.true_and, List.all_cons]
  cases c : lowB a with
  | true => rw [show signB a = true by unfold signB; rw [c]; rfl, Bool.true_and, Bool.true_and]
  | false => rfl
/-- any text, or what is none -/
def spIsName (K : PySem.W.Frag) : Sp := fun vs H Q _ => ∃ v : V, vs = [v] ∧ ((∃ l : List Nat, v = .str (S l) ∧ l.length ≤ 10000 ∧ ∀ H', Same H H' → Q (.bl (nameB l)) H') ∨ (NoS K H v ∧ Q (.bl false) H))
section
variable {P : Program} {w : World} {K : PySem.W.Frag} {mg : Str → Option Value} {base : Heap} {f : Addr} {fd : FuncData}
theorem and_go {ta tb : TE} {σ : St} {H : Hp} {Q : VK} (h : ta σ H fun x H1 => ∃ c, x = .bl c ∧ if c = true then tb σ H1 Q else Q (.bl false) H1) : tAndV ta tb σ H Q := h
theorem c_is_name (T : Bt mg) (mstr : mg "str" = none) (CF : ChF mg) (F : FnP K "is_name" s_is_name f fd) (hm : mg "is_name" = some (.ref f)) : Cal P w K mg base 1 "is_name" (spIsName K) := by
  have hnd := sc_is_name.nd
  obtain ⟨tl, hl⟩ := CF.mL
  obtain ⟨td, hdg⟩ := CF.mD
  obtain ⟨tm, hmx⟩ := CF.mM
  refine cal_mk F hm sc_is_name (fun _ _ _ _ _ _ us hl => match us, hl with | [_], _ => rfl) (fun vs H Q E h => ?_) (fun cdv A outer s H vs Q E hr h => ?_)
  · obtain ⟨v, rfl, _⟩ := h
    rfl
  · obtain ⟨v, rfl, h⟩ := h
    refine ⟨_, (pss_cons (ps_if (PW.pt (pw_or (pt_not (pt_val (pe_callB call_isi (by rfl) T.m_isinstance (by decide +kernel) (pa_cons (pv 0) (pa_cons (pe_bltn (v := .ty "str") (by rfl) mstr (by decide +kernel) rfl) pa_nil))))) (pw_or1 (pt_not (pt_chain op_le op_le pe_int (pe_callB call_len_str (by rfl) T.m_len (by decide +kernel) (pa_cons (pv 0) pa_nil)) (pe_glob (v := .int 8) (by rfl) hmx ⟨_, rfl⟩))))))
      (pss_one (ps_ret pe_bl))
      pss_nil)
      (pss_one (ps_ret (pe_and (pe_cmpR op_in_sign (pe_ix ix_str (pv 0) pe_int (fun _ _ => rfl)) (pe_glob (v := .str lettersS) (by rfl) hl ⟨_, rfl⟩) (by rfl)) (pe_one (pe_callB (cr_all (by rfl)) (by rfl) T.m_all (by decide +kernel) (pa_cons (pe_lc (own := [("sign", 1)]) (tt := tYes) (by rfl) hnd (pi_str (pv 0)) (blkOk_by (own := [("sign", 1)]) (N := N_is_name) (sc := defScope s_is_name) (by decide +kernel)) (fun _ _ _ _ _ => (pg_name (i := 1) hnd rfl (by first | exact Or.inl rfl | exact Or.inr rfl))) (fun _ _ _ _ _ => pts_nil) (fun _ _ _ _ _ => (pe_or (pe_cmpR op_in_sign (pv 1) (pe_glob (v := .str lettersS) (by rfl) hl ⟨_, rfl⟩) (by rfl)) (pe_one (pe_cmpR op_in_sign (pv 1) (pe_glob (v := .str digitsS) (by rfl) hdg ⟨_, rfl⟩) (by rfl)))))) pa_nil))))))), ?_⟩
    rcases h with ⟨l, rfl, l4, q⟩ | ⟨hb, q⟩
    · have sl := slenB (l := l) (by omega)
      refine ⟨_, rfl, _, _, _, _, _, rfl, .ty _, .base (.str _), (by rfl : PySem.W.kitOne K (.type "str") (.type "str") = some true), _, rfl, iteF ?_⟩
      refine ⟨_, rfl, _, rfl, sl, _, _, rfl, rfl, _, rfl, ?_⟩
      rw [SX.S_len]
      by_cases c1 : 1 ≤ l.length
      · rw [decide_eq_true (show (1 : Int) ≤ (l.length : Nat) by omega)]
        refine iteT ⟨_, _, rfl, rfl, _, rfl, ?_⟩
        show if (!decide (((l.length : Nat) : Int) ≤ 8)) = true then _ else _
        by_cases c8 : l.length ≤ 8
        · rw [decide_eq_true (show ((l.length : Nat) : Int) ≤ 8 by omega)]
          refine iteF ?_
          dsimp only [tNext]
          obtain ⟨a, r, rfl⟩ : ∃ a r, l = a :: r := by
            cases l with
            | nil => exact absurd c1 (by decide)
            | cons a r => exact ⟨a, r, rfl⟩
          refine ret_go ?_
          refine and_go ?_
          refine ⟨_, rfl, S (a :: r), 0, a, rfl, rfl, sl, atI_nat (j := 0) rfl, a, _, rfl, rfl, _, rfl, ?_⟩
          rw [low_eq]
          cases ca : lowB a with
          | false =>
            refine iteF ?_
            have := q H (Same.refl _)
            rw [nameB_cons a r c8, ca] at this
            exact this
          | true =>
            refine iteT (cb_one ⟨_, rfl, S (a :: r), rfl, fun D nD => ?_⟩)
            refine lc_it walk_str (fun i G => Same H G ∧ G D = some (.lst (((a :: r).take i).map fun c => .bl (signB c)))) ⟨same_new nD, upd_same⟩ (fun _ _ _ _ => trivial) ?_ ?_
            · rintro i x G G' hi ⟨sg, eg⟩ ⟨rfl, c, hc, rfl⟩
              have hc' : (a :: r)[i]? = some c := by simpa using hc
              have li : i < (a :: r).length := (List.getElem?_eq_some_iff.mp hc').1
              refine ⟨rfl, ?_⟩
              unfold tYes
              dsimp only
              rw [if_pos rfl]
              have fin : ∃ acc, G' D = some (.lst acc) ∧ acc.length < sizeLine ∧ (Same H (upd G' D (.lst (acc ++ [V.bl (signB c)]))) ∧ upd G' D (.lst (acc ++ [V.bl (signB c)])) D = some (.lst (((a :: r).take (i + 1)).map fun c => .bl (signB c)))) :=
                ⟨_, eg, by rw [List.length_map, List.length_take, sizeLine_eq]; omega, same_pt nD sg, by rw [upd_same, List.take_add_one, hc', List.map_append]; rfl⟩
              refine ⟨_, rfl, c, _, rfl, rfl, _, rfl, ?_⟩
              rw [low_eq]
              cases c1 : lowB c with
              | true =>
                rw [show signB c = true by unfold signB; rw [c1]; rfl] at fin
                exact iteT fin
              | false =>
                rw [show signB c = digB c by unfold signB digB; rw [c1]; rfl] at fin
                refine iteF ⟨_, rfl, c, _, rfl, rfl, ?_⟩
                rw [dig_eq]
                exact fin
            · rintro G ⟨sg, eg⟩
              rw [show (S (a :: r)).cps.size = (a :: r).length from by simp, List.take_length] at eg
              refine ⟨D, (a :: r).map signB, rfl, SqL.of (by rw [eg, List.map_map]; rfl), ?_⟩
              have := q G sg
              rw [nameB_cons a r c8, ca, Bool.true_and] at this
              rw [List.all_map]
              exact this
        · rw [decide_eq_false (show ¬ ((l.length : Nat) : Int) ≤ 8 by omega)]
          refine iteT ?_
          have := q H (Same.refl _)
          rw [show nameB l = false from by
            cases e : nameB l with
            | false => rfl
            | true => exact absurd (nameB_len e).2 c8] at this
          exact this
      · rw [decide_eq_false (show ¬ (1 : Int) ≤ (l.length : Nat) by omega)]
        refine iteF ⟨_, rfl, iteT ?_⟩
        have := q H (Same.refl _)
        rw [show l = [] from List.eq_nil_of_length_eq_zero (by omega)] at this
        exact this
    · obtain ⟨T0, ty, k⟩ := hb.ex
      exact ⟨_, rfl, _, _, _, _, _, rfl, .ty _, ty, k, _, rfl, iteT (iteT q)⟩
end
end L2.K19
set_option Elab.async false
set_option linter.all false
set_option maxRecDepth 100000
set_option maxHeartbeats 4000000
/-! if and for in a generator's body -/
namespace L2.Tb
open PySem PySem.Spec PyProof.Rows
section
variable {X : Cx} {test : Expr} {body orelse : List Stmt} {pos : Pos} {tc : TT} {tb to : TGn}
def tGIf (c : TT) (tb to : TGn) : TGn := fun D ys σ H => c σ H fun b H1 => if b = true then tb D ys σ H1 else to D ys σ H1
theorem gs_if (hc : PT X test tc) (hb : GSs X body tb) (ho : GSs X orelse to) : GS X (.If test body orelse pos) (tGIf tc tb to) := by
  refine ⟨fun A S ip R n ys s₀ c fs K J gd lv s σ H D g hn k hI ht => ?_⟩
  obtain ⟨acc, cc, r, I⟩ := id hI
  show Seg _ _ _ _ _ _ _ (.at pos fun _ => (isTrue test X.env (eval test X.env) >>= fun b => if b then execs body X.env else execs orelse X.env).wrap K J gd lv) _ _
  refine seg_at (seg_bind_wrap ?_)
  rw [g.over]
  refine wpAny_mono (hc.run _ s σ H _ I ht) (fun b s' hb' => ?_) fun x s' hx => k.exc n s₀ x s' hx
  obtain ⟨H2, I2, q2⟩ := hb'
  cases b with
  | true =>
    rw [if_pos rfl] at q2
    exact hb.run A S ip R n ys s₀ c fs K J gd lv s' σ H2 D g hn k ⟨acc, cc, r, I2⟩ q2
  | false =>
    rw [if_neg Bool.false_ne_true] at q2
    exact ho.run A S ip R n ys s₀ c fs K J gd lv s' σ H2 D g hn k ⟨acc, cc, r, I2⟩ q2
end
section
variable {X : Cx} {tg iter : Expr} {body : List Stmt} {pos : Pos} {wi : TI} {gt : TG} {tb : TGn}
def tGFor (wi : TI) (g : TG) (tb : TGn) : TGn := fun D ys σ H => wi σ H fun J H1 => ∃ W : Nat → Nat → List V → St → Hp → Prop, (∃ m, W 0 m ys σ H1) ∧ ∀ i m ys σ H, W i m ys σ H →
  (J.stop i H ∧ D.nx ys σ H) ∨ (J.go i H ∧ ∃ N : List V → St → Hp → Prop, (∀ ys' σ' H', N ys' σ' H' → ∃ m', m' < m ∧ W (i + 1) m' ys' σ' H') ∧ ∀ x H', J.yld i H x H' → g x σ H' fun σ2 H2 => tb { D with nx := N, ct := N, bk := D.nx } ys σ2 H2)
theorem fp_move {S : Addr} {o o' : Obj} {ip : List (Addr × Obj)} {H H' : Hp} {b : Addr} (h : FpOk X ((S, o) :: ip) H b) (n : H' b = none) : FpOk X ((S, o') :: ip) H' b := by
  obtain ⟨_, f1, f2, f3, f4, f5⟩ := h
  refine ⟨n, f1, f2, f3, f4, fun p hp => ?_⟩
  rcases List.mem_append.mp hp with hp | hp
  · exact f5 p (List.mem_append_left _ hp)
  · rcases List.mem_cons.mp hp with rfl | hp
    · exact f5 (S, o) (List.mem_append_right _ List.mem_cons_self)
    · exact f5 p (List.mem_append_right _ (List.mem_cons_of_mem _ hp))
theorem gs_for (hp : PassesOwn (model X.prog X.w) X.A X.env X.xe) (hc : X.calm = true) (hi : PI X tg iter wi) (hg : PG X tg gt) (hb : GSs X body tb) (hs : ∀ x, foldedSetIterable iter X.env x = pure x := by intro _; rfl) : GS X (.For tg iter body [] pos) (tGFor wi gt tb) := by
  refine ⟨fun A S ip R n ys s₀ c fs K J gd lv s σ H D g hn k hI ht => ?_⟩
  obtain ⟨acc0, cc0, r0, I0⟩ := id hI
  show Seg _ _ _ _ _ _ _ (.at pos fun _ => (eval iter X.env >>= fun v => foldedSetIterable iter X.env v >>= fun x => standAt iter.pos >>= fun _ => holding [x] (pyIter x) >>= fun itv => runOwn (.forLoop tg itv body [] X.env) X.env).wrap K J gd lv) _ _
  refine seg_at (seg_bind_wrap ?_)
  rw [g.over]
  refine wpAny_mono (hi.run _ s σ H _ I0 ht) (fun v s1 h1 => ?_) fun x s' hx => k.exc n s₀ x s' hx
  refine seg_bind_wrap ?_
  rw [g.over]
  refine wpAny_of_eq (hs v) ?_
  refine seg_bind_wrap ?_
  rw [g.over]
  refine wpAny_standAt (seg_bind_wrap ?_)
  rw [g.over]
  refine wpAny_holding (wpAny_mono h1 (fun itv s2 h2 => ?_) fun x s' hx => k.exc n s₀ x s' hx)
  obtain ⟨it, fp, tn, Jt, H2, e, I2, T, st2, f2, W, ⟨m0, w0⟩, turn⟩ := h2
  subst e
  refine seg_call fun p => ?_
  have gl := fun (kk : Result → Sem PySem.Fin) => gc_loop (k := kk) (c' := .forLoop tg (.ref it) body [] X.env) (l := lv []) (kp := []) (p := p) g rfl rfl
  have note : ∀ (n : Nat) (s₀ : Shared) (x : Value) (s' : Shared), X.xe x s' → Seg (model X.prog X.w) A R (GY X S) n s₀ (.forLoop tg (.ref it) body [] X.env)
      ((do noteFrame x X.env; theTreesLotGoes x : Sem Unit).bind fun _ => (.raise x : Sem PySem.Fin))
      (.ret (fun r => ((match r with | .ok f => (.pure f : Sem Flow) | .error e => .raise e).onRaise (cameBack X.env)).wrap K J gd lv) none (gd false) (lv []) c p [] :: fs) s' := fun n s₀ x s' hx => by
    rw [Sem.bind_eq_wrap]
    refine seg_wrap ?_
    rw [(gl _).over]
    refine wpAny_bind (wpAny_mono (hp x s' hx) (fun _ s'' hcb => wpAny_theTreesLotGoes ?_) fun y s'' hcb => ?_)
    · exact seg_leaf (.error x) (seg_cameBack g k hcb)
    · exact seg_leaf (.error y) (seg_cameBack g k hcb)
  have loop : ∀ (m n i : Nat) (ys : List V) (s₀ s : Shared) (σ : St) (H : Hp), n + ys.length = sizeLine → W i m ys σ H → GI X S ip ys σ H s → tn i s.heap → (∀ b ∈ fp, H b = none) →
      Seg (model X.prog X.w) A R (GY X S) n s₀ (.forLoop tg (.ref it) body [] X.env) ((model X.prog X.w).den (.forLoop tg (.ref it) body [] X.env))
        (.ret (fun r => ((match r with | .ok f => (.pure f : Sem Flow) | .error e => .raise e).onRaise (cameBack X.env)).wrap K J gd lv) none (gd false) (lv []) c p [] :: fs) s := by
    intro m
    induction m using Nat.strongRecOn with
    | ind m ih =>
      intro n i ys s₀ s3 σ3 H3 hn w3 hI3 st3 fr3
      obtain ⟨acc, cc, r, I3⟩ := hI3
      have stat : ∀ {acc : Array Value} {cc : Nat} {H' : Hp}, (∀ b ∈ fp, H' b = none) → ∀ b ∈ fp, FpOk X ((S, lstObj acc cc) :: ip) H' b := fun hn b hb => fp_move (f2 b hb) (hn b hb)
      show Seg _ _ _ _ _ _ _ ((forTurn tg (.ref it) body [] X.env).onRaise fun x => do noteFrame x X.env; theTreesLotGoes x) _ _
      unfold forTurn
      rw [Sem.onRaise_eq_wrap]
      refine seg_bind_wrap ?_
      rw [(gl _).over]
      refine wpAny_standAt (seg_bind_wrap ?_)
      rw [(gl _).over]
      refine wpAny_onRaise ?_
      rcases turn i m ys σ3 H3 w3 with ⟨stop, qn⟩ | ⟨go, N, hN, step⟩
      · refine wpAny_mono (T.done X rfl rfl rfl hc i _ s3 σ3 H3 X.xe I3 (stat fr3) st3 stop) (fun r4 s4 hr => ?_) fun x s' hx => wpAny_standAt (note n s₀ x s' hx)
        obtain ⟨hr, I4⟩ := hr
        subst hr
        show Seg _ _ _ _ _ _ _ (.pure (.again (.block [] X.env))) _ _
        refine seg_again rfl ?_
        exact seg_leaf (.ok .next) (k.ok n ys s₀ s4 .next hn ⟨σ3, H3, ⟨acc, cc, r, I4⟩, qn⟩)
      · refine wpAny_mono (T.item X rfl rfl rfl hc i _ s3 σ3 H3 X.xe I3 (stat fr3) st3 go) (fun r4 s4 hr => ?_) fun x s' hx => wpAny_standAt (note n s₀ x s' hx)
        obtain ⟨u, hr, h4⟩ := hr
        subst hr
        show Seg _ _ _ _ _ _ _ (((letOwnedTupleGo tg (.ref it) u) >>= fun _ => assign tg X.env u >>= fun _ => execs body X.env >>= fun f => match f with
          | .next | .cont => again (.forLoop tg (.ref it) body [] X.env)
          | .brk => pure (.done .next)
          | .ret v => pure (.done (.ret v))).wrap _ _ _ _) _ _
        refine seg_bind_wrap ?_
        rw [(gl _).over]
        refine wpAny_mono h4 (fun _ s5 h5 => ?_) fun x s' hx => note n s₀ x s' hx
        obtain ⟨x, H5, I5, r5, y5, st5, fr5⟩ := h5
        have I5' := I5.pinned (stat fr5) (T.obj _ _ st5)
        refine seg_bind_wrap ?_
        rw [(gl _).over]
        refine wpAny_mono (hg.run _ s5 σ3 H5 x u _ I5' r5 (step x H5 y5)) (fun _ s6 h6 => ?_) fun x s' hx => note n s₀ x s' hx
        obtain ⟨σ6, H6, I6, q6⟩ := h6
        rw [Sem.bind_eq_wrap', Sem.wrap_wrap]
        have gip : ∀ q ∈ ip ++ pinsAt fp s5.heap, q.1 ≠ S := fun q hq => (List.mem_append.mp hq).elim (g.ip q) fun z y => by
          obtain ⟨hb, _⟩ := of_pinsAt z
          obtain ⟨_, _, _, _, _, f6⟩ := f2 q.1 hb
          exact f6 _ (List.mem_append_right _ List.mem_cons_self) y.symm
        have unp : ∀ {ys' : List V} {σ7 : St} {H7 : Hp} {s7 : Shared}, GI X S (ip ++ pinsAt fp s5.heap) ys' σ7 H7 s7 → GI X S ip ys' σ7 H7 s7 ∧ tn (i + 1) s7.heap ∧ ∀ b ∈ fp, H7 b = none := fun {ys' σ7 H7 s7} ⟨acc7, cc7, r7, I7⟩ =>
          ⟨⟨acc7, cc7, r7, Inv.unpinned (pins := (S, lstObj acc7 cc7) :: ip) I7⟩,
            T.keep _ _ _ st5 fun b hb o e => (I7.pin (b, o) (List.mem_append_right _ (List.mem_cons_of_mem _ (List.mem_append_right _ (mem_pinsAt hb e))))).1, fun b hb => by
              obtain ⟨o, e, d⟩ := T.obj _ _ st5 b hb
              exact (I7.pin (b, o) (List.mem_append_right _ (List.mem_cons_of_mem _ (List.mem_append_right _ (mem_pinsAt hb e))))).2.1⟩
        refine hb.run A S (ip ++ pinsAt fp s5.heap) R n ys s₀ _ _ _ _ _ _ s6 σ6 H6 { D with nx := N, ct := N, bk := D.nx } ⟨g.pn, gip, g.apart, (gl _).over, (gl _).split, (gl _).guard, rfl⟩ hn ⟨fun n' ys' s₀' s7 f hn' hs' => ?_, fun n' s₀' x s7 hx => note n' s₀' x s7 hx⟩ ⟨acc, cc, r, I6⟩ q6
        cases f with
        | next =>
          obtain ⟨σ7, H7, I7, n7⟩ := hs'
          obtain ⟨u1, u2, u3⟩ := unp I7
          obtain ⟨m', hm, w7⟩ := hN ys' σ7 H7 n7
          exact seg_again rfl (ih m' hm n' (i + 1) ys' s₀' s7 σ7 H7 hn' w7 u1 u2 u3)
        | cont =>
          obtain ⟨σ7, H7, I7, n7⟩ := hs'
          obtain ⟨u1, u2, u3⟩ := unp I7
          obtain ⟨m', hm, w7⟩ := hN ys' σ7 H7 n7
          exact seg_again rfl (ih m' hm n' (i + 1) ys' s₀' s7 σ7 H7 hn' w7 u1 u2 u3)
        | brk =>
          obtain ⟨σ7, H7, I7, n7⟩ := hs'
          exact seg_leaf (.ok .next) (k.ok n' ys' s₀' s7 .next hn' ⟨σ7, H7, (unp I7).1, n7⟩)
        | ret v =>
          obtain ⟨x7, σ7, H7, I7, r7, q7⟩ := hs'
          exact seg_leaf (.ok (.ret v)) (k.ok n' ys' s₀' s7 (.ret v) hn' ⟨x7, σ7, H7, (unp I7).1, r7, q7⟩)
  exact loop m0 n 0 ys s₀ s2 σ H2 hn w0 ⟨acc0, cc0, r0, I2⟩ st2 fun b hb => (f2 b hb).1
end
end L2.Tb
set_option Elab.async false
set_option linter.all false
set_option maxRecDepth 100000
set_option maxHeartbeats 4000000
/-! a generator method called with keywords; ~x by an own __invert__; math.lcm -/
namespace L2.Tb
open PySem PySem.Spec PyProof.Rows
def rLcm : List V → Hp → VK → Prop := fun vs H Q => ∃ a b : Nat, vs = [.int (a : Int), .int (b : Int)] ∧ a < 2 ^ 60 ∧ b < 2 ^ 60 ∧ Q (.int ((Nat.lcm a b : Nat) : Int)) H
theorem cr_lcm {X : Cx} : CallR X (.builtin "math.lcm") rLcm := by
  intro pins s σ H vs us Q I r h
  obtain ⟨a, b, rfl, ha, hb, q⟩ := h
  obtain ⟨t, u, rfl⟩ := Vals.int2 r
  exact PySem.W.mc_lcm (by omega) (by omega) fun _ => ⟨.int _, H, I.tok _, ⟨_, rfl⟩, by
    rw [Int.natAbs_natCast, Int.natAbs_natCast]
    exact q⟩
section
variable {X : Cx} {C f : Addr} {fd : FuncData} {ps : List Str} {sp : Sp} {k : Nat}
def rOwnInv (C : Addr) (sp : Sp) : V → Hp → VK → Prop := fun x H Q => ∃ (a dx : Addr) (fs : List (Str × V)), x = .ref a ∧ H a = some (.ins C dx fs) ∧ sp [.ref a] H Q E0
theorem un_ownInv {CX : CXT} (F : FnOk X.prog X.w X.K X.mg X.base CX k f fd ps sp) (hr : Room k X.A) (hs : PySem.W.findIn X.K (.ref C) "__invert__" = some (some (.ref f))) (hf : PySem.W.isFn X.K (.ref f) = true) (hb : Binds X.K fd ps []) (hx : Passes CX X E0) : UnR X (unaryOp .Invert) (rOwnInv C sp) := by
  intro pins s σ H x v Q I rx h
  obtain ⟨a, dx, fs, rfl, ea, h⟩ := h
  obtain rfl : v = Value.ref a := rx
  obtain ⟨mA, O, _⟩ := ins_get I.hok ea
  obtain ⟨od, J, _⟩ := O.look
  obtain ⟨m, hF⟩ := I.fr
  have hl := F.len _ _ _ _ h
  refine PySem.W.ksp_inv hF I.ok.mod.kin J hs hf (wpAny_call (codeAny_mono (F.run X.A X.stack s H ⟨[.ref a], []⟩ [.ref a] [.ref a] _ E0 hr I.env0 (by
    have z := hb s [.ref a] I.kIn (by simpa using hl)
    simpa using z) (.cons rfl .nil) h) fun r s' hq => ?_))
  match r, hq with
  | .error e, hq => exact hx pins σ H s e s' I hq
  | .ok (.ret u), hq => exact I.after hq
end
section
variable {X : Cx} {k : Nat} {f C : Addr} {fd : FuncData} {ps ks : List Str} {sp : SpG} {o : Expr} {m : Str} {apos pos : Pos} {ta : TE} {tk : TA} {kws : List Keyword}
def tMethGK (C : Addr) (m : Str) (sp : SpG) (E : XK) (ta : TE) (tk : TA) : TGen := fun σ H cont => ta σ H fun x H1 => ∃ a dx fs, x = .ref a ∧ H1 a = some (.ins C dx fs) ∧ fs.lookup m = none ∧ tk σ H1 fun zs H2 => sp (.ref a :: zs) H2 cont E
theorem pgen_methK {E : XK} {pl : Sem Bool} (he : PE X o ta) (c : Cls X.K C) (hm : Meth X.K C m f) (F : GFn X.prog X.w X.K X.mg X.base k f fd ps sp) (hr : Room k X.A) (hkw : PK X kws tk) (hl : ps.length = ks.length + 1)
    (hb : ∀ (sh : Shared) (a : Addr) (zs : List Value), zs.length = ks.length → BindsTo sh fd ⟨[.ref a], ks.zip zs⟩ (ps.zip (Value.ref a :: zs)))
    (hall : (backToKw pos (keywordEach kws X.env)).all (·.1.isSome) = true := by rfl) (hks : (backToKw pos (keywordEach kws X.env)).filterMap (·.1) = ks := by rfl)
    (hpl : ((backTo pos (starEach [] X.env)).any (·.1) || (backToKw pos (keywordEach kws X.env)).any (·.1.isNone)) = false := by rfl)
    (ht : eval (.Call (.Attribute o m apos) [] kws pos) X.env = (do
      let ov ← eval o X.env
      standAt apos.atName
      let (f, first) ← holding [ov] (getMethod ov m pl)
      callWith pos f first (backTo pos (starEach [] X.env)) (backToKw pos (keywordEach kws X.env))) := by rfl) :
    PGen X k (.Call (.Attribute o m apos) [] kws pos) (tMethGK C m sp E ta tk) E := by
  refine ⟨fun pins s σ H cont I h => PySem.W.methodCall_KW (pl := pl) (thn (he.run pins s σ H _ I h) fun u s1 hh => ?_) ht⟩
  obtain ⟨x, H1, I1, rx, a, dx, fs, ex, ea, lk, q⟩ := hh
  subst ex
  obtain rfl : u = Value.ref a := rx
  refine getmeth_ok I1 ea c hm lk (PySem.W.callWith_KW0 (h₀ := X.base) (first := [.ref a]) I.ok.mod.kin hm.kp hall (thn (hkw.run pos _ s1 σ H1 _ I1 q) fun ws s2 hh => ?_) hpl)
  obtain ⟨zs, H2, I2, rz, q2⟩ := hh
  refine ⟨I2.kIn, ?_⟩
  rw [hks]
  have hw : ws.length = ks.length := by
    have z := F.len _ _ _ _ q2
    rw [List.length_cons, hl] at z
    rw [← rz.length]
    omega
  refine wpAny_call (codeAny_mono (F.run X.A X.stack s2 H2 ⟨[.ref a], ks.zip ws⟩ (.ref a :: ws) (.ref a :: zs) cont E hr I2.env0 (hb s2 a ws hw) (.cons rfl rz) q2) fun r s3 hq => ?_)
  cases r with
  | error e => exact False.elim hq
  | ok fl =>
    cases fl with
    | ret u => exact ⟨H2, s2, [], I2, .nil, hq⟩
    | next => exact False.elim hq
    | brk => exact False.elim hq
    | cont => exact False.elim hq
end
end L2.Tb
set_option Elab.async false
set_option linter.all false
set_option maxRecDepth 100000
set_option maxHeartbeats 4000000
/-! for i, x in enumerate(t), t a tuple -/
namespace L2.Tb
open PySem PySem.Spec PyProof.Rows
set_option maxHeartbeats 4000000 in
theorem meets_enum_B1 {v : Value} {o : Obj} {H : Heap → Prop} (B : PySem.Begins v o H) :
    Meets (Builtin.«enumerate.__new__» ⟨[.type "enumerate", v], []⟩) (fun _ R s => H s.heap ∧
      R (.ok (.ret (.ref (s.heap.push o).objs.size))) { s with heap := (s.heap.push o).push { cls := .type "enumerate", data := .fields #[.none, .bool false, .ref s.heap.objs.size, rawInt 0, .none, .none] } }) :=
  .of_wp fun prog w A R s h => by
    obtain ⟨hp, g, d, tk, os⟩ := s
    obtain ⟨h1, h2⟩ := h
    have hsub := sub_enumerate
    have itr : ∀ {A' : Around} {E : Value → Shared → Prop} {Q : Value → Shared → Prop}, Q (.ref hp.objs.size) ⟨hp.push o, g, d, tk, os⟩ → wpAny (model prog w) A' (pyIter v) Q E ⟨hp, g, d, tk, os⟩ := fun q => B.iter prog w _ _ ⟨hp, g, d, tk, os⟩ _ h1 q
    wp_walk using itr
    refine wpAny_stack_any fun st => wpAny_pure ?_
    split
    · rename_i c _ _ _ _ _
      cases (c == Value.type "enumerate")
      · wp_walk using itr
        exact ⟨_, rfl, h2⟩
      · wp_walk using itr
        exact ⟨_, rfl, h2⟩
    · wp_walk using itr
      exact ⟨_, rfl, h2⟩
section
variable {prog : Program} {w : World} {A : Around} {E : Value → Shared → Prop} {s : Shared}
theorem enum_B1 {v : Value} {o : Obj} {H : Heap → Prop} {Q : Value → Shared → Prop} (B : PySem.Begins v o H) (h1 : H s.heap)
    (h : ∀ h', IsEnum h' (s.heap.objs.size + 1) s.heap.objs.size 0 .none → h'.get? s.heap.objs.size = some o → h'.objs.size = s.heap.objs.size + 2 →
      (∀ b o, s.heap.get? b = some o → h'.get? b = some o) → Q (.ref (s.heap.objs.size + 1)) { s with heap := h' }) :
    wpAny (model prog w) A (call (.type "enumerate") [v]) Q E s := by
  refine callType_new F.called_enumerate (by decide) (F.typeCall_enumerate_1 _) (F.newCall_enumerate_1 _) (fun obj => F.args_object_init_2 obj _) F.entry_enumerate_new (meets_enum_B1 B) ⟨h1, ?_⟩
  have hz : (s.heap.push o).objs.size = s.heap.objs.size + 1 := Heap.size_push ..
  show _ ∧ _
  rw [hz]
  have he : IsEnum ((s.heap.push o).push { cls := .type "enumerate", data := .fields #[.none, .bool false, .ref s.heap.objs.size, rawInt 0, .none, .none] }) (s.heap.objs.size + 1) s.heap.objs.size 0 .none := by
    have := Heap.get?_push_size (s.heap.push o) (o := { cls := .type "enumerate", data := .fields #[.none, .bool false, .ref s.heap.objs.size, rawInt 0, .none, .none] }) rfl
    rw [hz] at this
    exact this
  exact ⟨⟨_, he, rfl⟩, h _ he (Heap.get?_push_of_some _ (Heap.get?_push_size _ B.free)) (by rw [Heap.size_push, hz]) fun b o x => Heap.get?_push_of_some _ (Heap.get?_push_of_some _ x)⟩
end
/-- the tuple at a, each item in a new pair -/
def IteT (K : PySem.W.Frag) (a : Addr) : It :=
  ⟨fun i H => ∃ (xs : List V) (x : V), SqT K H a xs ∧ xs[i]? = some x, fun i H v H' => ∃ T x, v = .ref T ∧ H T = none ∧ H' = upd H T (.tup [.int (i : Nat), x]) ∧ ∀ xs, SqT K H a xs → xs[i]? = some x, fun i H => ∃ xs : List V, SqT K H a xs ∧ xs.length = i⟩
theorem turn_enumT {P : Program} {w : World} {K : PySem.W.Frag} {elts : List Expr} {kk : Nat} {tpos : Pos} (a e it : Addr) :
    Turn P w K (.Tuple elts kk tpos) (IteT K a) [e, it] e (fun i h => (∃ old, IsEnum h e it ((i : Nat) : Int) old) ∧ h.IsTupleIter it a i ∧ e ≠ it ∧ a ≠ it ∧ a ≠ e) where
  mem := by simp
  obj := fun i h st b hb => by
    obtain ⟨⟨old, he⟩, ⟨o, ho, hc, hd⟩, _⟩ := st
    have e' : b = e ∨ b = it := by simpa using hb
    rcases e' with z | z
    · rw [z]; exact ⟨_, he, fun v q => nomatch q⟩
    · rw [z]; exact ⟨o, ho, fun v q => by rw [hd] at q; cases q⟩
  keep := fun i h h' st k => let ⟨⟨old, he⟩, hi, hne⟩ := st; ⟨⟨old, k e (by simp) _ he⟩, hi.at fun o q => k it (by simp) o q, hne⟩
  item := by
    intro X hP hw hK hc i pins s σ H E I hf st hg
    subst hP hw hK
    obtain ⟨⟨old, he⟩, hit, hne, hai, hae⟩ := st
    obtain ⟨xs, x, hq, hx⟩ := hg
    obtain ⟨its, rv, p, hz⟩ := I.tuple hq
    obtain ⟨u, hu, ru⟩ := rv.get hx
    have hel : e < s.heap.objs.size := Heap.lt_size he
    have hil : it < s.heap.objs.size := by obtain ⟨_, q, _⟩ := hit; exact Heap.lt_size q
    have hlt : i < its.toArray.size := by
      have := (List.getElem?_eq_some_iff.mp hu).1
      simpa using this
    have hed : X.A.in1.handled = none := I.ok.hd hc
    refine wpAny_pyNext_enum_itemD (Draws.tuple hed it a hai its.toArray) he ⟨hit, p⟩ hlt hne (by simp [hne, Ne.symm hae]) fun y h' tk hy ho hs' hT hsz hk => ?_
    obtain ⟨hit', hp'⟩ := hs'
    have hyu : y = u := by
      have : its.toArray[i]? = some u := by simpa using hu
      rw [this] at hy
      exact (Option.some.inj hy).symm
    subst hyu
    refine ⟨_, rfl, wpAny_letOwnedTupleGo_enum (s := { s with heap := h', toks := tk + 1 }) ho fun h'' he' sb => ?_⟩
    have hT2 : h''.get? s.heap.objs.size = some { cls := .type "tuple", data := .seq #[.int i tk, y] } := (sb.2 _ (Nat.ne_of_gt hel)).trans hT
    have new : ObjOk X.prog X.w (upd H s.heap.objs.size (.tup [.int (i : Nat), x])) h'' s.heap.objs.size (.tup [.int (i : Nat), x]) :=
      ⟨by show 2 ≤ sizeLine; decide, [.int i tk, y], .cons ⟨_, rfl⟩ (.cons ru .nil), ⟨_, hT2, rfl, _, rfl⟩⟩
    have I1 : Inv X pins σ (upd H s.heap.objs.size (.tup [.int (i : Nat), x])) { s with heap := h'', toks := tk + 1 } :=
      I.turnedNew (ch := [e, it]) (fun b ob hb q => (sb.2 b (fun z => hb (by simp [z]))).trans (hk b ob (fun z => hb (by simp [z])) (fun z => hb (by simp [z])) q)) hf (Nat.le_refl _) new
    refine ⟨.ref s.heap.objs.size, _, I1, rfl, ⟨_, x, rfl, I.hok.fresh (Nat.le_refl _), rfl, fun ys hy => by rw [I.tuple_inj hy hq]; exact hx⟩, ⟨⟨y, ?_⟩, hit'.at fun o q => (sb.2 it (Ne.symm hne)).trans q, hne, hai, hae⟩, fun b hb => ?_⟩
    · have e1 : ((i + 1 : Nat) : Int) = (i : Int) + 1 := by omega
      rw [e1]; exact he'
    · have hb' : b < s.heap.objs.size := by
        have e' : b = e ∨ b = it := by simpa using hb
        rcases e' with z | z
        · rw [z]; exact hel
        · rw [z]; exact hil
      rw [upd_ne (Nat.ne_of_lt hb')]
      exact (hf b hb).1
  done := by
    intro X hP hw hK hc i pins s σ H E I hf st hg
    subst hP hw hK
    obtain ⟨⟨old, he⟩, hit, hne, hai, hae⟩ := st
    obtain ⟨xs, hq, hx⟩ := hg
    obtain ⟨its, rv, p, hz⟩ := I.tuple hq
    obtain ⟨f0, f1, f2, f3, f4, f5⟩ := hf it (by simp)
    have hl := rv.length
    have hs : i = its.toArray.size := by simp; omega
    have hed : X.A.in1.handled = none := I.ok.hd hc
    have hit2 : s.heap.IsTupleIter it a its.toArray.size := by rw [← hs]; exact hit
    exact wpAny_pyNext_enum_endD (Draws.tuple hed it a hai its.toArray) he ⟨hit2, p⟩ fun h' eb => ⟨rfl, I.turned (t' := s.toks) (fun b o hb q => eb b o hb q) f0 f1 f3 f4 f5⟩
  self := fun A i s Q E st q => by
    obtain ⟨⟨old, he⟩, _⟩ := st
    exact wpAny_pyIter_enum he q
def iEnumT (K : PySem.W.Frag) (ta : TA) : TI := fun σ H R => ta σ H fun vs H1 => ∃ a xs, vs = [.ref a] ∧ SqT K H1 a xs ∧ R (IteT K a) H1
theorem pi_enumT {X : Cx} {e : Expr} {ta : TA} {p pos tpos : Pos} {elts : List Expr} {kk : Nat} (hg : Gl X "enumerate") (hm : X.mg "enumerate" = none) (ha : PA X [e] ta) (hs : starEach [e] X.env = [(false, eval e X.env)] := by rfl) :
    PI X (.Tuple elts kk tpos) (.Call (.Name "enumerate" p) [e] [] pos) (iEnumT X.K ta) := by
  refine ⟨fun pins s σ H R I h => ?_⟩
  refine Call_ (ld_blt I hg hm boot_enumerate (PyProof.Rows.callWith_type1 (thn (ha.run pos pins s σ H _ I h) fun us s1 hh => ?_) hs rfl))
  obtain ⟨vs, H1, I1, r1, a, xs, ex, hq, q⟩ := hh
  subst ex
  cases r1 with
  | cons r rr =>
    cases rr
    cases r
    obtain ⟨its, rv, p', hz⟩ := I1.tuple hq
    have hal : a < s1.heap.objs.size := by obtain ⟨_, q, _⟩ := p'; exact Heap.lt_size q
    refine enum_B1 (PySem.begins_tuple a its.toArray) p' fun h' he hit hsz hk => wpAny_pyIter_enum he ?_
    have I2 : Inv X pins σ H1 { s1 with heap := h' } := I1.kept (t' := s1.toks) hk
    refine ⟨s1.heap.objs.size + 1, [s1.heap.objs.size + 1, s1.heap.objs.size], _, _, H1, rfl, I2, turn_enumT a (s1.heap.objs.size + 1) s1.heap.objs.size, ⟨⟨.none, he⟩, ⟨_, hit, rfl, rfl⟩, Nat.succ_ne_self _, Nat.ne_of_lt hal, Nat.ne_of_lt (Nat.lt_succ_of_lt hal)⟩, fun b hb => ?_, q⟩
    have e' : b = s1.heap.objs.size + 1 ∨ b = s1.heap.objs.size := by simpa using hb
    have hle : s1.heap.objs.size ≤ b := by
      rcases e' with z | z
      · rw [z]; exact Nat.le_add_right _ _
      · rw [z]; exact Nat.le_refl _
    exact I1.fpOk hle (I1.hok.fresh hle)
/-- over the tuple, in a for -/
theorem for_enumT {K : PySem.W.Frag} {a : Addr} {xs : List V} {g : TG} {tb : TS} {D : Ends} {σ : St} {H : Hp} (Pv : Nat → St → Hp → Prop) (h0 : Pv 0 σ H) (hl : ∀ i σ H, i ≤ xs.length → Pv i σ H → SqT K H a xs)
    (hs : ∀ i x σ H T, xs[i]? = some x → Pv i σ H → H T = none → g (.ref T) σ (upd H T (.tup [.int (i : Nat), x])) fun σ2 H2 => tb { D with nx := Pv (i + 1), ct := Pv (i + 1), bk := D.nx } σ2 H2) (hd : ∀ σ H, Pv xs.length σ H → D.nx σ H) :
    ∃ W : Nat → Nat → St → Hp → Prop, (∃ m, W 0 m σ H) ∧ ∀ i m σ H, W i m σ H →
      ((IteT K a).stop i H ∧ D.nx σ H) ∨ ((IteT K a).go i H ∧ ∃ N : St → Hp → Prop, (∀ σ' H', N σ' H' → ∃ m', m' < m ∧ W (i + 1) m' σ' H') ∧ ∀ x H', (IteT K a).yld i H x H' → g x σ H' fun σ2 H2 => tb { D with nx := N, ct := N, bk := D.nx } σ2 H2) := by
  refine ⟨fun i m σ H => m = xs.length - i ∧ i ≤ xs.length ∧ Pv i σ H, ⟨xs.length, by simp, Nat.zero_le _, h0⟩, ?_⟩
  rintro i m σ H ⟨rfl, hi, p⟩
  have q := hl i σ H hi p
  by_cases hlt : i < xs.length
  · refine .inr ⟨⟨xs, xs[i], q, by simp [hlt]⟩, Pv (i + 1), fun σ' H' p' => ⟨xs.length - (i + 1), by omega, rfl, hlt, p'⟩, fun x H' y => ?_⟩
    obtain ⟨T, z, rfl, nT, rfl, hz⟩ := y
    exact hs i z σ H T (hz xs q) p nT
  · have e : i = xs.length := by omega
    subst e
    exact .inl ⟨⟨xs, q, rfl⟩, hd σ H p⟩
end L2.Tb
set_option Elab.async false
set_option linter.all false
set_option maxRecDepth 100000
set_option maxHeartbeats 4000000
/-! a def of the module that may raise, called by its name -/
namespace L2.Tb
open PySem PySem.Spec PyProof.Rows
structure CalX (P : Program) (w : World) (K : PySem.W.Frag) (mg : Str → Option Value) (base : Heap) (k : Nat) (x : Str) (sp : Sp) : Prop where
  ex : ∃ (f : Addr) (fd : FuncData) (ps : List Str), FnOk P w K mg base (L2.CX P w) k f fd ps sp ∧ mg x = some (.ref f) ∧ PySem.W.keepIn K (.ref f) = true ∧ Binds K fd ps []
section
variable {P : Program} {w : World} {K : PySem.W.Frag} {mg : Str → Option Value} {base : Heap} {x : Str} {st : Stmt} {f : Addr} {fd : FuncData} {N ps : List Str} {k : Nat} {sp : Sp}
theorem calX_of (F : FnP K x st f fd) (hm : mg x = some (.ref f)) (hb : ∀ (kV doc pm : Value) (an : Option Addr) (cdv ct : Value) (us : List Value), us.length = ps.length → bindArgs (PySem.W.fnOf x x (defArgs st) (defBody st) (defScope st) .none kV doc pm an cdv ct) ⟨us, []⟩ = pure (ps.zip us))
    (h : FnOk P w K mg base (L2.CX P w) k f fd ps sp) : CalX P w K mg base k x sp := ⟨f, fd, ps, h, hm, F.kp, F.bindsN hb⟩
theorem CalX.imp {sp' : Sp} (c : CalX P w K mg base k x sp) (h : ∀ vs H Q E, sp' vs H Q E → sp vs H Q E) : CalX P w K mg base k x sp' := by
  obtain ⟨f, fd, ps, F, a, b, d⟩ := c.ex
  exact ⟨f, fd, ps, F.imp h, a, b, d⟩
end
section
variable {X : Cx} {k j : Nat} {x : Str} {sp : Sp} {p pos : Pos} {e : Expr} {es : List Expr} {t : TA} {E : XK}
theorem pe_calX (c : CalX X.prog X.w X.K X.mg X.base k x sp) (hr : Room j X.A) (hk : k ≤ j) (hg : Gl X x) (hx : Passes (L2.CX X.prog X.w) X E) (ha : PA X (e :: es) t)
    (hdb : (x == ("__debug__" : Str)) = false := by decide) (he : starEach (e :: es) X.env = (false, eval e X.env) :: starEach es X.env := by rfl) (hpl : (backTo pos (starEach es X.env)).any (·.1) = false := by rfl) :
    PE X (.Call (.Name x p) (e :: es) [] pos) (tCall sp [] E t) := by
  obtain ⟨f, fd, ps, F, hm, kp, b⟩ := c.ex
  exact pe_call F (hr.mono hk) hg hm kp b .nil hx ha hdb he hpl
end
/-- not there before -/
theorem none_back {H H1 : Hp} {a : Addr} (s : Same H H1) (h : H1 a = none) : H a = none := by
  cases e : H a with
  | none => rfl
  | some o =>
    rw [s _ _ e] at h
    cases h
theorem sqt_keep {K : PySem.W.Frag} {H H' : Hp} {a : Addr} {xs : List V} (h : SqT K H a xs) (s : Same H H') : SqT K H' a xs := by
  rcases h with (h | ⟨o, h⟩) | h
  · exact .inl (.inl (s _ _ h))
  · exact .inl (.inr ⟨o, s _ _ h⟩)
  · exact .inr h
end L2.Tb
set_option Elab.async false
set_option linter.all false
set_option maxRecDepth 100000
set_option maxHeartbeats 4000000
/-! len(x) by an own __len__; the truth of x by an own __len__ or __bool__ -/
namespace L2.Tb
open PySem PySem.Spec PyProof.Rows
section
variable {prog : Program} {w : World} {A : Around} {E : Value → Shared → Prop} {s : Shared} {K : PySem.W.Frag} {x C f : Addr} {ox : Obj} {od : Option Obj}
theorem lenO_body {Q : Value → Shared → Prop} (X : K.In s.heap) (I : PySem.W.InstAt s.heap x ox C od) (hs : PySem.W.findIn K (.ref C) "__len__" = some (some (.ref f))) (hf : PySem.W.isFn K (.ref f) = true)
    (h : wpAny (model prog w) A (call (.ref f) [.ref x]) (PySem.W.LenBack Q) E s) : wpAny (model prog w) A (Builtin.«len» ⟨[.ref x], []⟩) (fun fin s' => ∃ r, fin = .done (.ret r) ∧ Q r s') E s := by
  unfold Builtin.«len»
  refine wpAny_bind (m := oneArg "len" _) (wpAny_pure ?_)
  refine wpAny_bind (m := callSpecial? (.ref x) (Str.ofString "__len__")) (PySem.W.special_fn X I hs (beq_iff_eq.mp hf) (wpAny_mono h (fun r s' hr => ?_) fun _ _ y => y))
  cases r <;> first | exact hr.elim | skip
  rename_i n u
  obtain ⟨⟨h0, h1⟩, hq⟩ := hr
  refine wpAny_bind (wpAny_holding (wpAny_pure ?_))
  refine wpAny_bind (wpAny_letGo ?_)
  show wpAny _ _ (if n < 0 then _ else _) _ _ _
  rw [if_neg (by omega)]
  show wpAny _ _ (if n ≥ 2 ^ 63 then _ else _) _ _ _
  rw [if_neg (by omega)]
  exact wpAny_bind (wpAny_mkInt (wpAny_pure ⟨_, rfl, hq⟩))
theorem lenO_truthy {Q : Bool → Shared → Prop} (X : K.In s.heap) (I : PySem.W.InstAt s.heap x ox C od) (hs : PySem.W.findIn K (.ref C) "__len__" = some (some (.ref f))) (hb : PySem.W.findIn K (.ref C) "__bool__" = some none) (hf : PySem.W.isFn K (.ref f) = true)
    (h : wpAny (model prog w) A.in1 (call (.ref f) [.ref x]) (PySem.W.LenBack fun r s' => ∃ n t, r = .int n t ∧ Q (n != 0) s') E s) : wpAny (model prog w) A (truthy (.ref x)) Q E s := by
  have key : wpAny (model prog w) A (runValue (.builtin "len" ⟨[.ref x], []⟩)) (fun r s' => ∃ n t, r = .int n t ∧ Q (n != 0) s') E s := by
    refine wpAny_runValue (codeAny_builtin entry_len ?_)
    rw [Around.under_plainId plain_len _]
    exact wpAny_mono (lenO_body X I hs hf h) (fun fin s' h' => by obtain ⟨r, rfl, hq⟩ := h'; exact hq) fun _ _ e => e
  have hsp : ∀ {Q' : Option Value → Shared → Prop}, Q' (some (.ref f)) s → wpAny (model prog w) A (specialOf (.ref x) "__len__") Q' E s := fun q => by
    unfold specialOf
    exact wpAny_bind (I.type.here ((PySem.W.looks_findIn X hs).here q))
  unfold truthy
  refine wpAny_bind (m := callSpecial? (.ref x) (Str.ofString "__bool__")) (wpAny_bind (wpAny_bind (I.type.here ((PySem.W.looks_findIn X hb).here (wpAny_pure ?_)))))
  refine wpAny_bind (hsp ?_)
  show wpAny _ _ (if (some (Value.ref f)).isNone = true then _ else _) _ _ _
  rw [if_neg (by simp)]
  exact wpAny_bind (wpAny_mono key (fun r s' h' => by obtain ⟨n, t, rfl, hq⟩ := h'; exact wpAny_pure hq) fun _ _ e => e)
end
section
variable {X : Cx} {C f : Addr} {fd : FuncData} {ps : List Str} {sp : Sp} {k : Nat}
def rLenOwn (C : Addr) (sp : Sp) : List V → Hp → VK → Prop := fun xs H Q => ∃ (a dx : Addr) (fs : List (Str × V)), xs = [.ref a] ∧ H a = some (.ins C dx fs) ∧ sp [.ref a] H (fun v H' => ∃ n : Int, v = .int n ∧ 0 ≤ n ∧ n < 2 ^ 63 ∧ Q (.int n) H') E0
theorem call_lenOwn (F : FnOk X.prog X.w X.K X.mg X.base L2.CX0 k f fd ps sp) (hr : Room (k + 1) X.A) (hs : PySem.W.findIn X.K (.ref C) "__len__" = some (some (.ref f))) (hf : PySem.W.isFn X.K (.ref f) = true) (hb : Binds X.K fd ps []) : CallR X (.builtin "len") (rLenOwn C sp) := by
  intro pins s σ H xs us Q I r h
  obtain ⟨a, dx, fs, rfl, ea, h⟩ := h
  rw [Vals.ref1 r]
  obtain ⟨mA, O, _⟩ := ins_get I.hok ea
  obtain ⟨od, J, _⟩ := O.look
  obtain ⟨m, hF⟩ := I.fr
  have hl := F.len _ _ _ _ h
  refine PySem.W.len_K hF I.ok.mod.kin J hs hf (wpAny_call (codeAny_mono (F.run X.A.in1 X.stack s H ⟨[.ref a], []⟩ [.ref a] [.ref a] _ E0 hr.in1 I.env0.in1 (by
    have z := hb s [.ref a] I.kIn (by simpa using hl)
    simpa using z) (.cons rfl .nil) h) fun r s' hq => ?_))
  match r, hq with
  | .error e, hq => exact hq.elim
  | .ok (.ret u), hq =>
    obtain ⟨v, H', I', rv, n, ev, h0, h1, q⟩ := I.after hq
    rw [ev] at rv
    obtain ⟨t, rfl⟩ := (show ∃ t, u = Value.int n t from rv)
    exact ⟨⟨h0, h1⟩, .int n, H', I'.tok _, ⟨_, rfl⟩, q⟩
def rTruLen (C : Addr) (sp : Sp) : V → Hp → (Bool → Hp → Prop) → Prop := fun x H Q => ∃ (a dx : Addr) (fs : List (Str × V)), x = .ref a ∧ H a = some (.ins C dx fs) ∧ sp [.ref a] H (fun v H' => ∃ n : Int, v = .int n ∧ 0 ≤ n ∧ n < 2 ^ 63 ∧ Q (n != 0) H') E0
theorem tru_lenOwn (F : FnOk X.prog X.w X.K X.mg X.base L2.CX0 k f fd ps sp) (hr : Room (k + 1) X.A) (hs : PySem.W.findIn X.K (.ref C) "__len__" = some (some (.ref f))) (hbo : PySem.W.findIn X.K (.ref C) "__bool__" = some none) (hf : PySem.W.isFn X.K (.ref f) = true) (hb : Binds X.K fd ps []) : TruR X (rTruLen C sp) := by
  intro pins s σ H x v Q I r h
  obtain ⟨a, dx, fs, rfl, ea, h⟩ := h
  obtain rfl : v = Value.ref a := r
  obtain ⟨mA, O, _⟩ := ins_get I.hok ea
  obtain ⟨od, J, _⟩ := O.look
  have hl := F.len _ _ _ _ h
  refine lenO_truthy I.kIn J hs hbo hf (wpAny_call (codeAny_mono (F.run X.A.in1 X.stack s H ⟨[.ref a], []⟩ [.ref a] [.ref a] _ E0 hr.in1 I.env0.in1 (by
    have z := hb s [.ref a] I.kIn (by simpa using hl)
    simpa using z) (.cons rfl .nil) h) fun r s' hq => ?_))
  match r, hq with
  | .error e, hq => exact hq.elim
  | .ok (.ret u), hq =>
    obtain ⟨v, H', I', rv, n, ev, h0, h1, q⟩ := I.after hq
    rw [ev] at rv
    obtain ⟨t, rfl⟩ := (show ∃ t, u = Value.int n t from rv)
    exact ⟨⟨h0, h1⟩, n, _, rfl, H', I'.tok _, q⟩
def rTruBool (C : Addr) (sp : Sp) : V → Hp → (Bool → Hp → Prop) → Prop := fun x H Q => ∃ (a dx : Addr) (fs : List (Str × V)), x = .ref a ∧ H a = some (.ins C dx fs) ∧ sp [.ref a] H (fun v H' => ∃ b, v = .bl b ∧ Q b H') E0
theorem tru_boolOwn (F : FnOk X.prog X.w X.K X.mg X.base L2.CX0 k f fd ps sp) (hr : Room k X.A) (hs : PySem.W.findIn X.K (.ref C) "__bool__" = some (some (.ref f))) (hf : PySem.W.isFn X.K (.ref f) = true) (hb : Binds X.K fd ps []) : TruR X (rTruBool C sp) := by
  intro pins s σ H x v Q I r h
  obtain ⟨a, dx, fs, rfl, ea, h⟩ := h
  obtain rfl : v = Value.ref a := r
  obtain ⟨mA, O, _⟩ := ins_get I.hok ea
  obtain ⟨od, J, _⟩ := O.look
  obtain ⟨m, hF⟩ := I.fr
  have hl := F.len _ _ _ _ h
  refine PySem.W.truthy_K hF I.ok.mod.kin J hs hf (wpAny_call (codeAny_mono (F.run X.A X.stack s H ⟨[.ref a], []⟩ [.ref a] [.ref a] _ E0 hr I.env0 (by
    have z := hb s [.ref a] I.kIn (by simpa using hl)
    simpa using z) (.cons rfl .nil) h) fun r s' hq => ?_))
  match r, hq with
  | .error e, hq => exact hq.elim
  | .ok (.ret u), hq =>
    obtain ⟨v, H', I', rv, b, ev, q⟩ := I.after hq
    rw [ev] at rv
    obtain rfl : u = Value.bool b := rv
    exact ⟨H', I', q⟩
/-- not x, by a rule for the truth -/
theorem pe_notR {a : Expr} {ta : TE} {r : V → Hp → (Bool → Hp → Prop) → Prop} {pos : Pos} (ha : PE X a ta) (hr : TruR X r) : PE X (.UnaryOp .Not a pos) (fun σ H Q => ta σ H fun x H' => r x H' fun b H2 => Q (.bl (!b)) H2) := by
  refine ⟨fun pins s σ H Q I h => ?_⟩
  refine UnaryOp_ (thn (ha.run pins s σ H _ I h) fun v s1 ⟨x, H1, I1, r1, q1⟩ => ?_)
  exact not_of (thn (hr pins s1 σ H1 x v _ I1 r1 q1) fun c s2 ⟨H2, I2, q2⟩ => ⟨.bl (!c), H2, I2, rfl, q2⟩)
end
end L2.Tb
set_option Elab.async false
set_option linter.all false
set_option maxRecDepth 100000
set_option maxHeartbeats 4000000
/-! sorted(xs), xs a list of tuples (or of lists) of ints, each of any length -/
namespace L2.Tb
open PySem PySem.Spec PyProof.Rows PySem.W
theorem eachMap {α β : Type} {R : α → β → Prop} (f : β → α) : ∀ ks : List β, (∀ p ∈ ks, R (f p) p) → EachIs R (ks.map f) ks
  | [], _ => .nil
  | k :: ks, h => .cons (h k List.mem_cons_self) (eachMap f ks fun p hp => h p (List.mem_cons_of_mem _ hp))
theorem eachMap_back {α β : Type} {f : β → α} : ∀ {l : List α} {ks : List β}, EachIs (fun v p => v = f p) l ks → l = ks.map f
  | _, _, .nil => rfl
  | _, _, .cons h t => by rw [List.map_cons, ← eachMap_back t, h]
theorem readsAll_ints_of {h : Heap} : ∀ {vs : List Value} {ns : List Int}, IntsAre vs ns → ReadsAll h vs (ns.map .int) []
  | _, _, .nil => .nil
  | _, _, .cons n t r => .cons (as := []) (.int n t) (readsAll_ints_of r)
theorem readsAll_vals {h : Heap} : ∀ {ns : List Int} {vs : List Value}, Vals (ns.map V.int) vs → ReadsAll h vs (ns.map .int) []
  | [], _, r => by
    cases r
    exact .nil
  | n :: ns, _, r => by
    cases r with
    | cons a b =>
      obtain ⟨t, rfl⟩ := a
      exact .cons (as := []) (.int n t) (readsAll_vals b)
theorem alike_tup (xs ys : List Int) : alike (.tuple (xs.map .int)) (.tuple (ys.map .int)) = true := by
  simpa [alike] using alike_ints xs ys
theorem alike_lst (xs ys : List Int) : alike (.list (xs.map .int)) (.list (ys.map .int)) = true := by
  simpa [alike] using alike_ints xs ys
theorem dataLe_tups {β : Type} (x : β → List Int) : dataLe false (fun b => .tuple ((x b).map .int)) = fun p q => decide (x p ≤ x q) := by
  rw [← dataLe_rows]
  funext p q
  show (!dataLt (.tuple _) (.tuple _)) = (!dataLt (.list _) (.list _))
  rw [dataLt_list, dataLt_tuple]
section
variable {P : Program} {w : World} {A : Around} {s : Shared}
/-- all tuples, some may be empty: at most one -/
theorem sortsAt_one {vs : List Value} {ds : List PyData} (e : EachIs (fun v d => ∃ as, Reads s.heap v d as) vs ds) (hal : AllAlike ds) (ht : ∀ d ∈ ds, ∃ xs, d = .tuple xs) (one : vs.length ≤ 1) (hu : ∀ d, d ∈ ds → A.units + d.depth < cLine) : SortsAt P w A s (dataKind s.heap ds) vs := by
  have room : ∀ {d d' : PyData}, d ∈ ds → A.units + min d.depth d'.depth < cLine := fun {d d'} hd => Nat.lt_of_le_of_lt (Nat.add_le_add_left (Nat.min_le_left _ _) _) (hu d hd)
  refine ⟨fun v hv => ?_, tuples' false, ?_, fun h2 => absurd h2 (by omega)⟩
  · obtain ⟨d, hd, as, r⟩ := e.left v hv
    exact ⟨_, dataKind_some hal hd r⟩
  · intro E x y a b Q ha hb hq
    obtain ⟨d, as, hd, ra, rfl⟩ := dataKind_inv ha
    obtain ⟨d', as', hd', rb, rfl⟩ := dataKind_inv hb
    have hdd := hal d hd d' hd'
    have hroom := room (d' := d') hd
    obtain ⟨r1, rfl⟩ := ht d hd
    obtain ⟨r2, rfl⟩ := ht d' hd'
    have hq' : Q (dataLt (.tuple r1) (.tuple r2)) s := hq
    rw [dataLt_tuple] at hq'
    cases ra with
    | @tuple l o xs n _ _ h1 h2 h3 h4 =>
      cases rb with
      | @tuple l' o' xs' n' _ _ k1 k2 k3 k4 =>
        have n1 : xs.size = r1.length := by simpa using SeqAt.ReadsAll.length _ _ _ h4
        have n2 : xs'.size = r2.length := by simpa using SeqAt.ReadsAll.length _ _ _ k4
        refine kat_lt h1 h3 k1 k3 (katLex_alike r1 r2 0 _ _ _ _ h4 k4 (by simpa [alike] using hdd) (by have q := SeqAt.room_in hroom; omega) (fun hb => by cases hb) (by rw [n1, n2]) hq')
end
theorem depth_tup (xs : List Int) : (PyData.tuple (xs.map .int)).depth = 1 := by
  have := depth_ints xs
  simp [PyData.depth, this]
theorem depth_lst (xs : List Int) : (PyData.list (xs.map .int)).depth = 1 := by
  have := depth_ints xs
  simp [PyData.depth, this]
/-- by the lists' order -/
def byLe {α : Type} (p q : α × List Int) : Bool := decide (p.2 ≤ q.2)
def rSortR (K : PySem.W.Frag) : List V → Hp → VK → Prop := fun vs H Q => ∃ (a : Addr) (ks : List (Addr × List Int)), vs = [.ref a] ∧ SqL K H a (ks.map fun p => V.ref p.1) ∧ ks.length ≤ sizeLine ∧
  (((∀ p ∈ ks, SqT K H p.1 (p.2.map V.int)) ∧ (ks.length ≤ 1 ∨ ∀ p ∈ ks, p.2 ≠ [])) ∨ ∀ p ∈ ks, SqL K H p.1 (p.2.map V.int)) ∧
  ∀ (p : Addr), H p = none → Q (.ref p) (upd H p (.lst ((ks.mergeSort byLe).map fun q => V.ref q.1)))
theorem cr_sortR {X : Cx} (hu : X.A.units + 64 < cLine) : CallR X (.builtin "sorted") (rSortR X.K) := by
  intro pins s σ H vs us Q I r h
  obtain ⟨a, ks, rfl, hs, few, tp, q⟩ := h
  obtain ⟨its, rv, pl, _⟩ := I.list hs
  rw [Vals.ref1 r]
  have ei : its = ks.map fun p => Value.ref p.1 := refs_of_vals rv
  have fin : ∀ out : List Value, EachIs (fun v (p : Addr × List Int) => v = Value.ref p.1) out (ks.mergeSort byLe) → ∃ (v : V) (H' : Hp), Inv X pins σ H' { s with heap := sortedAll s.heap its out.toArray } ∧ RelV v (Value.ref (s.heap.objs.size + 1)) ∧ Q v H' := fun out e => by
    have e := eachMap_back e
    obtain ⟨ep, at_⟩ := PyProof.Rows.sortedAll_at s.heap its out.toArray
    refine ⟨.ref _, upd H (s.heap.objs.size + 1) (.lst ((ks.mergeSort byLe).map fun q => V.ref q.1)), I.laid (t' := s.toks) (fun _ _ => PyProof.Rows.sortedAll_old) (Nat.le_succ _) ⟨?_, out, ep, ?_, at_⟩, rfl, q _ (I.hok.fresh (Nat.le_succ _))⟩
    · rw [List.length_map, List.length_mergeSort]
      exact few
    · rw [e]
      exact vals_of_refs _
  have lk : ks.length ≤ sizeLine := few
  rcases tp with ⟨tp, ne⟩ | tp
  · have rd : ∀ p ∈ ks, ∃ as, Reads s.heap (.ref p.1) (.tuple (p.2.map .int)) as := fun p hp => by
      obtain ⟨b, items, e, ⟨ob, g1, g2, m, g3⟩, ia⟩ := tupI_raw I (tp p hp)
      injection e with e
      subst e
      exact ⟨_, .tuple g1 g2 g3 (readsAll_ints_of ia)⟩
    rcases ne with one | ne
    · have er : EachIs (fun v (b : Addr × List Int) => ∃ as, Reads (sortingHeap (copyHeap s.heap its) (s.heap.objs.size + 1) its) v (.tuple (b.2.map .int)) as) its ks := by
        rw [ei]
        refine eachMap _ ks fun p hp => ?_
        obtain ⟨as, z⟩ := rd p hp
        exact ⟨as, PyProof.Rows.Reads.keeps (fun _ _ => sorting_copy_old) z⟩
      have hal : AllAlike (ks.map fun b : Addr × List Int => PyData.tuple (b.2.map .int)) := AllAlike.of fun b b' => alike_tup b.2 b'.2
      refine sorted_vals (κ := dataKind (sortingHeap (copyHeap s.heap its) (s.heap.objs.size + 1) its) (ks.map fun b => PyData.tuple (b.2.map .int))) pl.isList (sortsAt_one (s := { s with heap := sortingHeap (copyHeap s.heap its) (s.heap.objs.size + 1) its }) (each_map (R := fun v d => ∃ as, Reads (sortingHeap (copyHeap s.heap its) (s.heap.objs.size + 1) its) v d as) (fun b : Addr × List Int => PyData.tuple (b.2.map .int)) er) hal (fun d hd => ?_) (by rw [ei, List.length_map]; exact one) fun d hd => ?_) (by rw [ei, List.length_map]; exact lk) (fin _ ?_)
      · obtain ⟨p, _, rfl⟩ := List.mem_map.mp hd
        exact ⟨_, rfl⟩
      · obtain ⟨p, _, rfl⟩ := List.mem_map.mp hd
        rw [depth_tup]
        show X.A.units + 1 + 1 + 1 < _
        omega
      · have z := sortVals_data (R := fun v (p : Addr × List Int) => v = Value.ref p.1) (enc := fun b : Addr × List Int => PyData.tuple (b.2.map .int)) false (by rw [ei]; exact eachMap _ ks fun _ _ => rfl) er hal
        rw [dataLe_tups] at z
        exact z
    · refine sorted_data (R := fun v (p : Addr × List Int) => v = Value.ref p.1) (bs := ks) (enc := fun b => PyData.tuple (b.2.map .int)) pl.isList (by rw [ei]; exact eachMap _ ks fun _ _ => rfl) (by rw [ei]; exact eachMap _ ks rd) (AllAlike.of fun b b' => alike_tup b.2 b'.2) (.inl fun d hd => ?_) lk (fun b _ => by rw [depth_tup]; omega) fun out _ e => ?_
      · obtain ⟨p, hp, rfl⟩ := List.mem_map.mp hd
        cases e : p.2 with
        | nil => exact absurd e (ne p hp)
        | cons x r => exact ⟨.int x, r.map .int, rfl⟩
      · rw [dataLe_tups] at e
        exact fin out e
  · have rd : ∀ p ∈ ks, ∃ as, Reads s.heap (.ref p.1) (.list (p.2.map .int)) as := fun p hp => by
      obtain ⟨its2, rv2, pl2, _⟩ := I.list (tp p hp)
      obtain ⟨o, g1, g2, m, g3⟩ := pl2.isList
      exact ⟨_, .list g1 g2 g3 (readsAll_vals rv2)⟩
    refine sorted_data (R := fun v (p : Addr × List Int) => v = Value.ref p.1) (bs := ks) (enc := fun b => PyData.list (b.2.map .int)) pl.isList (by rw [ei]; exact eachMap _ ks fun _ _ => rfl) (by rw [ei]; exact eachMap _ ks rd) (AllAlike.of fun b b' => alike_lst b.2 b'.2) (.inr fun d hd => ?_) lk (fun b _ => by rw [depth_lst]; omega) fun out _ e => ?_
    · obtain ⟨p, _, rfl⟩ := List.mem_map.mp hd
      exact ⟨nofun, nofun⟩
    · rw [dataLe_rows] at e
      exact fin out e
end L2.Tb
set_option Elab.async false
set_option linter.all false
set_option maxRecDepth 100000
set_option maxHeartbeats 4000000
/-! {x} in an f-string, x an instance with an own __str__; x in t, t a tuple of instances with an own __eq__; sorted of tuples (int, text) -/
namespace L2.Tb
open PySem PySem.Spec PyProof.Rows
theorem refs_of_valsG {α : Type} {g : α → Addr} : ∀ {ks : List α} {us : List Value}, Vals (ks.map fun p => V.ref (g p)) us → us = ks.map fun p => Value.ref (g p)
  | [], _, h => by cases h; rfl
  | k :: ks, _, h => by
    cases h with
    | @cons _ v _ _ r t =>
      obtain rfl : v = Value.ref (g k) := r
      rw [refs_of_valsG t]
      rfl
theorem vals_of_refsG {α : Type} (g : α → Addr) : ∀ ks : List α, Vals (ks.map fun p => V.ref (g p)) (ks.map fun p => Value.ref (g p))
  | [] => .nil
  | _ :: ks => .cons rfl (vals_of_refsG g ks)
section
variable {X : Cx} {C f : Addr} {fd : FuncData} {ps : List Str} {sp : Sp} {k : Nat}
def tFmtOwn (C : Addr) (sp : Sp) (te : TE) : TE := fun σ H Q => te σ H fun x H1 => ∃ (a dx : Addr) (fs : List (Str × V)), x = .ref a ∧ H1 a = some (.ins C dx fs) ∧ sp [.ref a] H1 (fun v H' => ∃ z, v = .str z ∧ Q (.str z) H') E0
theorem pe_fmtOwn {e : Expr} {te : TE} {pos : Pos} (F : FnOk X.prog X.w X.K X.mg X.base L2.CX0 k f fd ps sp) (hr : Room (k + 1) X.A) (hfm : PySem.W.findIn X.K (.ref C) "__format__" = some (some (.builtin "object.__format__"))) (hm : PySem.W.mroIn X.K C (.type "object") = some true)
    (hs : PySem.W.findIn X.K (.ref C) "__str__" = some (some (.ref f))) (hf : PySem.W.isFn X.K (.ref f) = true) (hb : Binds X.K fd ps []) (he : PE X e te) : PE X (.FormattedValue e (-1) none pos) (tFmtOwn C sp te) := by
  refine ⟨fun pins s σ H Q I h => ?_⟩
  refine wpAny_FormattedValue_plain (thn (he.run pins s σ H _ I h) fun v s1 hv => ?_)
  obtain ⟨x, H1, I1, r1, a, dx, fs, rfl, ea, h⟩ := hv
  obtain rfl : v = Value.ref a := r1
  have I2 : Inv X pins σ H1 { s1 with toks := s1.toks + 1 } := I1.tok _
  obtain ⟨mA, O, _⟩ := ins_get I1.hok ea
  obtain ⟨od, J, _⟩ := O.look
  have hl := F.len _ _ _ _ h
  refine PySem.W.kfo_fieldS (hr.in1.units0) I1.kIn J hfm hm hs hf (wpAny_call (codeAny_mono (F.run X.A.in1 X.stack _ H1 ⟨[.ref a], []⟩ [.ref a] [.ref a] _ E0 hr.in1 I2.env0.in1 (by
    have z := hb { s1 with toks := s1.toks + 1 } [.ref a] I2.kIn (by simpa using hl)
    simpa using z) (.cons rfl .nil) h) fun r s' hq => ?_))
  match r, hq with
  | .error e, hq => exact hq.elim
  | .ok (.ret u), hq =>
    obtain ⟨v, H', I', rv, z, ev, q⟩ := I2.after hq
    rw [ev] at rv
    obtain ⟨t, rfl⟩ := relV_str rv
    exact ⟨.str z, H', I', ⟨t, rfl⟩, q⟩
end
section
open PySem.SeqAt
open AutoSeq1 (wpAny_loadPart')
open MeetsSeq MeetsSeq2 MeetsSeq3 SeqRoads2
variable {prog : Program} {w : World} {A : Around} {R : Result → Shared → Prop}
theorem tuple_containsG (l : Addr) (items : Array Value) (n : Nat) (dd : Option Addr) (sl : Array (Option Value)) (x : Value) (e : Value → Bool) (J : Shared → Prop)
    (turn : ∀ y, y ∈ items → ∀ s, J s → wpAny (model prog w) A.in1 (eqBool y x) (fun r s' => r = e y ∧ J s') (fun e s' => R (.error e) s') s) (fin : ∀ s, J s → R (.ok (.ret (.bool (items.any e)))) s) {s : Shared}
    (hl : s.heap.get? l = some { cls := .type "tuple", dict := dd, data := .seq items n, slots := sl }) (h : J s) : wpAny (model prog w) A.in1 (Builtin.«tuple.__contains__» ⟨[.ref l, x], []⟩) (GQ.FinOf prog w A R) (fun e s' => R (.error e) s') s := by
  obtain ⟨hp, g, d, tk, os⟩ := s
  have h0 := h
  wp_walk using wpAny_loadPart' hl, wpAny_forIn_array _ (fun rest b s' => b.1 = none ∧ (∀ y, y ∈ rest → y ∈ items) ∧ (rest.any e = items.any e) ∧ J s') _
  case turn =>
    rintro y rest b s' ⟨hb, hmem, hR, hJ⟩
    refine wpAny_bind (wpAny_mono (turn y (hmem y (List.mem_cons_self ..)) s' hJ) (fun r s2 q2 => ?_) fun _ _ x => x)
    obtain ⟨hr, q2⟩ := q2
    subst hr
    rw [List.any_cons] at hR
    cases hy : e y with
    | true =>
      rw [hy, Bool.true_or] at hR
      wp_walk
      have := fin s2 q2
      rw [← hR] at this
      exact this
    | false =>
      rw [hy, Bool.false_or] at hR
      wp_walk
      exact ⟨rfl, fun z hz => hmem z (List.mem_cons_of_mem _ hz), hR, q2⟩
  case fin =>
    rintro ⟨b1, b2⟩ s' ⟨hb, -, hR, hJ⟩
    simp only at hb
    subst hb
    wp_walk
    have := fin s' hJ
    rw [← hR] at this
    exact this
  case h =>
    exact ⟨rfl, fun y hy => by simpa using hy, by simp, h0⟩
theorem in_tupleG {E : Value → Shared → Prop} {s : Shared} {l : Addr} {items : Array Value} {x : Value} {Q : Value → Shared → Prop} (e : Value → Bool) (J : Shared → Prop) (hl : s.heap.IsTuple l items)
    (turn : ∀ y, y ∈ items → ∀ s, J s → wpAny (model prog w) A.in1 (eqBool y x) (fun r s' => r = e y ∧ J s') E s) (fin : ∀ s, J s → Q (.bool (items.any e)) s) (h : J s) : wpAny (model prog w) A (compareOp .In x (.ref l)) Q E s := by
  obtain ⟨⟨cls, dd, data, sl⟩, ho, hc, n, hd⟩ := id hl
  simp only at hc hd
  subst hc hd
  show wpAny _ A (do return .bool (← contains (.ref l) x)) Q E s
  refine wpAny_bind (wpAny_contains_slot (T := "tuple") ⟨_, ho, rfl⟩ F.slot_tuple_contains (wpAny_mono (GQ.call_here F.slot_tuple_contains ⟨_, ho, rfl⟩ F.entry_tuple_contains (F.args_tuple_contains_2 _ _) (Q := fun v s' => ∃ b, v = .bool b ∧ Q (.bool b) s') (tuple_containsG (R := wants (fun v s' => ∃ b, v = .bool b ∧ Q (.bool b) s') E) l items n dd sl x e J turn (fun s' q => ⟨_, rfl, fin s' q⟩) ho h)) (fun v s' hv => ?_) fun _ _ e => e))
  obtain ⟨b, rfl, hq⟩ := hv
  exact wpAny_truthy_bool (wpAny_pure hq)
end
section
variable {X : Cx} {C f : Addr} {fd : FuncData} {ps : List Str} {sp : Sp} {k : Nat}
/-- x in t, t a tuple of instances of the class at C; e: which of them equal x -/
def rInOwnT (K : PySem.W.Frag) (C : Addr) (sp : Sp) : R2 := fun x y H Q => ∃ (a ax dx : Addr) (fx : List (Str × V)) (bs : List Addr) (e : Addr → Bool), y = .ref a ∧ SqT K H a (bs.map V.ref) ∧ x = .ref ax ∧ H ax = some (.ins C dx fx) ∧
  (∀ b ∈ bs, ∃ dz fz, H b = some (.ins C dz fz)) ∧ (ax ∈ bs → e ax = true) ∧ (∀ b ∈ bs, ∀ G, Same H G → sp [.ref b, .ref ax] G (fun v G' => v = .bl (e b) ∧ Same H G') E0) ∧ ∀ H', Same H H' → Q (.bl (bs.any e)) H'
theorem op_inOwnT (F : FnOk X.prog X.w X.K X.mg X.base L2.CX0 k f fd ps sp) (hr : Room (k + 1) X.A) (hs : PySem.W.findIn X.K (.ref C) "__eq__" = some (some (.ref f))) (hf : PySem.W.isFn X.K (.ref f) = true) (hb : Binds X.K fd ps []) : OpR X (compareOp .In) (rInOwnT X.K C sp) := by
  intro pins s σ H x y v u Q I rx ry h
  obtain ⟨a, ax, dx, fx, bs, e, rfl, hS, rfl, eax, hins, hsame, heq, q⟩ := h
  obtain rfl : v = Value.ref ax := rx
  obtain rfl : u = Value.ref a := ry
  obtain ⟨its, rv, ht, _⟩ := I.tuple hS
  have ei : its = bs.map Value.ref := refs_of_valsG (g := id) rv
  let e' : Value → Bool := fun z => match z with | .ref b => e b | _ => false
  refine in_tupleG e' (fun s' => ∃ H', Inv X pins σ H' s' ∧ Same H H') ht (fun y hy s' hJ => ?_) (fun s' hJ => ?_) ⟨H, I, Same.refl _⟩
  · obtain ⟨H1, I1, s1⟩ := hJ
    have hy2 : y ∈ its := by simpa using hy
    rw [ei] at hy2
    obtain ⟨b, hbm, rfl⟩ := List.mem_map.mp hy2
    by_cases c : b = ax
    · subst c
      exact SeqAt.EqAt.same (A := X.A.in1) (s := s') (.ref b) X.prog X.w X.xe _ ⟨(hsame hbm).symm, H1, I1, s1⟩
    · refine GQ.eqBool_refG c ?_
      obtain ⟨dz, fz, eb⟩ := hins b hbm
      obtain ⟨mA, O, _⟩ := ins_get I1.hok (s1 _ _ eb)
      obtain ⟨mB, O', _⟩ := ins_get I1.hok (s1 _ _ eax)
      obtain ⟨od, J, _⟩ := O.look
      obtain ⟨od', J', _⟩ := O'.look
      obtain ⟨m, hF⟩ := I1.fr
      have hsp := heq b hbm H1 s1
      have hl := F.len _ _ _ _ hsp
      refine PySem.W.cmp_K (op := .Eq) (tb := .ref C) (hr.in1.units0) hF I1.ok.mod.kin J J'.type (by simp [PySem.W.notFirst]) hs hf (wpAny_call (codeAny_mono (F.run X.A.in1 X.stack s' H1 ⟨[.ref b, .ref ax], []⟩ [.ref b, .ref ax] [.ref b, .ref ax] _ E0 hr.in1 I1.env0.in1 (by
        have z := hb s' [.ref b, .ref ax] I1.kIn (by simpa using hl)
        simpa using z) (.cons rfl (.cons rfl .nil)) hsp) fun r s2 hq => ?_))
      match r, hq with
      | .error e, hq => exact hq.elim
      | .ok (.ret u2), hq =>
        obtain ⟨v2, H', I', rv2, ev, sm⟩ := I1.after hq
        rw [ev] at rv2
        obtain rfl : u2 = Value.bool (e b) := rv2
        exact ⟨e b, rfl, rfl, H', I', sm⟩
  · obtain ⟨H1, I1, s1⟩ := hJ
    refine ⟨.bl (bs.any e), H1, I1, ?_, q H1 s1⟩
    show _ = _
    rw [← Array.any_toList, ei, List.any_map]
    rfl
end
/-! sorted of a list of tuples of an int and a text -/
section
open PySem.W
def isD (p : Int × Str) : PyData := .tuple [.int p.1, .str p.2]
def isLe (p q : Addr × Int × Str) : Bool := PySem.W.dataLe false (fun b : Addr × Int × Str => isD b.2) p q
def rSortIS (K : PySem.W.Frag) : List V → Hp → VK → Prop := fun vs H Q => ∃ (a : Addr) (ks : List (Addr × Int × Str)), vs = [.ref a] ∧ SqL K H a (ks.map fun p => V.ref p.1) ∧ ks.length ≤ sizeLine ∧
  (∀ p ∈ ks, SqT K H p.1 [.int p.2.1, .str p.2.2]) ∧ ∀ (p : Addr), H p = none → Q (.ref p) (upd H p (.lst ((ks.mergeSort isLe).map fun q => V.ref q.1)))
theorem alike_is (p q : Int × Str) : PySem.W.alike (isD p) (isD q) = true := by
  simp [isD, PySem.W.alike, PySem.W.alikeAll]
theorem call_sortIS {X : Cx} (hu : X.A.units + 64 < cLine) : CallR X (.builtin "sorted") (rSortIS X.K) := by
  intro pins s σ H vs us Q I r h
  obtain ⟨a, ks, rfl, hs, few, tp, q⟩ := h
  obtain ⟨its, rv, pl, _⟩ := I.list hs
  rw [Vals.ref1 r]
  have ei : its = ks.map fun p => Value.ref p.1 := refs_of_valsG rv
  have fin : ∀ out : List Value, EachIs (fun v (p : Addr × Int × Str) => v = Value.ref p.1) out (ks.mergeSort isLe) → ∃ (v : V) (H' : Hp), Inv X pins σ H' { s with heap := sortedAll s.heap its out.toArray } ∧ RelV v (Value.ref (s.heap.objs.size + 1)) ∧ Q v H' := fun out e => by
    have e := eachMap_back e
    obtain ⟨ep, at_⟩ := PyProof.Rows.sortedAll_at s.heap its out.toArray
    refine ⟨.ref _, upd H (s.heap.objs.size + 1) (.lst ((ks.mergeSort isLe).map fun q => V.ref q.1)), I.laid (t' := s.toks) (fun _ _ => PyProof.Rows.sortedAll_old) (Nat.le_succ _) ⟨?_, out, ep, ?_, at_⟩, rfl, q _ (I.hok.fresh (Nat.le_succ _))⟩
    · rw [List.length_map, List.length_mergeSort]
      exact few
    · rw [e]
      exact vals_of_refsG _ _
  have rd : ∀ p ∈ ks, ∃ as, Reads s.heap (.ref p.1) (isD p.2) as := fun p hp => by
    obtain ⟨its2, rv2, ⟨ob, g1, g2, m, g3⟩, _⟩ := I.tuple (tp p hp)
    cases rv2 with
    | @cons _ v1 _ _ r1 t1 =>
      cases t1 with
      | @cons _ v2 _ _ r2 t2 =>
        cases t2
        obtain ⟨t, rfl⟩ := (show ∃ t, v1 = Value.int p.2.1 t from r1)
        obtain ⟨t', rfl⟩ := (show ∃ t, v2 = Value.str p.2.2 t from r2)
        exact ⟨_, .tuple g1 g2 g3 (.cons (as := []) (.int _ _) (.cons (as := []) (.str _ _) .nil))⟩
  refine PySem.W.sorted_data (R := fun v (p : Addr × Int × Str) => v = Value.ref p.1) (bs := ks) (enc := fun b => isD b.2) pl.isList (by rw [ei]; exact eachMap _ ks fun _ _ => rfl) (by rw [ei]; exact eachMap _ ks rd) (PySem.W.AllAlike.of fun b b' => alike_is b.2 b'.2) (.inl fun d hd => ?_) few (fun b _ => ?_) fun out _ e => ?_
  · obtain ⟨p, hp, rfl⟩ := List.mem_map.mp hd
    exact ⟨_, _, rfl⟩
  · have : (isD b.2).depth ≤ 1 := by simp [isD, PyData.depth, PyData.depthAll]
    omega
  · exact fin out e
end
end L2.Tb
set_option Elab.async false
set_option linter.all false
set_option maxRecDepth 100000
set_option maxHeartbeats 8000000
namespace L2.K19
open PySem PySem.Spec PyProof.Rows L2.Tb
open SX (S)
/-! ### formulas -/
inductive Fm where
  | lt (n : List Nat)
  | op (s : Nat) (l r : Fm)
deriving DecidableEq
def sgL : Nat → List Nat
  | 0 => [42]
  | 1 => [47, 47]
  | _ => [62, 62]
theorem sgL_len (s : Nat) : (sgL s).length ≤ 2 := by
  unfold sgL
  split <;> decide
def Fm.txt : Fm → List Nat
  | .lt n => n
  | .op s l r => [40] ++ l.txt ++ [32] ++ sgL s ++ [32] ++ r.txt ++ [41]
def Fm.ops : Fm → Nat
  | .lt _ => 0
  | .op _ l r => l.ops + 1 + r.ops
def Fm.dep : Fm → Nat
  | .lt _ => 0
  | .op _ l r => max l.dep r.dep + 1
def Fm.sgs : Fm → List (List Nat)
  | .lt _ => []
  | .op s l r => l.sgs ++ [sgL s] ++ r.sgs
def Fm.ok : Fm → Bool
  | .lt n => nameB n
  | .op s l r => decide (s < 3) && (l.ok && r.ok)
theorem Fm.ok_op {s : Nat} {l r : Fm} (h : (Fm.op s l r).ok = true) : s < 3 ∧ l.ok = true ∧ r.ok = true := by
  simp only [Fm.ok, Bool.and_eq_true, decide_eq_true_eq] at h
  exact h
theorem Fm.ok_mk {s : Nat} {l r : Fm} (hs : s < 3) (h1 : l.ok = true) (h2 : r.ok = true) : (Fm.op s l r).ok = true := by
  simp only [Fm.ok, Bool.and_eq_true, decide_eq_true_eq]
  exact ⟨hs, h1, h2⟩
theorem Fm.sgs_len : ∀ f : Fm, f.sgs.length = f.ops
  | .lt _ => rfl
  | .op s l r => by
    have h1 := Fm.sgs_len l
    have h2 := Fm.sgs_len r
    simp only [Fm.sgs, Fm.ops, List.length_append, List.length_singleton, h1, h2]
theorem Fm.dep_ops : ∀ f : Fm, f.dep ≤ f.ops
  | .lt _ => Nat.le_refl _
  | .op s l r => by
    have h1 := Fm.dep_ops l
    have h2 := Fm.dep_ops r
    simp only [Fm.dep, Fm.ops]
    omega
theorem Fm.txt_len : ∀ f : Fm, f.ok = true → f.txt.length ≤ 8 * (f.ops + 1) + 6 * f.ops
  | .lt n, h => by
    have := (nameB_len h).2
    simp only [Fm.txt, Fm.ops]
    omega
  | .op s l r, h => by
    obtain ⟨_, hl, hr⟩ := Fm.ok_op h
    have h1 := Fm.txt_len l hl
    have h2 := Fm.txt_len r hr
    have h3 := sgL_len s
    simp only [Fm.txt, Fm.ops, List.length_append, List.length_singleton]
    omega
theorem Fm.txt_pos : ∀ f : Fm, f.ok = true → f.txt ≠ []
  | .lt n, h => fun e => by
    have h1 := (nameB_len h).1
    have e2 : n = [] := e
    rw [e2] at h1
    exact absurd h1 (by decide)
  | .op s l r, _ => by simp [Fm.txt]
/-- how often a sign stands in a text -/
def cnt (c : Nat) (l : List Nat) : Nat := l.countP (· == c)
theorem name_no40 {n : List Nat} (h : nameB n = true) : cnt 40 n = 0 := by
  unfold cnt
  rw [List.countP_eq_zero]
  intro c hc
  cases n with
  | nil => cases hc
  | cons a r =>
    simp only [nameB, lowB, Bool.and_eq_true, Nat.ble_eq] at h
    have key : 48 ≤ c := by
      rcases List.mem_cons.mp hc with rfl | hc
      · omega
      · have := List.all_eq_true.mp h.2.2 c hc
        simp only [signB, lowB, Bool.or_eq_true, Bool.and_eq_true, Nat.ble_eq] at this
        omega
    simp only [beq_iff_eq]
    omega
theorem Fm.cnt_ops : ∀ f : Fm, f.ok = true → cnt 40 f.txt = f.ops
  | .lt n, h => name_no40 h
  | .op s l r, h => by
    obtain ⟨hs, hl, hr⟩ := Fm.ok_op h
    have h1 := Fm.cnt_ops l hl
    have h2 := Fm.cnt_ops r hr
    have h3 : cnt 40 (sgL s) = 0 := by
      unfold sgL
      split <;> decide
    unfold cnt at h1 h2 h3 ⊢
    simp only [Fm.txt, Fm.ops, List.countP_append, h1, h2, h3]
    simp [List.countP_cons]
    omega
/-! each once by its text, in order -/
section
variable {α β : Type}
def insK (t : α → List Nat) (l : List α) (q : α) : List α := if (l.any fun x => decide (t x = t q)) = true then l.map (fun x => if t x = t q then q else x) else l ++ [q]
def ddK (t : α → List Nat) (z : List α) : List α := z.foldl (insK t) []
theorem insK_map {t : β → List Nat} {g : α → β} (l : List α) (q : α) : (insK (fun x => t (g x)) l q).map g = insK t (l.map g) (g q) := by
  unfold insK
  rw [List.any_map]
  by_cases c : (l.any fun x => decide (t (g x) = t (g q))) = true
  · rw [if_pos c, if_pos (show (l.any ((fun x => decide (t x = t (g q))) ∘ g)) = true from c), List.map_map, List.map_map]
    refine List.map_congr_left fun x _ => ?_
    simp only [Function.comp]
    by_cases e : t (g x) = t (g q)
    · rw [if_pos e, if_pos e]
    · rw [if_neg e, if_neg e]
  · rw [if_neg c, if_neg (show ¬ (l.any ((fun x => decide (t x = t (g q))) ∘ g)) = true from c), List.map_append]
    rfl
theorem ddK_map {t : β → List Nat} {g : α → β} (z : List α) : (ddK (fun x => t (g x)) z).map g = ddK t (z.map g) := by
  have go : ∀ (z l : List α), (z.foldl (insK fun x => t (g x)) l).map g = (z.map g).foldl (insK t) (l.map g) := by
    intro z
    induction z with
    | nil => intro l; rfl
    | cons q z ih =>
      intro l
      rw [List.foldl_cons, List.map_cons, List.foldl_cons, ih, insK_map]
  exact go z []
theorem mem_insK {t : α → List Nat} {l : List α} {q x : α} (h : x ∈ insK t l q) : x = q ∨ x ∈ l := by
  unfold insK at h
  split at h
  · obtain ⟨y, hy, rfl⟩ := List.mem_map.mp h
    by_cases e : t y = t q
    · exact .inl (if_pos e)
    · exact .inr (by rw [if_neg e]; exact hy)
  · rcases List.mem_append.mp h with h | h
    · exact .inr h
    · exact .inl (List.mem_singleton.mp h)
theorem txt_insK {t : α → List Nat} {l : List α} {q y : α} (h : y = q ∨ y ∈ l) : ∃ x ∈ insK t l q, t x = t y := by
  unfold insK
  by_cases c : (l.any fun x => decide (t x = t q)) = true
  · rw [if_pos c]
    have hq : ∃ x ∈ l.map (fun x => if t x = t q then q else x), t x = t q := by
      obtain ⟨x, hx, e⟩ := List.any_eq_true.mp c
      exact ⟨q, List.mem_map.mpr ⟨x, hx, if_pos (of_decide_eq_true e)⟩, rfl⟩
    rcases h with rfl | h
    · exact hq
    · by_cases e : t y = t q
      · obtain ⟨x, a, b⟩ := hq
        exact ⟨x, a, b.trans e.symm⟩
      · exact ⟨y, List.mem_map.mpr ⟨y, h, if_neg e⟩, rfl⟩
  · rw [if_neg c]
    rcases h with rfl | h
    · exact ⟨y, List.mem_append_right _ List.mem_cons_self, rfl⟩
    · exact ⟨y, List.mem_append_left _ h, rfl⟩
theorem nd_insK {t : α → List Nat} {l : List α} {q : α} (h : (l.map t).Nodup) : ((insK t l q).map t).Nodup := by
  unfold insK
  by_cases c : (l.any fun x => decide (t x = t q)) = true
  · rw [if_pos c, List.map_map]
    have e : (t ∘ fun x => if t x = t q then q else x) = t := by
      funext x
      simp only [Function.comp]
      by_cases e : t x = t q
      · rw [if_pos e, e]
      · rw [if_neg e]
    rw [e]
    exact h
  · rw [if_neg c, List.map_append]
    refine List.nodup_append.mpr ⟨h, by simp, fun a ha b hb => ?_⟩
    simp only [List.map_cons, List.map_nil, List.mem_singleton] at hb
    subst hb
    obtain ⟨x, hx, rfl⟩ := List.mem_map.mp ha
    exact fun e => c (List.any_eq_true.mpr ⟨x, hx, decide_eq_true e⟩)
theorem len_insK {t : α → List Nat} {l : List α} {q : α} : (insK t l q).length ≤ l.length + 1 := by
  unfold insK
  split
  · rw [List.length_map]
    omega
  · rw [List.length_append, List.length_singleton]
    exact Nat.le_refl _
theorem foldK {t : α → List Nat} : ∀ (z l : List α), (l.map t).Nodup → (((z.foldl (insK t) l).map t).Nodup ∧ (z.foldl (insK t) l).length ≤ l.length + z.length ∧ (∀ x ∈ z.foldl (insK t) l, x ∈ l ∨ x ∈ z) ∧ ∀ y, y ∈ l ∨ y ∈ z → ∃ x ∈ z.foldl (insK t) l, t x = t y)
  | [], l, h => ⟨h, Nat.le_refl _, fun x hx => .inl hx, fun y hy => ⟨y, hy.elim id (fun z => by cases z), rfl⟩⟩
  | q :: z, l, h => by
    obtain ⟨h1, h2, h3, h4⟩ := foldK z (insK t l q) (nd_insK h)
    refine ⟨h1, ?_, fun x hx => ?_, fun y hy => ?_⟩
    · have := len_insK (t := t) (l := l) (q := q)
      rw [List.foldl_cons, List.length_cons]
      omega
    · rcases h3 x hx with a | a
      · rcases mem_insK a with rfl | a
        · exact .inr List.mem_cons_self
        · exact .inl a
      · exact .inr (List.mem_cons_of_mem _ a)
    · rcases hy with hy | hy
      · obtain ⟨x, a, b⟩ := txt_insK (t := t) (q := q) (.inr hy)
        obtain ⟨x2, a2, b2⟩ := h4 x (.inl a)
        exact ⟨x2, a2, b2.trans b⟩
      · rcases List.mem_cons.mp hy with rfl | hy
        · obtain ⟨x, a, b⟩ := txt_insK (t := t) (l := l) (q := y) (.inl rfl)
          obtain ⟨x2, a2, b2⟩ := h4 x (.inl a)
          exact ⟨x2, a2, b2.trans b⟩
        · exact h4 y (.inr hy)
theorem ddK_nd (t : α → List Nat) (z : List α) : ((ddK t z).map t).Nodup := (foldK z [] List.nodup_nil).1
theorem ddK_len (t : α → List Nat) (z : List α) : (ddK t z).length ≤ z.length := by
  have := (foldK (t := t) z [] List.nodup_nil).2.1
  rw [List.length_nil, Nat.zero_add] at this
  exact this
theorem ddK_mem {t : α → List Nat} {z : List α} {x : α} (h : x ∈ ddK t z) : x ∈ z := ((foldK z [] List.nodup_nil).2.2.1 x h).elim (fun z => by cases z) id
theorem ddK_txt {t : α → List Nat} {z : List α} {y : α} (h : y ∈ z) : ∃ x ∈ ddK t z, t x = t y := (foldK z [] List.nodup_nil).2.2.2 y (.inr h)
theorem ddK_snoc (t : α → List Nat) (z : List α) (q : α) : ddK t (z ++ [q]) = insK t (ddK t z) q := by
  unfold ddK
  rw [List.foldl_append]
  rfl
end
def keyLe (p q : Int × Str) : Bool := PySem.W.dataLe false isD p q
def Fm.key (f : Fm) : Int × Str := ((f.ops : Int), S f.txt)
def fmLe (f g : Fm) : Bool := keyLe f.key g.key
def ordF (z : List Fm) : List Fm := (ddK Fm.txt z).mergeSort fmLe
def innF : Fm → List Fm
  | .lt _ => []
  | .op s l r => ordF ((innF l ++ [l]) ++ (innF r ++ [r]))
def partsF (f : Fm) : List Fm := innF f ++ [f]
/-- all formulas within a formula, as often as they are written -/
def subsF : Fm → List Fm
  | .lt n => [.lt n]
  | .op s l r => [.op s l r] ++ subsF l ++ subsF r
theorem ordF_mem {z : List Fm} {x : Fm} (h : x ∈ ordF z) : x ∈ z := ddK_mem ((List.mergeSort_perm _ _).mem_iff.mp h)
theorem ordF_txt {z : List Fm} {y : Fm} (h : y ∈ z) : ∃ x ∈ ordF z, x.txt = y.txt := by
  obtain ⟨x, a, b⟩ := ddK_txt (t := Fm.txt) h
  exact ⟨x, (List.mergeSort_perm _ _).mem_iff.mpr a, b⟩
theorem ordF_len (z : List Fm) : (ordF z).length ≤ z.length := by
  unfold ordF
  rw [List.length_mergeSort]
  exact ddK_len _ _
theorem innF_len : ∀ f : Fm, (innF f).length ≤ 2 * f.ops
  | .lt _ => Nat.le_refl _
  | .op s l r => by
    have h1 := innF_len l
    have h2 := innF_len r
    refine Nat.le_trans (ordF_len _) ?_
    simp only [List.length_append, List.length_singleton, Fm.ops]
    omega
theorem subsF_self (f : Fm) : f ∈ subsF f := by cases f <;> simp [subsF]
theorem partsF_subs : ∀ (f g : Fm), g ∈ partsF f → g ∈ subsF f
  | .lt n, g, h => by
    simp only [partsF, innF, List.nil_append, List.mem_singleton] at h
    rw [h]
    exact subsF_self _
  | .op s l r, g, h => by
    rcases List.mem_append.mp h with h | h
    · have := ordF_mem h
      simp only [subsF, List.mem_append]
      rcases List.mem_append.mp this with a | a
      · exact .inl (.inr (partsF_subs l g a))
      · exact .inr (partsF_subs r g a)
    · rw [List.mem_singleton.mp h]
      exact subsF_self _
theorem subs_parts : ∀ (f g : Fm), g ∈ subsF f → ∃ x ∈ partsF f, x.txt = g.txt
  | .lt n, g, h => by
    simp only [subsF, List.mem_singleton] at h
    exact ⟨.lt n, by simp [partsF], by rw [h]⟩
  | .op s l r, g, h => by
    simp only [subsF, List.mem_append, List.mem_singleton] at h
    have up : ∀ x ∈ partsF l ++ partsF r, x.txt = g.txt → ∃ x ∈ partsF (.op s l r), x.txt = g.txt := fun x hx e => by
      obtain ⟨y, a, b⟩ := ordF_txt hx
      exact ⟨y, List.mem_append_left _ a, b.trans e⟩
    rcases h with (h | h) | h
    · exact ⟨.op s l r, by simp [partsF], by rw [h]⟩
    · obtain ⟨x, a, b⟩ := subs_parts l g h
      exact up x (List.mem_append_left _ a) b
    · obtain ⟨x, a, b⟩ := subs_parts r g h
      exact up x (List.mem_append_right _ a) b
theorem subs_ok : ∀ (f g : Fm), f.ok = true → g ∈ subsF f → g.ok = true ∧ g.ops ≤ f.ops
  | .lt n, g, h, hg => by
    simp only [subsF, List.mem_singleton] at hg
    rw [hg]
    exact ⟨h, Nat.le_refl _⟩
  | .op s l r, g, h, hg => by
    obtain ⟨hs, hl, hr⟩ := Fm.ok_op h
    simp only [subsF, List.mem_append, List.mem_singleton] at hg
    rcases hg with (hg | hg) | hg
    · rw [hg]
      exact ⟨h, Nat.le_refl _⟩
    · obtain ⟨a, b⟩ := subs_ok l g hl hg
      exact ⟨a, by simp only [Fm.ops]; omega⟩
    · obtain ⟨a, b⟩ := subs_ok r g hr hg
      exact ⟨a, by simp only [Fm.ops]; omega⟩
theorem parts_ok {f g : Fm} (h : f.ok = true) (hg : g ∈ partsF f) : g.ok = true ∧ g.ops ≤ f.ops := subs_ok f g h (partsF_subs f g hg)
/-! put -/
def putW (w : List Nat) (g : Fm) : Fm → Fm
  | .lt n => if n = w then g else .lt n
  | .op s l r => .op s (putW w g l) (putW w g r)
theorem putW_ok {w : List Nat} {g : Fm} (hg : g.ok = true) : ∀ f : Fm, f.ok = true → (putW w g f).ok = true
  | .lt n, h => by
    unfold putW
    split
    · exact hg
    · exact h
  | .op s l r, h => by
    obtain ⟨hs, hl, hr⟩ := Fm.ok_op h
    exact Fm.ok_mk hs (putW_ok hg l hl) (putW_ok hg r hr)
theorem putW_subs {w : List Nat} {g : Fm} : ∀ f : Fm, putW w g f ≠ f → g ∈ subsF (putW w g f)
  | .lt n, h => by
    unfold putW at h ⊢
    split at h
    · rw [if_pos ‹_›]
      exact subsF_self _
    · exact absurd rfl h
  | .op s l r, h => by
    simp only [putW, subsF, List.mem_append]
    by_cases c : putW w g l = l
    · have : putW w g r ≠ r := fun e => h (by simp only [putW, c, e])
      exact .inr (putW_subs r this)
    · exact .inl (.inr (putW_subs l c))
theorem putW_dep {w : List Nat} {g : Fm} : ∀ f : Fm, (putW w g f).dep ≤ f.dep + g.dep
  | .lt n => by
    unfold putW
    split
    · simp only [Fm.dep]; omega
    · simp only [Fm.dep]; omega
  | .op s l r => by
    have h1 := putW_dep (w := w) (g := g) l
    have h2 := putW_dep (w := w) (g := g) r
    simp only [putW, Fm.dep]
    omega
end L2.K19
set_option Elab.async false
set_option linter.all false
set_option maxRecDepth 100000
set_option maxHeartbeats 8000000
namespace L2.K19
open PySem PySem.Spec PyProof.Rows L2.Tb
open SX (S)
abbrev s_fsign : Stmt := inClass (top 25) 2
abbrev N_fsign : List Str := ["self"]
theorem sc_fsign : FnScope N_fsign ["self"] (defScope s_fsign) := ⟨rfl, rfl, rfl, by decide +kernel, rfl, by decide +kernel, by decide +kernel⟩
abbrev s_fname : Stmt := inClass (top 25) 3
abbrev N_fname : List Str := ["self"]
theorem sc_fname : FnScope N_fname ["self"] (defScope s_fname) := ⟨rfl, rfl, rfl, by decide +kernel, rfl, by decide +kernel, by decide +kernel⟩
abbrev s_fleft : Stmt := inClass (top 25) 4
abbrev N_fleft : List Str := ["self"]
theorem sc_fleft : FnScope N_fleft ["self"] (defScope s_fleft) := ⟨rfl, rfl, rfl, by decide +kernel, rfl, by decide +kernel, by decide +kernel⟩
abbrev s_fright : Stmt := inClass (top 25) 5
abbrev N_fright : List Str := ["self"]
theorem sc_fright : FnScope N_fright ["self"] (defScope s_fright) := ⟨rfl, rfl, rfl, by decide +kernel, rfl, by decide +kernel, by decide +kernel⟩
abbrev s_fparts : Stmt := inClass (top 25) 7
abbrev N_fparts : List Str := ["self"]
theorem sc_fparts : FnScope N_fparts ["self"] (defScope s_fparts) := ⟨rfl, rfl, rfl, by decide +kernel, rfl, by decide +kernel, by decide +kernel⟩
abbrev s_flen : Stmt := inClass (top 25) 13
abbrev N_flen : List Str := ["self"]
theorem sc_flen : FnScope N_flen ["self"] (defScope s_flen) := ⟨rfl, rfl, rfl, by decide +kernel, rfl, by decide +kernel, by decide +kernel⟩
abbrev s_feq : Stmt := inClass (top 25) 15
abbrev N_feq : List Str := ["self", "other"]
theorem sc_feq : FnScope N_feq ["self", "other"] (defScope s_feq) := ⟨rfl, rfl, rfl, by decide +kernel, rfl, by decide +kernel, by decide +kernel⟩
abbrev s_fstr : Stmt := inClass (top 25) 16
abbrev N_fstr : List Str := ["self"]
theorem sc_fstr : FnScope N_fstr ["self"] (defScope s_fstr) := ⟨rfl, rfl, rfl, by decide +kernel, rfl, by decide +kernel, by decide +kernel⟩
abbrev s_fcont : Stmt := inClass (top 25) 12
abbrev N_fcont : List Str := ["self", "value"]
theorem sc_fcont : FnScope N_fcont ["self", "value"] (defScope s_fcont) := ⟨rfl, rfl, rfl, by decide +kernel, rfl, by decide +kernel, by decide +kernel⟩
/-! ### formulas in the heap -/
def fmF (sg : Str) (nm lv rv : V) (tx : Str) (sgs inn : Addr) : List (Str × V) := [("_sign", .str sg), ("_name", nm), ("_left", lv), ("_right", rv), ("_text", .str tx), ("_signs", .ref sgs), ("_inner", .ref inn)]
/-- a formula stands at a -/
inductive FmAt (FC : Addr) (H : Hp) : Addr → Fm → Prop where
  | lt {a dx sg inn : Addr} {n : List Nat} : H a = some (.ins FC dx (fmF (S []) (.str (S n)) .non .non (S n) sg inn)) → H sg = some (.tup []) → H inn = some (.tup []) → FmAt FC H a (.lt n)
  | op {a dx la ra sg inn : Addr} {s : Nat} {l r : Fm} {ps : List Addr} : H a = some (.ins FC dx (fmF (S (sgL s)) .non (.ref la) (.ref ra) (S (Fm.op s l r).txt) sg inn)) → FmAt FC H la l → FmAt FC H ra r → H sg = some (.tup ((Fm.op s l r).sgs.map nmV)) →
      H inn = some (.tup (ps.map V.ref)) → ps.length = (innF (.op s l r)).length → (∀ (i : Nat) (p : Addr) (g : Fm), ps[i]? = some p → (innF (.op s l r))[i]? = some g → FmAt FC H p g) → FmAt FC H a (.op s l r)
/-- what formulas are made of -/
def FoO (o : HO) : Prop := (∃ C dx fs, o = .ins C dx fs ∧ fs ≠ []) ∨ ∃ xs, o = .tup xs
theorem FmAt.mono {FC : Addr} {H H' : Hp} (k : ∀ b o, FoO o → H b = some o → H' b = some o) : ∀ {a : Addr} {f : Fm}, FmAt FC H a f → FmAt FC H' a f := by
  intro a f h
  have ki : ∀ {b C dx : Addr} {x : Str × V} {fs : List (Str × V)}, H b = some (.ins C dx (x :: fs)) → H' b = some (.ins C dx (x :: fs)) := fun e => k _ _ (.inl ⟨_, _, _, rfl, fun z => by cases z⟩) e
  have kt : ∀ {b : Addr} {xs : List V}, H b = some (.tup xs) → H' b = some (.tup xs) := fun e => k _ _ (.inr ⟨_, rfl⟩) e
  induction h with
  | lt e1 e2 e3 => exact .lt (ki e1) (kt e2) (kt e3)
  | op e1 _ _ e4 e5 e6 _ i1 i2 i3 => exact .op (ki e1) i1 i2 (kt e4) (kt e5) e6 i3
theorem FmAt.same {FC : Addr} {H H' : Hp} {a : Addr} {f : Fm} (h : FmAt FC H a f) (s : Same H H') : FmAt FC H' a f := h.mono fun b o _ e => s b o e
theorem foo_tbl {o : HO} (h : FoO o) : ∀ ps, o ≠ .tbl ps := by
  rcases h with ⟨_, _, _, rfl, _⟩ | ⟨_, rfl⟩ <;> exact fun ps z => by cases z
theorem FmAt.N {FC : Addr} {H H' : Hp} {a : Addr} {f : Fm} (h : FmAt FC H a f) (s : LamX.ExtN H H') : FmAt FC H' a f := h.mono fun b o n e => s b o e (foo_tbl n)
/-- all but the object at p, which is a list -/
theorem FmAt.B {FC : Addr} {H H' : Hp} {a p : Addr} {f : Fm} (h : FmAt FC H a f) (s : SameB p H H') (hp : ∃ xs, H p = some (.lst xs)) : FmAt FC H' a f := by
  obtain ⟨xs, ep⟩ := hp
  refine h.mono fun b o n e => s b o (fun z => ?_) e
  rw [z, ep] at e
  cases e
  rcases n with ⟨_, _, _, z, _⟩ | ⟨_, z⟩ <;> cases z
/-- all but the object at p, an instance without attributes -/
theorem FmAt.I {FC : Addr} {H H' : Hp} {a p : Addr} {f : Fm} (h : FmAt FC H a f) (s : ∀ b o, b ≠ p → H b = some o → H' b = some o) (hp : ∃ C dx, H p = some (.ins C dx [])) : FmAt FC H' a f := by
  obtain ⟨C, dx, ep⟩ := hp
  refine h.mono fun b o n e => s b o (fun z => ?_) e
  rw [z, ep] at e
  cases e
  rcases n with ⟨_, _, _, z, n⟩ | ⟨_, z⟩
  · cases z
    exact n rfl
  · cases z
/-- all but the object at p, an instance with few attributes -/
theorem FmAt.P {FC : Addr} {H H' : Hp} {a p : Addr} {f : Fm} (h : FmAt FC H a f) (s : ∀ b o, b ≠ p → H b = some o → H' b = some o) (hp : ∃ C dx fs, H p = some (.ins C dx fs) ∧ fs.length ≤ 6) : FmAt FC H' a f := by
  obtain ⟨C, dx, fs, ep, l6⟩ := hp
  have ki : ∀ {b C dx : Addr} {x : List (Str × V)}, x.length = 7 → H b = some (.ins C dx x) → H' b = some (.ins C dx x) := fun {b _ _ x} l7 e => s b _ (fun z => by
    rw [z, ep] at e
    cases e
    omega) e
  have kt : ∀ {b : Addr} {xs : List V}, H b = some (.tup xs) → H' b = some (.tup xs) := fun {b _} e => s b _ (fun z => by
    rw [z, ep] at e
    cases e) e
  induction h with
  | lt e1 e2 e3 => exact .lt (ki rfl e1) (kt e2) (kt e3)
  | op e1 _ _ e4 e5 e6 _ i1 i2 i3 => exact .op (ki rfl e1) i1 i2 (kt e4) (kt e5) e6 i3
def Fm.sg : Fm → Str
  | .lt _ => S []
  | .op s _ _ => S (sgL s)
def Fm.nm : Fm → V
  | .lt n => .str (S n)
  | .op _ _ _ => .non
/-- what a formula's object shows -/
structure FmO (FC : Addr) (H : Hp) (a : Addr) (f : Fm) : Prop where
  ex : ∃ (dx sg inn : Addr) (lv rv : V) (ps : List Addr), H a = some (.ins FC dx (fmF f.sg f.nm lv rv (S f.txt) sg inn)) ∧ H sg = some (.tup (f.sgs.map nmV)) ∧ H inn = some (.tup (ps.map V.ref)) ∧ Paired (FmAt FC H) ps (innF f) ∧
    (match f with | .lt _ => lv = .non ∧ rv = .non | .op _ l r => ∃ la ra, lv = .ref la ∧ rv = .ref ra ∧ FmAt FC H la l ∧ FmAt FC H ra r)
theorem paired_ix {α β : Type} {R : α → β → Prop} : ∀ {xs : List α} {ys : List β}, xs.length = ys.length → (∀ (i : Nat) x y, xs[i]? = some x → ys[i]? = some y → R x y) → Paired R xs ys
  | [], [], _, _ => .nil
  | x :: xs, y :: ys, h, k => .cons (k 0 x y rfl rfl) (paired_ix (by simpa using h) fun i a b h1 h2 => k (i + 1) a b (by simpa using h1) (by simpa using h2))
  | [], _ :: _, h, _ => by cases h
  | _ :: _, [], h, _ => by cases h
theorem paired_get2 {α β : Type} {R : α → β → Prop} : ∀ {xs : List α} {ys : List β}, Paired R xs ys → ∀ (i : Nat) x y, xs[i]? = some x → ys[i]? = some y → R x y
  | _, _, .nil, i, x, y, h, _ => by cases h
  | _, _, .cons a _, 0, x, y, h1, h2 => by
    cases h1
    cases h2
    exact a
  | _, _, .cons _ t, i + 1, x, y, h1, h2 => paired_get2 t i x y (by simpa using h1) (by simpa using h2)
theorem FmAt.o {FC : Addr} {H : Hp} {a : Addr} {f : Fm} (h : FmAt FC H a f) : FmO FC H a f := by
  cases h with
  | lt e1 e2 e3 => exact ⟨_, _, _, _, _, [], e1, e2, e3, .nil, rfl, rfl⟩
  | op e1 h1 h2 e4 e5 e6 e7 => exact ⟨_, _, _, _, _, _, e1, e4, e5, paired_ix e6 e7, _, _, rfl, rfl, h1, h2⟩
theorem FmAt.ins {FC : Addr} {H : Hp} {a : Addr} {f : Fm} (h : FmAt FC H a f) : ∃ dx fs, H a = some (.ins FC dx fs) := by
  obtain ⟨dx, sg, inn, lv, rv, ps, e, _⟩ := h.o.ex
  exact ⟨dx, _, e⟩
/-- the class Formula -/
structure FoF (K : PySem.W.Frag) (mg : Str → Option Value) (FC : Addr) : Prop where
  mgF : mg "Formula" = some (.ref FC)
  cls : Cls K FC
  n1 : NoAttr K FC "_sign"
  n2 : NoAttr K FC "_name"
  n3 : NoAttr K FC "_left"
  n4 : NoAttr K FC "_right"
  n5 : NoAttr K FC "_text"
  n6 : NoAttr K FC "_signs"
  n7 : NoAttr K FC "_inner"
  ex : InsC K FC
  self : PySem.W.kitOne K (.ref FC) (.ref FC) = some true
/-- what is no formula -/
def NoF (K : PySem.W.Frag) (FC : Addr) (H : Hp) (v : V) : Prop := ∃ t, TyX K H v t ∧ PySem.W.kitOne K t (.ref FC) = some false
theorem FmAt.ty {K : PySem.W.Frag} {mg : Str → Option Value} {FC : Addr} {H : Hp} {a : Addr} {f : Fm} (h : FmAt FC H a f) (FF : FoF K mg FC) : TyX K H (.ref a) (.ref FC) := by
  obtain ⟨dx, fs, e⟩ := h.ins
  exact .base (.ins e FF.cls FF.ex.ha FF.ex.hn FF.ex.ht FF.ex.hm)
/-! ### how methods stand -/
def PrpM (P : Program) (w : World) (K : PySem.W.Frag) (mg : Str → Option Value) (base : Heap) (C : Addr) (x : Str) (k : Nat) (sp : Sp) : Prop := ∃ p g fd, PropOf K C x p g ∧ FnOk P w K mg base L2.CX0 k g fd ["self"] sp ∧ Binds K fd ["self"] []
def SpcM (P : Program) (w : World) (K : PySem.W.Frag) (mg : Str → Option Value) (base : Heap) (CX : CXT) (C : Addr) (x : Str) (ps : List Str) (k : Nat) (sp : Sp) : Prop := ∃ f fd, PySem.W.findIn K (.ref C) x = some (some (.ref f)) ∧ PySem.W.isFn K (.ref f) = true ∧ FnOk P w K mg base CX k f fd ps sp ∧ Binds K fd ps []
/-! ### promises -/
def spFsign (FC : Addr) : Sp := fun vs H Q _ => ∃ (a : Addr) (f : Fm), vs = [.ref a] ∧ FmAt FC H a f ∧ Q (.str f.sg) H
def spFname (FC : Addr) : Sp := fun vs H Q _ => ∃ (a : Addr) (f : Fm), vs = [.ref a] ∧ FmAt FC H a f ∧ Q f.nm H
def spFleft (FC : Addr) : Sp := fun vs H Q _ => ∃ (a : Addr) (f : Fm), vs = [.ref a] ∧ FmAt FC H a f ∧ (match f with | .lt _ => Q .non H | .op _ l _ => ∀ b, FmAt FC H b l → Q (.ref b) H)
def spFright (FC : Addr) : Sp := fun vs H Q _ => ∃ (a : Addr) (f : Fm), vs = [.ref a] ∧ FmAt FC H a f ∧ (match f with | .lt _ => Q .non H | .op _ _ r => ∀ b, FmAt FC H b r → Q (.ref b) H)
def spFparts (FC : Addr) : Sp := fun vs H Q _ => ∃ (a : Addr) (f : Fm), vs = [.ref a] ∧ FmAt FC H a f ∧ f.ops ≤ 100 ∧ ∀ (T : Addr) (ps : List Addr) (H' : Hp), Same H H' → H' T = some (.tup (ps.map V.ref)) → Paired (FmAt FC H') ps (partsF f) → Q (.ref T) H'
def spFlen (FC : Addr) : Sp := fun vs H Q _ => ∃ (a : Addr) (f : Fm), vs = [.ref a] ∧ FmAt FC H a f ∧ Q (.int (f.ops : Nat)) H
def spFstr (FC : Addr) : Sp := fun vs H Q _ => ∃ (a : Addr) (f : Fm), vs = [.ref a] ∧ FmAt FC H a f ∧ Q (.str (S f.txt)) H
def spFeq (K : PySem.W.Frag) (FC : Addr) : Sp := fun vs H Q _ => ∃ (a : Addr) (f : Fm) (y : V), vs = [.ref a, y] ∧ FmAt FC H a f ∧ ((∃ (c : Addr) (g : Fm), y = .ref c ∧ FmAt FC H c g ∧ Q (.bl (decide (f.txt = g.txt))) H) ∨ (NoF K FC H y ∧ Q (.bl false) H))
def spFcont (K : PySem.W.Frag) (FC : Addr) : Sp := fun vs H Q _ => ∃ (a : Addr) (f : Fm) (y : V), vs = [.ref a, y] ∧ FmAt FC H a f ∧ f.ops ≤ 100 ∧ ((∃ (c : Addr) (g : Fm), y = .ref c ∧ FmAt FC H c g ∧ ∀ H', Same H H' → Q (.bl ((partsF f).any fun p => decide (p.txt = g.txt))) H') ∨ (NoF K FC H y ∧ Q (.bl false) H))
theorem dec_str {a b : List Nat} : decide (V.str (S a) = V.str (S b)) = decide (a = b) := decide_eq_decide.mpr ⟨fun h => SX.S_inj (by injection h), fun h => by rw [h]⟩
section
variable {P : Program} {w : World} {K : PySem.W.Frag} {mg : Str → Option Value} {base : Heap} {f : Addr} {fd : FuncData} {FC : Addr}
theorem c_fsign (FF : FoF K mg FC) (F : FunD K "sign" "Formula.sign" (defArgs s_fsign) (defBody s_fsign) (defScope s_fsign) [] [] f fd) : FnOk P w K mg base L2.CX0 1 f fd ["self"] (spFsign FC) := by
  have hnd := sc_fsign.nd
  refine F.ok sc_fsign (fun vs H Q E h => ?_) (fun cdv A outer s H vs Q E hr h => ?_)
  · obtain ⟨a, g, rfl, _⟩ := h
    rfl
  · obtain ⟨a, g, rfl, hg, q⟩ := h
    obtain ⟨dx, sg, inn, lv, rv, ps, e, _⟩ := hg.o.ex
    exact ⟨_, (pss_one (ps_ret (pe_fld (pv 0) (by rfl)))), _, rfl, a, FC, dx, _, _, rfl, e, FF.cls, FF.n1, rfl, q⟩
theorem c_fname (FF : FoF K mg FC) (F : FunD K "name" "Formula.name" (defArgs s_fname) (defBody s_fname) (defScope s_fname) [] [] f fd) : FnOk P w K mg base L2.CX0 1 f fd ["self"] (spFname FC) := by
  have hnd := sc_fname.nd
  refine F.ok sc_fname (fun vs H Q E h => ?_) (fun cdv A outer s H vs Q E hr h => ?_)
  · obtain ⟨a, g, rfl, _⟩ := h
    rfl
  · obtain ⟨a, g, rfl, hg, q⟩ := h
    obtain ⟨dx, sg, inn, lv, rv, ps, e, _⟩ := hg.o.ex
    exact ⟨_, (pss_one (ps_ret (pe_fld (pv 0) (by rfl)))), _, rfl, a, FC, dx, _, _, rfl, e, FF.cls, FF.n2, rfl, q⟩
theorem c_fleft (FF : FoF K mg FC) (F : FunD K "left" "Formula.left" (defArgs s_fleft) (defBody s_fleft) (defScope s_fleft) [] [] f fd) : FnOk P w K mg base L2.CX0 1 f fd ["self"] (spFleft FC) := by
  have hnd := sc_fleft.nd
  refine F.ok sc_fleft (fun vs H Q E h => ?_) (fun cdv A outer s H vs Q E hr h => ?_)
  · obtain ⟨a, g, rfl, _⟩ := h
    rfl
  · obtain ⟨a, g, rfl, hg, q⟩ := h
    cases hg with
    | lt e1 e2 e3 => exact ⟨_, (pss_one (ps_ret (pe_fld (pv 0) (by rfl)))), _, rfl, a, FC, _, _, _, rfl, e1, FF.cls, FF.n3, rfl, q⟩
    | op e1 h1 h2 e4 e5 e6 e7 => exact ⟨_, (pss_one (ps_ret (pe_fld (pv 0) (by rfl)))), _, rfl, a, FC, _, _, _, rfl, e1, FF.cls, FF.n3, rfl, q _ h1⟩
theorem c_fright (FF : FoF K mg FC) (F : FunD K "right" "Formula.right" (defArgs s_fright) (defBody s_fright) (defScope s_fright) [] [] f fd) : FnOk P w K mg base L2.CX0 1 f fd ["self"] (spFright FC) := by
  have hnd := sc_fright.nd
  refine F.ok sc_fright (fun vs H Q E h => ?_) (fun cdv A outer s H vs Q E hr h => ?_)
  · obtain ⟨a, g, rfl, _⟩ := h
    rfl
  · obtain ⟨a, g, rfl, hg, q⟩ := h
    cases hg with
    | lt e1 e2 e3 => exact ⟨_, (pss_one (ps_ret (pe_fld (pv 0) (by rfl)))), _, rfl, a, FC, _, _, _, rfl, e1, FF.cls, FF.n4, rfl, q⟩
    | op e1 h1 h2 e4 e5 e6 e7 => exact ⟨_, (pss_one (ps_ret (pe_fld (pv 0) (by rfl)))), _, rfl, a, FC, _, _, _, rfl, e1, FF.cls, FF.n4, rfl, q _ h2⟩
theorem c_fparts (FF : FoF K mg FC) (F : FunD K "parts" "Formula.parts" (defArgs s_fparts) (defBody s_fparts) (defScope s_fparts) [] [] f fd) : FnOk P w K mg base L2.CX0 1 f fd ["self"] (spFparts FC) := by
  have hnd := sc_fparts.nd
  refine F.ok sc_fparts (fun vs H Q E h => ?_) (fun cdv A outer s H vs Q E hr h => ?_)
  · obtain ⟨a, g, rfl, _⟩ := h
    rfl
  · obtain ⟨a, g, rfl, hg, l8, q⟩ := h
    obtain ⟨dx, sg, inn, lv, rv, ps, e, _, e3, pp, _⟩ := hg.o.ex
    refine ⟨_, (pss_one (ps_ret (pe_op (show OpR _ (binaryOp .Add) (rCatA K) from op_catA) (pe_fld (pv 0) (by rfl)) (pe_tup (pa_cons (pv 0) pa_nil))))), ?_⟩
    refine ⟨_, rfl, a, FC, dx, _, _, rfl, e, FF.cls, FF.n7, rfl, _, rfl, by show 1 ≤ sizeLine; decide, fun T nT => ?_⟩
    have s1 := same_new (o := .tup [V.ref a]) nT
    have lp : ps.length ≤ 200 := by
      have := innF_len g
      rw [pp.length]
      omega
    refine ⟨inn, T, ps.map V.ref, [.ref a], rfl, rfl, SqT.of (s1 _ _ e3), SqT.of upd_same, ?_, fun z => ?_, fun _ z => (by cases z), fun _ _ T2 nT2 => ?_⟩
    · rw [List.length_map, sizeLine_eq]
      simp only [List.length_singleton]
      omega
    · have z2 : ps = [] := List.map_eq_nil_iff.mp z
      subst z2
      refine q T [a] _ s1 upd_same ?_
      have e0 : innF g = [] := by
        cases hi : innF g with
        | nil => rfl
        | cons x y =>
          rw [hi] at pp
          cases pp
      unfold partsF
      rw [e0]
      exact .cons (hg.same s1) .nil
    · have s2 := s1.trans (same_new (o := .tup (ps.map V.ref ++ [.ref a])) nT2)
      refine q T2 (ps ++ [a]) _ s2 (by rw [upd_same, List.map_append]; rfl) ?_
      exact paired_app (paired_imp (fun _ _ z => FmAt.same z s2) pp) (.cons (hg.same s2) .nil)
theorem c_flen (T : Bt mg) (FF : FoF K mg FC) (F : FunD K "__len__" "Formula.__len__" (defArgs s_flen) (defBody s_flen) (defScope s_flen) [] [] f fd) : FnOk P w K mg base L2.CX0 1 f fd ["self"] (spFlen FC) := by
  have hnd := sc_flen.nd
  refine F.ok sc_flen (fun vs H Q E h => ?_) (fun cdv A outer s H vs Q E hr h => ?_)
  · obtain ⟨a, g, rfl, _⟩ := h
    rfl
  · obtain ⟨a, g, rfl, hg, q⟩ := h
    obtain ⟨dx, sg, inn, lv, rv, ps, e, e2, e3, pp, _⟩ := hg.o.ex
    refine ⟨_, (pss_one (ps_ret (pe_callB call_len_seq (by rfl) T.m_len (by decide +kernel) (pa_cons (pe_fld (pv 0) (by rfl)) pa_nil)))), _, rfl, a, FC, dx, _, _, rfl, e, FF.cls, FF.n6, rfl, sg, _, rfl, .inr (SqT.of e2), ?_⟩
    rw [List.length_map, Fm.sgs_len]
    exact q
theorem c_fstr (mstr : mg "str" = none) (FF : FoF K mg FC) (F : FunD K "__str__" "Formula.__str__" (defArgs s_fstr) (defBody s_fstr) (defScope s_fstr) [] [] f fd) : FnOk P w K mg base L2.CX0 1 f fd ["self"] (spFstr FC) := by
  have hnd := sc_fstr.nd
  refine F.ok sc_fstr (fun vs H Q E h => ?_) (fun cdv A outer s H vs Q E hr h => ?_)
  · obtain ⟨a, g, rfl, _⟩ := h
    rfl
  · obtain ⟨a, g, rfl, hg, q⟩ := h
    obtain ⟨dx, sg, inn, lv, rv, ps, e, e2, e3, pp, _⟩ := hg.o.ex
    exact ⟨_, (pss_one (ps_ret (pe_callTy SkE.call_str_str (by rfl) mstr (by decide +kernel) (pa_cons (pe_fld (pv 0) (by rfl)) pa_nil)))), _, rfl, a, FC, dx, _, _, rfl, e, FF.cls, FF.n5, rfl, _, rfl, q⟩
theorem c_feq (T : Bt mg) (FF : FoF K mg FC) (F : FunD K "__eq__" "Formula.__eq__" (defArgs s_feq) (defBody s_feq) (defScope s_feq) [] [] f fd) : FnOk P w K mg base L2.CX0 1 f fd ["self", "other"] (spFeq K FC) := by
  have hnd := sc_feq.nd
  refine F.ok sc_feq (fun vs H Q E h => ?_) (fun cdv A outer s H vs Q E hr h => ?_)
  · obtain ⟨a, g, y, rfl, _⟩ := h
    rfl
  · obtain ⟨a, g, y, rfl, hg, q⟩ := h
    obtain ⟨dx, sg, inn, lv, rv, ps, e, e2, e3, pp, _⟩ := hg.o.ex
    refine ⟨_, (pss_one (ps_ret (pe_and (pe_callB call_isi (by rfl) T.m_isinstance (by decide +kernel) (pa_cons (pv 1) (pa_cons (pe_glob (v := .ref FC) (by rfl) FF.mgF rfl) pa_nil))) (pe_one (pe_cmpR op_eq (pe_fld (pv 0) (by rfl)) (pe_fld (pv 1) (by rfl)) (nomark _)))))), ?_⟩
    rcases q with ⟨c, g2, rfl, hg2, q⟩ | ⟨⟨t, ty, kn⟩, q⟩
    · obtain ⟨dx2, sg2, inn2, lv2, rv2, ps2, k1, _⟩ := hg2.o.ex
      refine ⟨_, rfl, _, _, _, _, _, rfl, .own FC, hg2.ty FF, FF.self, true, rfl, iteT ?_⟩
      refine ⟨_, rfl, a, FC, dx, _, _, rfl, e, FF.cls, FF.n5, rfl, _, rfl, c, FC, dx2, _, _, rfl, k1, FF.cls, FF.n5, rfl, rfl, ?_⟩
      rw [dec_str]
      exact q
    · exact ⟨_, rfl, _, _, _, _, _, rfl, .own FC, ty, kn, false, rfl, iteF q⟩
theorem c_fcont (T : Bt mg) (FF : FoF K mg FC) (PP : PrpM P w K mg base FC "parts" 1 (spFparts FC)) (QQ : SpcM P w K mg base L2.CX0 FC "__eq__" ["self", "other"] 1 (spFeq K FC)) (F : FunD K "__contains__" "Formula.__contains__" (defArgs s_fcont) (defBody s_fcont) (defScope s_fcont) [] [] f fd) : FnOk P w K mg base L2.CX0 4 f fd ["self", "value"] (spFcont K FC) := by
  have hnd := sc_fcont.nd
  obtain ⟨p9, g9, fd9, PP9, FP9, BP9⟩ := PP
  obtain ⟨fe, fde, he, hef, Fe, Be⟩ := QQ
  refine F.ok sc_fcont (fun vs H Q E h => ?_) (fun cdv A outer s H vs Q E hr h => ?_)
  · obtain ⟨a, g, y, rfl, _⟩ := h
    rfl
  · obtain ⟨a, g, y, rfl, hg, l8, q⟩ := h
    obtain ⟨dx, fs, e⟩ := hg.ins
    refine ⟨_, (pss_one (ps_ret (pe_and (pe_callB call_isi (by rfl) T.m_isinstance (by decide +kernel) (pa_cons (pv 1) (pa_cons (pe_glob (v := .ref FC) (by rfl) FF.mgF rfl) pa_nil))) (pe_one (pe_cmpR (show OpR _ (compareOp .In) (rInOwnT K FC (spFeq K FC)) from op_inOwnT Fe (hr.mono (by omega)) he hef Be) (pv 1) (pe_prop (E := L2.E0) (pv 0) FF.cls PP9 FP9 (hr.mono (by omega)) BP9 .nil (fun _ _ _ _ _ _ _ h => h.elim) (by rfl)) (by rfl)))))), ?_⟩
    rcases q with ⟨c, g2, rfl, hg2, q⟩ | ⟨⟨t, ty, kn⟩, q⟩
    · refine ⟨_, rfl, _, _, _, _, _, rfl, .own FC, hg2.ty FF, FF.self, true, rfl, iteT ?_⟩
      refine ⟨_, rfl, _, rfl, a, dx, fs, rfl, e, a, g, rfl, hg, l8, fun T9 ps H1 s1 eT pp => ?_⟩
      obtain ⟨dc, fc, ec⟩ := (hg2.same s1).ins
      have at_ : ∀ b ∈ ps, ∃ x, x ∈ partsF g ∧ FmAt FC H1 b x := fun b hb => by
        obtain ⟨i, hi⟩ := List.getElem?_of_mem hb
        have li : i < ps.length := (List.getElem?_eq_some_iff.mp hi).1
        have li2 : i < (partsF g).length := by rw [← pp.length]; exact li
        exact ⟨_, List.getElem_mem li2, paired_get2 pp i b _ hi (List.getElem?_eq_getElem li2)⟩
      have hx : ∀ b : Addr, ∃ t : List Nat, ∀ x, FmAt FC H1 b x → x.txt = t := fun b => by
        by_cases c : ∃ x, FmAt FC H1 b x
        · obtain ⟨x, hx⟩ := c
          refine ⟨x.txt, fun y hy => ?_⟩
          obtain ⟨d1, _, _, _, _, _, k1, _⟩ := hx.o.ex
          obtain ⟨d2, _, _, _, _, _, k2, _⟩ := hy.o.ex
          rw [k1] at k2
          injection k2 with k2
          injection k2 with _ _ k2
          simp only [fmF, List.cons.injEq, Prod.mk.injEq, V.str.injEq, true_and, and_true] at k2
          exact (SX.S_inj k2.2.2.2.2.1).symm
        · exact ⟨[], fun x hx => absurd ⟨x, hx⟩ c⟩
      let tx : Addr → List Nat := fun b => (hx b).choose
      have htx : ∀ b x, FmAt FC H1 b x → x.txt = tx b := fun b => (hx b).choose_spec
      refine ⟨T9, c, dc, fc, ps, fun b => decide (tx b = g2.txt), rfl, SqT.of eT, rfl, ec, fun b hb => ?_, fun _ => ?_, fun b hb G sG => ?_, fun H' s' => ?_⟩
      · obtain ⟨x, _, hx⟩ := at_ b hb
        exact hx.ins
      · exact decide_eq_true (htx c g2 (hg2.same s1)).symm
      · obtain ⟨x, _, hx⟩ := at_ b hb
        refine ⟨b, x, .ref c, rfl, hx.same sG, .inl ⟨c, g2, rfl, (hg2.same s1).same sG, ?_, sG⟩⟩
        rw [htx b x hx]
      · have ea : (ps.any fun b => decide (tx b = g2.txt)) = (partsF g).any fun p => decide (p.txt = g2.txt) := by
          have go : ∀ {xs : List Addr} {ys : List Fm}, Paired (FmAt FC H1) xs ys → (xs.any fun b => decide (tx b = g2.txt)) = ys.any fun p => decide (p.txt = g2.txt) := fun {xs ys} p => by
            induction p with
            | nil => rfl
            | cons r _ ih => rw [List.any_cons, List.any_cons, ih, htx _ _ r]
          exact go pp
        rw [ea]
        exact q H' (s1.trans s')
    · exact ⟨_, rfl, _, _, _, _, _, rfl, .own FC, ty, kn, false, rfl, iteF q⟩
end
end L2.K19
set_option Elab.async false
set_option linter.all false
set_option maxRecDepth 100000
set_option maxHeartbeats 4000000
/-! name = {k: v for ..}, the name a local -/
namespace L2.Tb
open PySem PySem.Spec PyProof.Rows
section
variable {X : Cx}
theorem ps_setDc {i : Nat} {y : Str} {py : Pos} {kx vx tg iter : Expr} {ifs : List Expr} {scope : Scope} {own : List (Str × Nat)} {pos spos : Pos} {wi : TI} {g : TG} {tt : TT} {tk tv : TE} (hc : X.calm = true) (hN : X.N.Nodup) (hy : X.N[i]? = some y) (hyl : X.env.scope.names.lookup y = some .local)
    (hsw : swapsWith (.DictComp kx vx [⟨tg, iter, ifs, 0⟩] scope pos) (some (.Name y py)) spos.line X.env = pure true) (hi : PI X tg iter wi) (ok : BlkOk X.N X.env.scope scope own)
    (hg : ∀ (s : Shared) (H : Hp) (C : Addr) (cl : List (Str × Addr)) (fp : List Addr), PG (X.blk s H scope (compEnvC scope cl C X.env) fp) tg g) (ht : ∀ (s : Shared) (H : Hp) (C : Addr) (cl : List (Str × Addr)) (fp : List Addr), PTs (X.blk s H scope (compEnvC scope cl C X.env) fp) ifs tt)
    (hk : ∀ (s : Shared) (H : Hp) (C : Addr) (cl : List (Str × Addr)) (fp : List Addr), PE (X.blk s H scope (compEnvC scope cl C X.env) fp) kx tk)
    (he : ∀ (s : Shared) (H : Hp) (C : Addr) (cl : List (Str × Addr)) (fp : List Addr), PE (X.blk s H scope (compEnvC scope cl C X.env) fp) vx tv) (hs : ∀ x, foldedSetIterable iter X.env x = pure x := by intro _; rfl) :
    PS X (.Assign [.Name y py] (.DictComp kx vx [⟨tg, iter, ifs, 0⟩] scope pos) spos) (tAsg (tDc wi g tt tk tv (own.map (·.2))) (gName i)) := by
  refine ⟨fun pins s σ H D I h => ?_⟩
  rw [exec_Assign_Name_used _ _ _ _ hsw]
  refine wpAny_bind (wpAny_standAt (wpAny_bind ?_))
  show wpAny _ X.A (do let _ ← comprehension (.DictComp kx vx [⟨tg, iter, ifs, 0⟩] scope pos) scope X.env (firstIterPos [⟨tg, iter, ifs, 0⟩] pos) newDict false (eval iter X.env) (some (assign (.Name y py) X.env))) _ _ s
  have h : tDc wi g tt tk tv (own.map (·.2)) σ H (fun x H1 => gName i x σ H1 D.nx) := h
  refine wpAny_bind (thn (dc_core (Qf := fun _ s' => SP X pins D .next s') hc hN I hi ok hg ht hk he hs h fun L C s' m H' I' q hn f => ?_) fun _ s' hq => wpAny_pure (wpAny_pure hq))
  show wpAny _ _ (assign (.Name y py) X.env (.ref L)) _ _ _
  refine wpAny_assign_Name (store_ok2 (v := V.ref L) I' hN hy (.inl hyl) rfl (fun s2 I2 ⟨a, sb, ha⟩ => ?_) (.inr hyl))
  obtain ⟨f0, f1, f2, f3, f4, f5⟩ := f
  have haC : C ≠ a := by
    rcases ha with z | z
    · rw [z]; exact f1
    · exact fun e => f4 y a z e.symm
  refine ⟨m, hn.sameBut sb haC, fun h3 sb3 => ?_⟩
  exact ⟨_, H', I2.turned (t' := s2.toks) (fun b o hb e => (sb3.2 b hb).trans e) f0 f1 f3 f4 f5, q⟩
theorem sw_trueD {kx vx : Expr} {gs : List Comprehension} {scope : Scope} {pos py : Pos} {y : Str} {l : Nat} {env : Env} (hk : env.scope.kind = .function) (hy : env.scope.names.lookup y = some .local) (hl : (py.line == pos.line) = true)
    (ha : (scope.names.any fun (n, k) => n == y && (k == .local || k == .cell)) = false) : swapsWith (.DictComp kx vx gs scope pos) (some (.Name y py)) l env = pure true := by
  have ky : env.kindOf y = some .local := hy
  have hb : env.blockKind = .function := by unfold Env.blockKind; rw [hk]; rfl
  unfold swapsWith
  simp only [hb, ky, ha, Expr.pos, hl]
  rfl
end
end L2.Tb
set_option Elab.async false
set_option linter.all false
set_option maxRecDepth 100000
set_option maxHeartbeats 4000000
/-! == of two tuples of three dicts each; sorted of a dict with int keys, any number of them -/
namespace L2.Tb
open PySem PySem.Spec PyProof.Rows
open PySem.SeqAt PySem.AutoSeq1
section
variable {prog : Program} {w : World}
/-- two tuples, item by item -/
theorem tupEq_in (l b : Addr) (xs ys : Array Value) (n n2 : Nat) (dd dd2 : Option Addr) (sl sl2 : Array (Option Value)) (e : Nat → Bool) :
    MeetsIn prog w (Builtin.«tuple.__eq__» ⟨[.ref l, .ref b], []⟩)
      (fun A R s => (s.heap.get? l = some { cls := .type "tuple", dict := dd, data := .seq xs n, slots := sl } ∧ s.heap.get? b = some { cls := .type "tuple", dict := dd2, data := .seq ys n2, slots := sl2 }) ∧
        (∀ j (h1 : j < xs.size) (h2 : j < ys.size), EqP prog w A.in1 s xs[j] ys[j] (e j)) ∧ R (.ok (.ret (.bool ((List.range (min xs.size ys.size)).all e && xs.size == ys.size)))) s) := by
  rintro A R ⟨hp, g, d, tk, os⟩ ⟨⟨ha, hb⟩, he, fin⟩
  have sub := AutoSeq1.sub_tuple_tuple
  have len : (xs.toList.zip ys.toList).length = min xs.size ys.size := by simp
  wp_walk using wpAny_loadPart' ha, wpAny_loadPart' hb,
    wpAny_forIn_list _ (fun left got s' => (got.1 = none ∧ s' = ⟨hp, g, d, tk, os⟩) ∧ ∃ at_, left = (xs.toList.zip ys.toList).drop at_ ∧ R (.ok (.ret (.bool (((List.range (min xs.size ys.size)).drop at_).all e && xs.size == ys.size)))) ⟨hp, g, d, tk, os⟩) _
  case h => exact ⟨⟨rfl, rfl⟩, 0, rfl, by simpa using fin⟩
  case turn =>
    rintro ⟨u, v⟩ left got s' ⟨⟨g1, rfl⟩, at_, hleft, q⟩
    have lt : at_ < min xs.size ys.size := by
      rw [← len]
      refine Nat.lt_of_not_le fun ge => ?_
      rw [List.drop_of_length_le ge] at hleft
      cases hleft
    have ltz : at_ < (xs.toList.zip ys.toList).length := by rw [len]; exact lt
    have lx : at_ < xs.size := by omega
    have ly : at_ < ys.size := by omega
    rw [List.drop_eq_getElem_cons ltz] at hleft
    obtain ⟨huv, hrest⟩ := List.cons.inj hleft
    obtain rfl : u = xs[at_] := by simpa using congrArg Prod.fst huv
    obtain rfl : v = ys[at_] := by simpa using congrArg Prod.snd huv
    have cut : (List.range (min xs.size ys.size)).drop at_ = at_ :: (List.range (min xs.size ys.size)).drop (at_ + 1) := by
      simp [List.drop_eq_getElem_cons, lt]
    rw [cut, List.all_cons] at q
    refine wpAny_bind (he at_ lx ly _ _ ?_)
    cases c : e at_ with
    | false =>
      rw [c] at q
      wp_walk
      simpa using q
    | true =>
      rw [c] at q
      wp_walk
      exact ⟨⟨rfl, rfl⟩, at_ + 1, hrest, by simpa using q⟩
  case fin =>
    rintro ⟨g1, g2⟩ s' ⟨⟨hg, rfl⟩, at_, hleft, q⟩
    obtain rfl : g1 = none := hg
    have ge : min xs.size ys.size ≤ at_ := by
      rw [← len]
      refine Nat.le_of_not_lt fun lt => ?_
      rw [List.drop_eq_getElem_cons lt] at hleft
      cases hleft
    rw [List.drop_of_length_le (by simpa using ge)] at q
    wp_walk
    simpa [Builtin.Tuple.tupleCompareSizes] using q
/-- two tuples, whatever their items say here -/
theorem tupEq_run {A : Around} {s : Shared} {l b : Addr} {xs ys : Array Value} {e : Nat → Bool} (hl : s.heap.IsTuple l xs) (hb : s.heap.IsTuple b ys) (hu : A.units < cLine)
    (he : ∀ j (h1 : j < xs.size) (h2 : j < ys.size), EqP prog w A.in1 s xs[j] ys[j] (e j)) (E Q : Value → Shared → Prop) (h : Q (.bool ((List.range (min xs.size ys.size)).all e && xs.size == ys.size)) s) : wpAny (model prog w) A (richCompare .Eq (.ref l) (.ref b)) Q E s := by
  obtain ⟨⟨_, dd, _, sl⟩, ho, hc, n, hd⟩ := hl
  obtain ⟨⟨_, dd2, _, sl2⟩, ho2, hc2, n2, hd2⟩ := hb
  simp only at hc hd hc2 hd2
  subst hc hd hc2 hd2
  refine wpAny_richCompare_same_room (op := .Eq) ⟨_, ho, rfl⟩ ⟨_, ho2, rfl⟩ F.slot_tuple_eq ?_ hu
  exact call_meetsIn F.slot_tuple_eq ⟨_, ho, rfl⟩ F.entry_tuple_eq (F.args_tuple_eq_2 _ _) (tupEq_in l b xs ys n n2 dd dd2 sl sl2 e) ⟨⟨ho, ho2⟩, he, (fun x => nomatch x), h⟩
end
/-- equal dicts: as many keys, and each key of the one is there with the same value -/
def dEq (ks ls : List (Key × V)) : Bool := ks.length == ls.length && ks.all fun p => decide (valV ls p.1 = some p.2)
/-- all values ints -/
def IntVals (ks : List (Key × V)) : Prop := ∀ p ∈ ks, ∃ i : Int, p.2 = .int i
section
variable {X : Cx} {pins : List (Addr × Obj)} {σ : L2.St} {H : Hp} {s : Shared}
theorem dHits {P : Program} {A : Around} {w : World} {ls : List (Key × V)} {vb : List (Key × Value)} (rb : KV ls vb) (il : IntVals ls) : ∀ {ks : List (Key × V)} {va : List (Key × Value)}, KV ks va → IntVals ks → PySem.W.KeqHitsP P w A s vb va (ks.all fun p => decide (valV ls p.1 = some p.2)) := by
  intro ks va ra
  unfold KV at ra
  induction ra with
  | nil => exact fun _ => .nil
  | @cons p q ps qs h t ih =>
    intro ik
    obtain ⟨h1, h2⟩ := h
    obtain ⟨key, v⟩ := q
    obtain rfl : p.1 = key := h1
    obtain ⟨i, hi⟩ := ik p List.mem_cons_self
    have rest := ih fun p' hm => ik p' (List.mem_cons_of_mem _ hm)
    rw [List.all_cons]
    have ro := rb.val p.1
    cases e : valV ls p.1 with
    | none =>
      rw [e] at ro
      have hn : valueAt vb p.1 = none := by
        cases c : valueAt vb p.1 with
        | none => rfl
        | some y => rw [c] at ro; exact ro.elim
      rw [decide_eq_false (by simp), Bool.false_and]
      exact .miss hn
    | some u =>
      rw [e] at ro
      obtain ⟨y, hy, ry⟩ := RelO.some_of ro
      have hu : ∃ j : Int, u = .int j := by
        have : ∀ {ls : List (Key × V)}, IntVals ls → valV ls p.1 = some u → ∃ j : Int, u = .int j := by
          intro ls
          induction ls with
          | nil => intro _ e; cases e
          | cons x r ih =>
            intro hl e
            by_cases c : x.1 = p.1
            · obtain ⟨k, v⟩ := x
              obtain rfl : k = p.1 := c
              rw [valV_pos rfl] at e
              cases e
              exact hl _ List.mem_cons_self
            · obtain ⟨k, v⟩ := x
              rw [valV_neg c] at e
              exact ih (fun p' hm => hl p' (List.mem_cons_of_mem _ hm)) e
        exact this il e
      obtain ⟨j, rfl⟩ := hu
      rw [hi] at h2 ⊢
      obtain ⟨t1, rfl⟩ := h2
      obtain ⟨t2, rfl⟩ := ry
      have hd : decide ((some (V.int j)) = some (V.int i)) = (i == j) := by
        by_cases c : i = j
        · subst c; simp
        · simp [c, Ne.symm c]
      rw [hd]
      exact .hit hy (EqAt.int_int i t1 j t2).eqP rest
/-- two tuples of three dicts, keys of one model, values ints -/
def rEqT3 : R2 := fun x y H Q => ∃ (a b a0 a1 a2 b0 b1 b2 : Addr) (k0 k1 k2 l0 l1 l2 : List (Key × V)), x = .ref a ∧ y = .ref b ∧ H a = some (.tup [.ref a0, .ref a1, .ref a2]) ∧ H b = some (.tup [.ref b0, .ref b1, .ref b2]) ∧
  (H a0 = some (.dK k0) ∧ H a1 = some (.dK k1) ∧ H a2 = some (.dK k2)) ∧ (H b0 = some (.dK l0) ∧ H b1 = some (.dK l1) ∧ H b2 = some (.dK l2)) ∧ (IntVals k0 ∧ IntVals k1 ∧ IntVals k2) ∧ (IntVals l0 ∧ IntVals l1 ∧ IntVals l2) ∧
  (dEq k0 k0 = true ∧ dEq k1 k1 = true ∧ dEq k2 k2 = true) ∧ Q (.bl (dEq k0 l0 && (dEq k1 l1 && dEq k2 l2))) H
theorem dict_eqP (I : Inv X pins σ H s) {A : Around} (hu : A.units < cLine) {a b : Addr} {ks ls : List (Key × V)} (ha : H a = some (.dK ks)) (hb : H b = some (.dK ls)) (ik : IntVals ks) (il : IntVals ls) (self : dEq ks ks = true) : EqP X.prog X.w A s (.ref a) (.ref b) (dEq ks ls) := by
  by_cases hab : a = b
  · subst hab
    rw [ha] at hb
    cases hb
    rw [self]
    exact (EqAt.same _).eqP
  · refine eqP_refs hab fun E Q q => ?_
    obtain ⟨_, ya, va, ra, da⟩ := (show ObjOk X.prog X.w H s.heap a (.dK ks) from I.hok a _ ha)
    obtain ⟨_, yb, vb, rb, db⟩ := (show ObjOk X.prog X.w H s.heap b (.dK ls) from I.hok b _ hb)
    refine PySem.W.rcP_dicts (knd := mixKind X.prog X.w) ya yb da db hu (fun _ => dHits rb il ra ik) E Q ?_
    rw [← ra.length, ← rb.length]
    exact q
theorem refs3 {a b c : Addr} : ∀ {us : List Value}, Vals [V.ref a, .ref b, .ref c] us → us = [.ref a, .ref b, .ref c]
  | _, .cons h0 (.cons h1 (.cons h2 .nil)) => by
    cases (show _ = Value.ref a from h0)
    cases (show _ = Value.ref b from h1)
    cases (show _ = Value.ref c from h2)
    rfl
theorem op_eqT3 (hu : X.A.units + 64 < cLine) : OpR X (compareOp .Eq) rEqT3 := by
  intro pins s σ H x y v u Q I rx ry h
  obtain ⟨a, b, a0, a1, a2, b0, b1, b2, k0, k1, k2, l0, l1, l2, rfl, rfl, ea, eb, ⟨d0, d1, d2⟩, ⟨e0, e1, e2⟩, ⟨i0, i1, i2⟩, ⟨j0, j1, j2⟩, ⟨s0, s1, s2⟩, q⟩ := h
  cases (show v = Value.ref a from rx)
  cases (show u = Value.ref b from ry)
  obtain ⟨us, r1, p1, _⟩ := I.tuple (SqT.of ea)
  obtain ⟨ws, r2, p2, _⟩ := I.tuple (SqT.of eb)
  have eu : us = [.ref a0, .ref a1, .ref a2] := refs3 r1
  have ew : ws = [.ref b0, .ref b1, .ref b2] := refs3 r2
  subst eu
  subst ew
  have hin : X.A.in1.units < cLine := by
    show X.A.units + 1 < cLine
    omega
  refine tupEq_run (e := fun j => match j with | 0 => dEq k0 l0 | 1 => dEq k1 l1 | _ => dEq k2 l2) p1 p2 (by omega) (fun j h1 h2 => ?_) _ _ ⟨.bl (dEq k0 l0 && (dEq k1 l1 && dEq k2 l2)), H, I, ?_, q⟩
  · match j, h1 with
    | 0, _ => exact dict_eqP I hin d0 e0 i0 j0 s0
    | 1, _ => exact dict_eqP I hin d1 e1 i1 j1 s1
    | 2, _ => exact dict_eqP I hin d2 e2 i2 j2 s2
    | j + 3, h => exact absurd h (by show ¬ (j + 3 < 3); omega)
  · show Value.bool _ = Value.bool _
    congr 1
    show ((List.range 3).all _ && true) = _
    rw [Bool.and_true]
    show (dEq k0 l0 && (dEq k1 l1 && (dEq k2 l2 && true))) = _
    rw [Bool.and_true]
/-- sorted(d), d a dict with int keys, any number of them -/
def rSortDI : List V → Hp → VK → Prop := fun xs H Q => ∃ (a : Addr) (kvs : List (Key × V)) (ks : List Int), xs = [.ref a] ∧ Rd H a (.dK kvs) ∧ kvs.map (·.1) = ks.map Sum.inl ∧ ks.length ≤ 100000 ∧
  ∀ (ys : List Int) (p : Addr), ys.Perm ks → ys.Pairwise (· ≤ ·) → H p = none → Q (.ref p) (upd H p (.lst (ys.map V.int)))
theorem intsEach : ∀ {vs : List Value} {ns : List Int}, vs.length = ns.length → (∀ (j : Nat) (v : Value), vs[j]? = some v → ∃ (x : Int) (t : Tok), ns[j]? = some x ∧ v = .int x t) → IntsAre vs ns
  | [], [], _, _ => .nil
  | v :: vs, n :: ns, hl, h => by
    obtain ⟨x, t, e1, e2⟩ := h 0 v rfl
    obtain rfl : n = x := Option.some.inj e1
    subst e2
    refine .cons _ _ (intsEach (by simpa using hl) fun j u e => ?_)
    obtain ⟨x, t, a, b⟩ := h (j + 1) u (by simpa using e)
    exact ⟨x, t, by simpa using a, b⟩
  | [], _ :: _, hl, _ => by simp at hl
  | _ :: _, [], hl, _ => by simp at hl
theorem call_sortDI (hcalm : X.calm = true) : CallR X (.builtin "sorted") rSortDI := by
  intro pins s σ H xs us Q I r q
  obtain ⟨a, kvs, ks, rfl, hd, hks, few, q⟩ := q
  rw [Vals.ref1 r]
  obtain ⟨z, lo, vs, rel, dd⟩ := dk_rd I.hok hd
  obtain ⟨ep, hat⟩ := dd.dictAt
  have keys : vs.map (·.1) = ks.map Sum.inl := rel.keys.symm.trans hks
  have hl : vs.length = ks.length := by simpa using congrArg List.length keys
  have fit : vs.length ≤ sizeLine := by rw [hl, sizeLine_eq]; omega
  refine Calls.call_function_entry PyProof.Rows.kind_sorted PyProof.Rows.plain_sorted PyProof.Rows.entry_sorted (PyProof.Rows.args_sorted1 _) (show wpAny _ _ (Builtin.«sorted» _) _ _ _ from ?_)
  unfold Builtin.«sorted»
  refine wpAny_bind (m := checkCount "sorted" 1 1 _) (wpAny_pure (wpAny_bind ?_))
  refine (PySem.W.kdu_collect (A := X.A.in1) (PySem.W.kdl_dict (knd := mixKind X.prog X.w) (kvs := vs) (ep := ep) lo) (I.ok.hd hcalm) hat fit fun h1 tk acc keep got => ?_)
  have hal : acc.toList.length = ks.length := by rw [Array.length_toList, got.1, hl]
  have ia9 : IntsAre acc.toList ks := intsEach hal fun j v e => by
    obtain ⟨k, x, e1, e2⟩ := got.2 j v (by rw [← Array.getElem?_toList]; exact e)
    have e3 : (ks.map Sum.inl)[j]? = some k := by
      rw [← keys, List.getElem?_map, e1]
      rfl
    rw [List.getElem?_map] at e3
    obtain ⟨y, e4, rfl⟩ := Option.map_eq_some_iff.mp e3
    rcases keyIs_shape (show keyIs (Sum.inl y) v = true from e2) with ⟨i, t, ek, ev⟩ | ⟨z, t, ek, ev⟩
    · cases ek
      exact ⟨y, t, e4, ev⟩
    · cases ek
  have I1 : Inv X pins σ H { s with heap := h1, toks := tk } := I.kept keep
  refine wpAny_bind (wpAny_newList ?_ (by rw [hal, sizeLine_eq]; omega))
  have hoL : (h1.push (seqObj "list" acc.toList.toArray 0)).get? h1.objs.size = some (seqObj "list" acc.toList.toArray 0) := Heap.get?_push_size _ rfl
  show wpAny _ _ _ _ _ { s with heap := h1.push (seqObj "list" acc.toList.toArray 0), toks := tk }
  refine wpAny_bind (wpAny_holding (wpAny_call_entry PyProof.Rows.slot_list_sort ⟨_, hoL, rfl⟩ PyProof.Rows.entry_list_sort
    (SrtO.list_sort_ord (s := { s with heap := h1.push (seqObj "list" acc.toList.toArray 0), toks := tk }) SrtO.swo_int hoL (by rw [hal, sizeLine_eq]; omega) (fun h2 => SrtO.ints_sortable ia9 h2) fun out g1 g2 => ⟨_, rfl, ?_⟩) (PyProof.Rows.args_list_sort _)))
  obtain ⟨k1, k2, k3⟩ := SrtO.ints_out ia9 g1 g2
  obtain ⟨e', he'⟩ := PyProof.Rows.sortedHeap_at (vs := acc.toList) (out := out.toArray) hoL
  have hlen : ((out.map SrtO.iv).map V.int).length ≤ sizeLine := by
    rw [List.length_map, k2.length_eq, sizeLine_eq]
    omega
  refine wpAny_pure ⟨_, rfl, .ref h1.objs.size, upd H h1.objs.size (.lst ((out.map SrtO.iv).map V.int)), I1.laid (t' := tk) (fun b u e => ?_) (Nat.le_refl _) ⟨hlen, out, e', vals_of_ints k1, he'⟩, rfl, q _ _ k2 k3 (I1.hok.fresh (Nat.le_refl _))⟩
  have hb : b < h1.objs.size := Heap.lt_size e
  have old := PyProof.Rows.sortedHeap_old (a := h1.objs.size) (vs := acc.toList) (out := out.toArray) (Nat.ne_of_lt hb) (show b < (h1.push (seqObj "list" acc.toList.toArray 0)).objs.size by rw [size_push']; exact Nat.lt_succ_of_lt hb)
  exact old.trans (Heap.get?_push_of_some _ e)
end
end L2.Tb
set_option Elab.async false
set_option linter.all false
set_option maxRecDepth 100000
set_option maxHeartbeats 8000000
namespace L2.K19
open PySem PySem.Spec PyProof.Rows L2.Tb
open SX (S)
abbrev s_in_order : Stmt := top 32
abbrev N_in_order : List Str := ["parts", "part", "by_text", "text", "order", "_"]
theorem sc_in_order : FnScope N_in_order ["parts"] (defScope s_in_order) := ⟨rfl, rfl, rfl, by decide +kernel, rfl, by decide +kernel, by decide +kernel⟩
/-! ### each once, in order -/
def qtx (q : Addr × Fm) : List Nat := q.2.txt
def entK (q : Addr × Fm) : Key × V := (Sum.inr (S q.2.txt), V.ref q.1)
theorem key_dec {a b : List Nat} : decide ((Sum.inr (S a) : Key) = Sum.inr (S b)) = decide (a = b) := decide_eq_decide.mpr ⟨fun h => SX.S_inj (by injection h), fun h => by rw [h]⟩
theorem putK_ent (l : List (Addr × Fm)) (q : Addr × Fm) : putK (l.map entK) (Sum.inr (S q.2.txt)) (.ref q.1) = (insK qtx l q).map entK := by
  unfold putK insK
  have e : ((l.map entK).any fun kv => decide (kv.1 = (Sum.inr (S q.2.txt) : Key))) = l.any fun x => decide (qtx x = qtx q) := by
    rw [List.any_map]
    exact congrArg (fun f => l.any f) (funext fun x => key_dec)
  rw [e]
  by_cases c : (l.any fun x => decide (qtx x = qtx q)) = true
  · rw [if_pos c, if_pos c, List.map_map, List.map_map]
    refine List.map_congr_left fun x _ => ?_
    simp only [Function.comp]
    by_cases e : qtx x = qtx q
    · rw [if_pos e, if_pos (show (entK x).1 = (Sum.inr (S q.2.txt) : Key) from by unfold entK; rw [show x.2.txt = q.2.txt from e])]
      unfold entK
      rw [show x.2.txt = q.2.txt from e]
    · rw [if_neg e, if_neg (show ¬ ((entK x).1 = (Sum.inr (S q.2.txt) : Key)) from fun z => e (of_decide_eq_true ((key_dec (a := x.2.txt) (b := q.2.txt)).symm.trans (decide_eq_true z))))]
  · rw [if_neg c, if_neg c, List.map_append]
    rfl
theorem val_ent : ∀ {l : List (Addr × Fm)}, (l.map qtx).Nodup → ∀ q ∈ l, valV (l.map entK) (Sum.inr (S q.2.txt)) = some (.ref q.1)
  | [], _, q, h => by cases h
  | x :: l, nd, q, h => by
    obtain ⟨n1, n2⟩ := List.nodup_cons.mp nd
    have ih := fun hq => val_ent n2 q hq
    unfold valV at ih ⊢
    rw [List.map_cons, List.find?_cons]
    by_cases e : x.2.txt = q.2.txt
    · rw [show decide ((entK x).1 = (Sum.inr (S q.2.txt) : Key)) = true from decide_eq_true (by unfold entK; rw [e])]
      rcases List.mem_cons.mp h with rfl | h
      · rfl
      · exact absurd (List.mem_map.mpr ⟨q, h, e.symm⟩) n1
    · rw [show decide ((entK x).1 = (Sum.inr (S q.2.txt) : Key)) = false from (key_dec (a := x.2.txt) (b := q.2.txt)).trans (decide_eq_false e)]
      rcases List.mem_cons.mp h with rfl | h
      · exact absurd rfl e
      · exact ih h
def spOrder (FC : Addr) : Sp := fun vs H Q _ => ∃ (T : Addr) (ps : List Addr) (fs : List Fm), vs = [.ref T] ∧ H T = some (.tup (ps.map V.ref)) ∧ Paired (FmAt FC H) ps fs ∧ fs.length ≤ 1000 ∧ (∀ g ∈ fs, g.ops ≤ 1000) ∧
  ∀ (R : Addr) (qs : List Addr) (H' : Hp), Same H H' → H' R = some (.tup (qs.map V.ref)) → Paired (FmAt FC H') qs (ordF fs) → Q (.ref R) H'
theorem get_take {α : Type} {l : List α} {i : Nat} {x : α} (h : l[i]? = some x) : l.take (i + 1) = l.take i ++ [x] := by rw [List.take_add_one, h]; rfl
theorem paired_zipQ {α β : Type} {R : α → β → Prop} : ∀ {xs : List α} {ys : List β}, Paired R xs ys → (∀ q ∈ xs.zip ys, R q.1 q.2) ∧ (xs.zip ys).map (·.1) = xs ∧ (xs.zip ys).map (·.2) = ys ∧ (xs.zip ys).length = xs.length
  | _, _, .nil => ⟨fun q h => (by cases h), rfl, rfl, rfl⟩
  | _, _, .cons a t => by
    obtain ⟨h1, h2, h3, h4⟩ := paired_zipQ t
    refine ⟨fun q hq => ?_, by simp [h2], by simp [h3], by simp [h4]⟩
    rcases List.mem_cons.mp hq with rfl | hq
    · exact a
    · exact h1 q hq
section
variable {P : Program} {w : World} {K : PySem.W.Frag} {mg : Str → Option Value} {base : Heap} {f : Addr} {fd : FuncData} {FC : Addr}
theorem c_in_order (T : Bt mg) (mstr : mg "str" = none) (FF : FoF K mg FC) (SS : SpcM P w K mg base L2.CX0 FC "__str__" ["self"] 1 (spFstr FC)) (LL : SpcM P w K mg base L2.CX0 FC "__len__" ["self"] 1 (spFlen FC)) (F : FnP K "_in_order" s_in_order f fd) (hm : mg "_in_order" = some (.ref f)) : Cal P w K mg base 4 "_in_order" (spOrder FC) := by
  have hnd := sc_in_order.nd
  obtain ⟨fs_, fds, hs, hsf, Fs, Bs⟩ := SS
  obtain ⟨fl_, fdl, hl, hlf, Fl, Bl⟩ := LL
  refine cal_mk F hm sc_in_order (fun _ _ _ _ _ _ us hl => match us, hl with | [_], _ => rfl) (fun vs H Q E h => ?_) (fun cdv A outer s H vs Q E hr h => ?_)
  · obtain ⟨T0, ps, fs, rfl, _⟩ := h
    rfl
  · obtain ⟨T0, ps, fs, rfl, eT, pp, few, ops9, q⟩ := h
    obtain ⟨zR, z1, z2, zl⟩ := paired_zipQ pp
    have lps : ps.length = fs.length := pp.length
    generalize hz : ps.zip fs = z at zR z1 z2 zl
    refine ⟨_, (pss_cons (ps_set (i := 2) hnd rfl (by first | exact Or.inl rfl | exact Or.inr rfl) (pe_dc (own := [("part", 1)]) (g := gName 1) (tt := tYes) (by rfl) hnd (pi_tup (pv 0)) (blkOk_by (own := [("part", 1)]) (N := N_in_order) (sc := defScope s_in_order) (by decide +kernel)) (fun _ _ _ _ _ => (pg_name (i := 1) hnd rfl (by first | exact Or.inl rfl | exact Or.inr rfl))) (fun _ _ _ _ _ => pts_nil) (fun _ _ _ _ _ => (pe_callTy (show CallR _ (.type "str") (rStrOwn FC (spFstr FC)) from call_strOwn Fs (hr.mono (by omega)) hs hsf Bs) (by rfl) mstr (by decide +kernel) (pa_cons (pv 1) pa_nil))) (fun _ _ _ _ _ => pv 1)))
      (pss_cons (ps_set (i := 4) hnd rfl (by first | exact Or.inl rfl | exact Or.inr rfl) (pe_callB (show CallR _ (.builtin "sorted") (rSortIS K) from call_sortIS (Nat.lt_of_le_of_lt (Nat.add_le_add_left (by decide) _) hr.units)) (by rfl) T.m_sorted (by decide +kernel) (pa_cons (pe_lock (pe_lc (own := [("text", 3), ("part", 1)]) (tt := tYes) (g := (gTup K 2 (gCons (gName 3) (gCons (gName 1) gNil)))) (by rfl) hnd (pi_items (pv 2)) (blkOk_by (own := [("text", 3), ("part", 1)]) (N := N_in_order) (sc := defScope s_in_order) (by decide +kernel)) (fun _ _ _ _ _ => (pg_tup (by rfl) (pgs_cons (pg_name (i := 3) hnd rfl (by first | exact Or.inl rfl | exact Or.inr rfl)) (pgs_cons (pg_name (i := 1) hnd rfl (by first | exact Or.inl rfl | exact Or.inr rfl)) pgs_nil)))) (fun _ _ _ _ _ => pts_nil) (fun _ _ _ _ _ => (pe_tup (pa_cons (pe_callB (show CallR _ (.builtin "len") (rLenOwn FC (spFlen FC)) from call_lenOwn Fl (hr.mono (by omega)) hl hlf Bl) (by rfl) T.m_len (by decide +kernel) (pa_cons (pv 1) pa_nil)) (pa_cons (pv 3) pa_nil)))))) pa_nil)))
      (pss_one (ps_ret (pe_callTy call_tuple_of (by rfl) T.m_tuple (by decide +kernel) (pa_cons (pe_lc (own := [("_", 5), ("text", 3)]) (tt := tYes) (g := (gTup K 2 (gCons (gName 5) (gCons (gName 3) gNil)))) (by rfl) hnd (pi_list (pv 4)) (blkOk_by (own := [("_", 5), ("text", 3)]) (N := N_in_order) (sc := defScope s_in_order) (by decide +kernel)) (fun _ _ _ _ _ => (pg_tup (by rfl) (pgs_cons (pg_name (i := 5) hnd rfl (by first | exact Or.inl rfl | exact Or.inr rfl)) (pgs_cons (pg_name (i := 3) hnd rfl (by first | exact Or.inl rfl | exact Or.inr rfl)) pgs_nil)))) (fun _ _ _ _ _ => pts_nil) (fun _ _ _ _ _ => (pe_dget (Nat.lt_of_le_of_lt (Nat.add_le_add_left (by decide) _) hr.units) (pv 2) (pv 3) (fun _ _ => rfl)))) pa_nil)))))), ?_⟩
    refine ⟨_, rfl, T0, rfl, ⟨_, SqT.of eT⟩, fun D nD => dc_tup (xs := ps.map V.ref) (fun i G => Same H G ∧ G D = some (.dK ((ddK qtx (z.take i)).map entK))) ⟨same_new nD, upd_same⟩ (fun i G _ h => SqT.of (h.1 _ _ eT)) ?_ ?_⟩
    · rintro i x G hi ⟨sG, eG⟩
      rw [← z1, List.map_map, List.getElem?_map] at hi
      obtain ⟨qq, hq, rfl⟩ : ∃ qq, z[i]? = some qq ∧ x = V.ref qq.1 := by
        cases e : z[i]? with
        | none => rw [e] at hi; cases hi
        | some qq => rw [e] at hi; exact ⟨qq, rfl, (Option.some.inj hi).symm⟩
      have hf := (zR qq (List.mem_of_getElem? hq)).same sG
      obtain ⟨dx, fs2, e2⟩ := hf.ins
      refine ⟨rfl, ?_⟩
      unfold tYes
      dsimp only
      rw [if_pos rfl]
      refine ⟨_, rfl, qq.1, dx, fs2, rfl, e2, qq.1, qq.2, rfl, hf, _, rfl, ?_⟩
      refine ⟨_, rfl, _, Sum.inr (S qq.2.txt), rfl, eG, ?_, same_pt nD sG, ?_⟩
      · rw [List.length_map, sizeLine_eq]
        have h1 := ddK_len qtx (z.take i)
        have h2 : (z.take i).length ≤ z.length := by rw [List.length_take]; omega
        omega
      · rw [upd_same, putK_ent, get_take hq, ddK_snoc]
    · rintro H1 ⟨s1, e1⟩
      have lz : z.length ≤ 1000 := by omega
      rw [List.length_map, lps, show fs.length = z.length by omega, List.take_length] at e1
      have ndd := ddK_nd qtx z
      have memd : ∀ q' ∈ ddK qtx z, q' ∈ z := fun q' h => ddK_mem h
      have ldd : (ddK qtx z).length ≤ 1000 := Nat.le_trans (ddK_len _ _) lz
      have hmap : (ddK qtx z).map (·.2) = ddK Fm.txt fs := by
        rw [← z2]
        exact ddK_map (t := Fm.txt) (g := fun q : Addr × Fm => q.2) z
      generalize hd : ddK qtx z = dd at e1 ndd memd ldd hmap
      -- the pairs of lengths and texts
      refine gname_go ?_
      try dsimp only
      refine ⟨D, _, e1, trivial, fun od => ?_⟩
      have eF : (upd H1 D (.frz od (.dK (dd.map entK)))) D = some (.frz od (.dK (dd.map entK))) := upd_same
      have sF : ∀ b o, b ≠ D → H1 b = some o → (upd H1 D (.frz od (.dK (dd.map entK)))) b = some o := fun b o n e => by rw [upd_ne n]; exact e
      have nHD : ∀ b o, H b = some o → b ≠ D := fun b o e => ne_of_none e nD
      generalize upd H1 D (.frz od (.dK (dd.map entK))) = H2 at eF sF
      refine ⟨_, rfl, D, od, _, rfl, eF, fun L nL => ?_⟩
      have nLD : D ≠ L := ne_of_none eF nL
      refine lc_it (walk_items (d := D) (o := od) (kvs := dd.map entK)) (fun i G => ∃ ts : List Addr, Same H2 G ∧ G L = some (.lst (ts.map V.ref)) ∧ Paired (fun t (q' : Addr × Fm) => G t = some (.tup [.int (q'.2.ops : Nat), .str (S q'.2.txt)])) ts (dd.take i))
        ⟨[], same_new nL, upd_same, .nil⟩ (fun i G _ ⟨ts, sG, _, _⟩ => sG _ _ eF) ?_ ?_
      · rintro i x G1 G2 hi ⟨ts, sG, eL, pt⟩ ⟨T', u, v, rfl, nT, rfl, hu, hv⟩
        rw [List.length_map] at hi
        have hq : dd[i]? = some dd[i] := List.getElem?_eq_getElem hi
        generalize dd[i] = q' at hq
        dsimp only at hu hv
        rw [List.getElem?_map, hq] at hu hv
        obtain rfl : V.str (S q'.2.txt) = u := Option.some.inj hu
        obtain rfl : V.ref q'.1 = v := Option.some.inj hv
        have sT := same_new (o := .tup [V.str (S q'.2.txt), V.ref q'.1]) nT
        have hf : FmAt FC (upd G1 T' (.tup [V.str (S q'.2.txt), V.ref q'.1])) q'.1 q'.2 := (zR q' (memd q' (List.mem_of_getElem? hq))).mono fun b o _ e => sT _ _ (sG _ _ (sF _ _ (nHD _ _ e) (s1 _ _ e)))
        obtain ⟨dx, fs2, e2⟩ := hf.ins
        refine ⟨T', _, rfl, SqT.of upd_same, rfl, _, _, rfl, _, _, rfl, rfl, rfl, ?_⟩
        unfold tYes
        dsimp only
        rw [if_pos rfl]
        refine ⟨_, rfl, q'.1, dx, fs2, rfl, e2, q'.1, q'.2, rfl, hf, (q'.2.ops : Nat), rfl, Int.natCast_nonneg _, ?_, _, rfl, by show 2 ≤ sizeLine; decide, fun T2 nT2 => ?_⟩
        · have := ops9 q'.2 (by rw [← z2]; exact List.mem_map.mpr ⟨q', memd q' (List.mem_of_getElem? hq), rfl⟩)
          omega
        · have sT2 := sT.trans (same_new (o := .tup [.int (q'.2.ops : Nat), .str (S q'.2.txt)]) nT2)
          have nTL : T2 ≠ L := fun z => by
            rw [z, sT _ _ eL] at nT2
            cases nT2
          refine ⟨_, sT2 _ _ eL, by rw [List.length_map, pt.length, List.length_take, sizeLine_eq]; omega, ts ++ [T2], same_pt nL (sG.trans sT2), by rw [upd_same, List.map_append]; rfl, ?_⟩
          rw [get_take hq]
          refine paired_app (paired_imp (fun t q2 e => ?_) pt) (.cons (by rw [upd_ne nTL]; exact upd_same) .nil)
          rw [upd_ne (ne_of e eL (by intro z; cases z))]
          exact sT2 _ _ e
      · rintro G ⟨ts, sG, eL, pt⟩
        rw [List.length_map, List.take_length] at pt
        refine ⟨sG _ _ eF, ?_⟩
        have lts : ts.length = dd.length := pt.length
        obtain ⟨yR, y1, y2, yl⟩ := paired_zipQ pt
        generalize ts.zip dd = zs at yR y1 y2 yl
        have sH : Same H (upd G D (.dK (dd.map entK))) := fun b o e => by
          rw [upd_ne (nHD _ _ e)]
          exact sG _ _ (sF _ _ (nHD _ _ e) (s1 _ _ e))
        have eL2 : (upd G D (.dK (dd.map entK))) L = some (.lst (ts.map V.ref)) := by
          rw [upd_ne (Ne.symm nLD)]
          exact eL
        have eT2 : ∀ p ∈ zs, (upd G D (.dK (dd.map entK))) p.1 = some (.tup [.int (p.2.2.ops : Nat), .str (S p.2.2.txt)]) := fun p hp => by
          rw [upd_ne (ne_of (yR p hp) (sG _ _ eF) (by intro z; cases z))]
          exact yR p hp
        have eD2 : (upd G D (.dK (dd.map entK))) D = some (.dK (dd.map entK)) := upd_same
        generalize upd G D (.dK (dd.map entK)) = G2 at sH eL2 eT2 eD2
        have kse : (zs.map fun p => (p.1, p.2.2.key)).map (fun p => V.ref p.1) = ts.map V.ref := by rw [List.map_map, ← y1, List.map_map]; rfl
        refine ⟨L, zs.map fun p => (p.1, p.2.2.key), rfl, ?_, ?_, fun p hp => ?_, fun R0 nR0 => gname_go ?_⟩
        · rw [kse]
          exact SqL.of eL2
        · rw [List.length_map, yl, lts, sizeLine_eq]
          omega
        · obtain ⟨p', hp', rfl⟩ := List.mem_map.mp hp
          exact SqT.of (eT2 p' hp')
        try dsimp only
        have srt : (zs.map fun p => (p.1, p.2.2.key)).mergeSort isLe = (zs.mergeSort fun a b => fmLe a.2.2 b.2.2).map fun p => (p.1, p.2.2.key) := (List.map_mergeSort (r := fun a b => fmLe a.2.2 b.2.2) (s := isLe) (f := fun p : Addr × Addr × Fm => (p.1, p.2.2.key)) fun a _ b _ => rfl).symm
        rw [srt, List.map_map]
        have srt2 : (zs.mergeSort fun a b => fmLe a.2.2 b.2.2).map (·.2.2) = ordF fs := by
          rw [List.map_mergeSort (s := fmLe) (fun a _ b _ => rfl)]
          unfold ordF
          rw [← hmap, ← y2, List.map_map]
          rfl
        have mw : ∀ p ∈ zs.mergeSort (fun a b => fmLe a.2.2 b.2.2), p ∈ zs := fun p hp => (List.mergeSort_perm _ _).mem_iff.mp hp
        have lw : (zs.mergeSort fun a b => fmLe a.2.2 b.2.2).length = zs.length := List.length_mergeSort _
        generalize zs.mergeSort (fun a b => fmLe a.2.2 b.2.2) = W at srt2 mw lw
        have sR := same_new (o := .lst (W.map ((fun q => V.ref q.1) ∘ fun p => (p.1, p.2.2.key)))) nR0
        have eR := upd_same (H := G2) (a := R0) (o := .lst (W.map ((fun q => V.ref q.1) ∘ fun p => (p.1, p.2.2.key))))
        generalize upd G2 R0 (.lst (W.map ((fun q => V.ref q.1) ∘ fun p => (p.1, p.2.2.key)))) = G3 at sR eR
        -- the parts in this order
        refine ⟨_, rfl, R0, rfl, ⟨_, SqL.of eR⟩, fun L2 nL2 => ?_⟩
        refine lc_it (walk_list (K := K) (a := R0) (xs := W.map ((fun q => V.ref q.1) ∘ fun p => (p.1, p.2.2.key)))) (fun i X => Same G3 X ∧ X L2 = some (.lst ((W.take i).map fun p => V.ref p.2.1))) ⟨same_new nL2, upd_same⟩ (fun i X _ h => SqL.of (h.1 _ _ eR)) ?_ ?_
        · rintro i x X1 X2 hi ⟨sX, eX⟩ ⟨rfl, hx⟩
          rw [List.length_map] at hi
          have hq : W[i]? = some W[i] := List.getElem?_eq_getElem hi
          generalize W[i] = p at hq
          rw [List.getElem?_map, hq] at hx
          obtain rfl : V.ref p.1 = x := Option.some.inj hx
          have hp := mw p (List.mem_of_getElem? hq)
          have pd : p.2 ∈ dd := by rw [← y2]; exact List.mem_map.mpr ⟨p, hp, rfl⟩
          refine ⟨p.1, _, rfl, SqT.of (sX _ _ (sR _ _ (eT2 p hp))), rfl, _, _, rfl, _, _, rfl, rfl, rfl, ?_⟩
          unfold tYes
          dsimp only
          rw [if_pos rfl]
          refine ⟨_, rfl, _, rfl, D, .ref p.2.1, rfl, ?_, ?_⟩
          · have := DGet.k (k := Sum.inr (S p.2.2.txt)) (sX _ _ (sR _ _ eD2))
            rw [val_ent ndd p.2 pd] at this
            exact this
          · exact ⟨_, eX, by rw [List.length_map, List.length_take, sizeLine_eq]; omega, same_pt nL2 sX, by rw [upd_same, get_take hq, List.map_append]; rfl⟩
        · rintro X ⟨sX, eX⟩
          rw [List.length_map, List.take_length] at eX
          refine ⟨L2, _, rfl, .inl ⟨SqL.of eX, fun R nR => ?_⟩⟩
          have sE := ((sH.trans sR).trans sX).trans (same_new (o := .tup (W.map fun p => V.ref p.2.1)) nR)
          refine q R (W.map (·.2.1)) _ sE (by rw [upd_same, List.map_map]; rfl) ?_
          rw [← srt2]
          have go : ∀ l : List (Addr × Addr × Fm), (∀ p ∈ l, p ∈ W) → Paired (FmAt FC (upd X R (.tup (W.map fun p => V.ref p.2.1)))) (l.map (·.2.1)) (l.map (·.2.2)) := fun l => by
            induction l with
            | nil => exact fun _ => .nil
            | cons p l ih =>
              intro hl
              refine .cons ?_ (ih fun p hp => hl p (List.mem_cons_of_mem _ hp))
              have hp := mw p (hl p List.mem_cons_self)
              have pd : p.2 ∈ dd := by rw [← y2]; exact List.mem_map.mpr ⟨p, hp, rfl⟩
              exact (zR p.2 (memd p.2 pd)).same sE
          exact go W fun _ h => h
end
end L2.K19
set_option Elab.async false
set_option linter.all false
set_option maxRecDepth 100000
set_option maxHeartbeats 8000000
namespace L2.K19
open PySem PySem.Spec PyProof.Rows L2.Tb
open SX (S)
abbrev s_finit : Stmt := inClass (top 25) 0
abbrev N_finit : List Str := ["self", "sign", "name", "left", "right"]
theorem sc_finit : FnScope N_finit ["self", "sign", "name", "left", "right"] (defScope s_finit) := ⟨rfl, rfl, rfl, by decide +kernel, rfl, by decide +kernel, by decide +kernel⟩
theorem catA_go {K : PySem.W.Frag} {H : Hp} {a b : Addr} {xs ys : List V} {Q : VK} (ha : H a = some (.tup xs)) (hb : H b = some (.tup ys)) (hl : xs.length + ys.length ≤ 100000) (q : ∀ R H', Same H H' → H' R = some (.tup (xs ++ ys)) → Q (.ref R) H') : rCatA K (.ref a) (.ref b) H Q := by
  refine ⟨a, b, xs, ys, rfl, rfl, SqT.of ha, SqT.of hb, by rw [sizeLine_eq]; omega, fun e => ?_, fun _ e => ?_, fun _ _ p np => ?_⟩
  · subst e
    exact q b H (Same.refl _) hb
  · subst e
    exact q a H (Same.refl _) (by rw [List.append_nil]; exact ha)
  · exact q p _ (same_new np) upd_same
theorem hp_go {σ : St} {H : Hp} {R : St → Hp → Prop} (Pv : Hp → Prop) (h : Pv H) (k : ∀ G, Pv G → R σ G) : R σ H := k H h
/-- all but the object at p -/
def Off (p : Addr) (H H' : Hp) : Prop := ∀ b o, b ≠ p → H b = some o → H' b = some o
theorem Off.set {p : Addr} {H H' : Hp} {o : HO} (s : Off p H H') : Off p H (upd H' p o) := fun b u n e => by rw [upd_ne n]; exact s b u n e
theorem Off.then {p : Addr} {H H1 H' : Hp} (s : Off p H H1) (t : Same H1 H') : Off p H H' := fun b u n e => t _ _ (s b u n e)
def spFinit (FC : Addr) : Sp := fun vs H Q _ => ∃ (a dx : Addr) (sg : Str) (nm lv rv : V), vs = [.ref a, .str sg, nm, lv, rv] ∧ H a = some (.ins FC dx []) ∧
  ((∃ n, sg = S [] ∧ nm = .str (S n) ∧ lv = .non ∧ rv = .non ∧ ∀ H', Off a H H' → FmAt FC H' a (.lt n) → Q .non H') ∨
   (∃ (s : Nat) (l r : Fm) (la ra : Addr), sg = S (sgL s) ∧ nm = .non ∧ lv = .ref la ∧ rv = .ref ra ∧ FmAt FC H la l ∧ FmAt FC H ra r ∧ l.ok = true ∧ r.ok = true ∧ l.ops + r.ops ≤ 90 ∧ ∀ H', Off a H H' → FmAt FC H' a (.op s l r) → Q .non H'))
theorem paired_ge {α β : Type} {R : α → β → Prop} {xs : List α} {ys : List β} (h : Paired R xs ys) : xs.length = ys.length := h.length
theorem parts_lenF (f : Fm) : (partsF f).length ≤ 2 * f.ops + 1 := by
  have := innF_len f
  unfold partsF
  rw [List.length_append, List.length_singleton]
  omega
section
variable {P : Program} {w : World} {K : PySem.W.Frag} {mg : Str → Option Value} {base : Heap} {f : Addr} {fd : FuncData} {FC : Addr}
theorem c_finit (T : Bt mg) (FF : FoF K mg FC) (hfm : PySem.W.findIn K (.ref FC) "__format__" = some (some (.builtin "object.__format__"))) (SS : SpcM P w K mg base L2.CX0 FC "__str__" ["self"] 1 (spFstr FC)) (PP : PrpM P w K mg base FC "parts" 1 (spFparts FC)) (k_in_order : Cal P w K mg base 4 "_in_order" (spOrder FC))
    (F : FunD K "__init__" "Formula.__init__" (defArgs s_finit) (defBody s_finit) (defScope s_finit) [] [] f fd) : FnOk P w K mg base L2.CX0 6 f fd ["self", "sign", "name", "left", "right"] (spFinit FC) := by
  have hnd := sc_finit.nd
  obtain ⟨fs_, fds, hs, hsf, Fs, Bs⟩ := SS
  obtain ⟨p9, g9, fd9, PP9, FP9, BP9⟩ := PP
  have hmo := FF.ex.hm
  refine F.ok sc_finit (fun vs H Q E h => ?_) (fun cdv A outer s H vs Q E hr h => ?_)
  · obtain ⟨a, dx, sg, nm, lv, rv, rfl, _⟩ := h
    rfl
  · obtain ⟨a, dx, sg, nm, lv, rv, rfl, ea, h⟩ := h
    refine ⟨_, (pss_cons (ps_fld (pv 0) (pv 1) (by rfl))
      (pss_cons (ps_fld (pv 0) (pv 2) (by rfl))
      (pss_cons (ps_fld (pv 0) (pv 3) (by rfl))
      (pss_cons (ps_fld (pv 0) (pv 4) (by rfl))
      (pss_cons (ps_fld (pv 0) (pe_ifExp (pt_cmpR op_isN (pv 3) pe_non (nomark _)) (pv 2) (pe_joined (.cons pe_str (.cons (pe_fmtOwn Fs (hr.mono (by omega)) hfm hmo hs hsf Bs (pv 3)) (.cons pe_str (.cons (pe_fmt (pv 1)) (.cons pe_str (.cons (pe_fmtOwn Fs (hr.mono (by omega)) hfm hmo hs hsf Bs (pv 4)) (.cons pe_str .nil))))))))) (by rfl))
      (pss_cons (ps_fld (pv 0) (pe_ifExp (pt_cmpR op_isN (pv 3) pe_non (nomark _)) (pe_tup pa_nil) (pe_op (show OpR _ (binaryOp .Add) (rCatA K) from op_catA) (pe_op (show OpR _ (binaryOp .Add) (rCatA K) from op_catA) (pe_fld (pv 3) (by rfl)) (pe_tup (pa_cons (pv 1) pa_nil))) (pe_fld (pv 4) (by rfl)))) (by rfl))
      (pss_one (ps_fld (pv 0) (pe_ifExp (pt_cmpR op_isN (pv 3) pe_non (nomark _)) (pe_tup pa_nil) (pe_cal k_in_order hr (by omega) (by rfl) (pa_cons (pe_op (show OpR _ (binaryOp .Add) (rCatA K) from op_catA) (pe_prop (E := L2.E0) (pv 3) FF.cls PP9 FP9 (hr.mono (by omega)) BP9 .nil (fun _ _ _ _ _ _ _ h => h.elim) (by rfl)) (pe_prop (E := L2.E0) (pv 4) FF.cls PP9 FP9 (hr.mono (by omega)) BP9 .nil (fun _ _ _ _ _ _ _ h => h.elim) (by rfl))) pa_nil))) (by rfl))))))))), ?_⟩
    refine ⟨_, rfl, _, rfl, a, FC, dx, [], rfl, ea, FF.cls, FF.n1, by decide, ?_⟩
    refine ⟨_, rfl, _, rfl, a, FC, dx, _, rfl, upd_same, FF.cls, FF.n2, Nat.le_of_ble_eq_true rfl, ?_⟩
    refine ⟨_, rfl, _, rfl, a, FC, dx, _, rfl, upd_same, FF.cls, FF.n3, Nat.le_of_ble_eq_true rfl, ?_⟩
    refine ⟨_, rfl, _, rfl, a, FC, dx, _, rfl, upd_same, FF.cls, FF.n4, Nat.le_of_ble_eq_true rfl, ?_⟩
    refine hp_go (fun G => Off a H G ∧ G a = some (.ins FC dx [("_sign", .str sg), ("_name", nm), ("_left", lv), ("_right", rv)])) ⟨fun b o n e => by rw [upd_ne n, upd_ne n, upd_ne n, upd_ne n]; exact e, upd_same⟩ fun G ⟨of0, e0⟩ => ?_
    rcases h with ⟨n, rfl, rfl, rfl, rfl, q⟩ | ⟨s0, l, r, la, ra, rfl, rfl, rfl, rfl, hla, hra, okl, okr, lops, q⟩
    · refine ⟨_, rfl, rfl, _, rfl, iteT2 (decide_eq_true rfl) ⟨_, rfl, _, rfl, a, FC, dx, _, rfl, e0, FF.cls, FF.n5, Nat.le_of_ble_eq_true rfl, ?_⟩⟩
      refine hp_go (fun G => Off a H G ∧ G a = some (.ins FC dx [("_sign", .str (S [])), ("_name", .str (S n)), ("_left", .non), ("_right", .non), ("_text", .str (S n))])) ⟨of0.set, upd_same⟩ fun G1 ⟨of1, e1⟩ => ?_
      refine ⟨_, rfl, rfl, _, rfl, iteT2 (decide_eq_true rfl) ⟨Nat.zero_le _, fun sgA nsg => ⟨_, rfl, a, FC, dx, _, rfl, same_new nsg _ _ e1, FF.cls, FF.n6, Nat.le_of_ble_eq_true rfl, ?_⟩⟩⟩
      have nsa : a ≠ sgA := ne_of_none e1 nsg
      refine hp_go (fun G => Off a H G ∧ G sgA = some (.tup []) ∧ G a = some (.ins FC dx [("_sign", .str (S [])), ("_name", .str (S n)), ("_left", .non), ("_right", .non), ("_text", .str (S n)), ("_signs", .ref sgA)])) ⟨(of1.then (same_new nsg)).set, by rw [upd_ne (Ne.symm nsa)]; exact upd_same, upd_same⟩ fun G2 ⟨of2, eS, e2⟩ => ?_
      refine ⟨_, rfl, rfl, _, rfl, iteT2 (decide_eq_true rfl) ⟨Nat.zero_le _, fun inA nin => ⟨_, rfl, a, FC, dx, _, rfl, same_new nin _ _ e2, FF.cls, FF.n7, Nat.le_of_ble_eq_true rfl, ?_⟩⟩⟩
      have nia : a ≠ inA := ne_of_none e2 nin
      refine q _ (of2.then (same_new nin)).set (.lt upd_same ?_ ?_)
      · rw [upd_ne (Ne.symm nsa)]
        exact same_new nin _ _ eS
      · rw [upd_ne (Ne.symm nia)]
        exact upd_same
    · have nd : decide (V.ref la = V.non) = false := decide_eq_false fun z => by cases z
      have up : ∀ {G : Hp} {x : Addr} {g : Fm}, Off a H G → FmAt FC H x g → FmAt FC G x g := fun o h => h.I o ⟨FC, dx, ea⟩
      have tl := Fm.txt_len l okl
      have tr := Fm.txt_len r okr
      have sl := sgL_len s0
      have Ll : (S l.txt).length ≤ 2000 := by rw [SX.S_len]; omega
      have Lr : (S r.txt).length ≤ 2000 := by rw [SX.S_len]; omega
      have Ls : (S (sgL s0)).length ≤ 2 := by rw [SX.S_len]; exact sl
      have c1 : (Str.ofString "(") = S [40] := by decide +kernel
      have c2 : (Str.ofString " ") = S [32] := by decide +kernel
      have c3 : (Str.ofString ")") = S [41] := by decide +kernel
      have c0 : Str.empty = S [] := by decide +kernel
      obtain ⟨dl, fl_, el⟩ := (up of0 hla).ins
      obtain ⟨dr, fr_, er⟩ := (up of0 hra).ins
      have szL : ∀ x : List Nat, x.length ≤ 5000 → (S x).length ≤ sizeLine := fun x hx => by rw [SX.S_len, sizeLine_eq]; omega
      refine ⟨_, rfl, rfl, _, rfl, iteN2 nd ?_⟩
      refine ⟨_, rfl, ?_, ?_⟩
      · rw [c0, c1, SX.S_cat]
        exact szL _ (by simp)
      rw [c0, c1, SX.S_cat]
      refine ⟨_, rfl, la, dl, fl_, rfl, el, la, l, rfl, up of0 hla, _, rfl, _, rfl, ?_, ?_⟩
      · rw [SX.S_cat]
        exact szL _ (by simp only [List.length_append, List.length_singleton, List.length_nil]; omega)
      rw [SX.S_cat]
      refine ⟨_, rfl, ?_, ?_⟩
      · rw [c2, SX.S_cat]
        exact szL _ (by simp only [List.length_append, List.length_singleton, List.length_nil]; omega)
      rw [c2, SX.S_cat]
      refine ⟨_, rfl, .inl ⟨_, rfl, szL _ (by omega), _, rfl, ?_, ?_⟩⟩
      · rw [SX.S_cat]
        exact szL _ (by simp only [List.length_append, List.length_singleton, List.length_nil]; omega)
      rw [SX.S_cat]
      refine ⟨_, rfl, ?_, ?_⟩
      · rw [SX.S_cat]
        exact szL _ (by simp only [List.length_append, List.length_singleton, List.length_nil]; omega)
      rw [SX.S_cat]
      refine ⟨_, rfl, ra, dr, fr_, rfl, er, ra, r, rfl, up of0 hra, _, rfl, _, rfl, ?_, ?_⟩
      · rw [SX.S_cat]
        exact szL _ (by simp only [List.length_append, List.length_singleton, List.length_nil]; omega)
      rw [SX.S_cat]
      refine ⟨_, rfl, ?_, ?_⟩
      · rw [c3, SX.S_cat]
        exact szL _ (by simp only [List.length_append, List.length_singleton, List.length_nil]; omega)
      rw [c3, SX.S_cat]
      refine ⟨_, rfl, a, FC, dx, _, rfl, e0, FF.cls, FF.n5, Nat.le_of_ble_eq_true rfl, ?_⟩
      refine hp_go (fun G => Off a H G ∧ G a = some (.ins FC dx [("_sign", .str (S (sgL s0))), ("_name", .non), ("_left", .ref la), ("_right", .ref ra), ("_text", .str (S (Fm.op s0 l r).txt))])) ⟨of0.set, upd_same⟩ fun G1 ⟨of1, e1⟩ => ?_
      -- the signs
      obtain ⟨dl1, sgl, inl, lvl, rvl, psl, el1, esl, _⟩ := (up of1 hla).o.ex
      refine ⟨_, rfl, rfl, _, rfl, iteN2 nd ?_⟩
      refine ⟨_, rfl, la, FC, dl1, _, _, rfl, el1, FF.cls, FF.n6, rfl, _, rfl, by show 1 ≤ sizeLine; decide, fun T1 nT1 => ?_⟩
      have s1 := same_new (o := .tup [.str (S (sgL s0))]) nT1
      refine catA_go (xs := l.sgs.map nmV) (ys := [nmV (sgL s0)]) (s1 _ _ esl) upd_same ?_ fun R1 H1 sR1 eR1 => ?_
      · rw [List.length_map, Fm.sgs_len, List.length_singleton]
        omega
      obtain ⟨dr1, sgr, inr_, lvr, rvr, psr, er1, esr, _⟩ := (up ((of1.then s1).then sR1) hra).o.ex
      refine ⟨_, rfl, ra, FC, dr1, _, _, rfl, er1, FF.cls, FF.n6, rfl, ?_⟩
      refine catA_go eR1 esr ?_ fun R2 H2 sR2 eR2 => ?_
      · rw [List.length_append, List.length_map, List.length_map, Fm.sgs_len, Fm.sgs_len, List.length_singleton]
        omega
      have e2' := sR2 _ _ (sR1 _ _ (s1 _ _ e1))
      refine ⟨_, rfl, a, FC, dx, _, rfl, e2', FF.cls, FF.n6, Nat.le_of_ble_eq_true rfl, ?_⟩
      have n2a : a ≠ R2 := ne_of e2' eR2 (by intro z; cases z)
      refine hp_go (fun G => Off a H G ∧ G R2 = some (.tup ((Fm.op s0 l r).sgs.map nmV)) ∧ G a = some (.ins FC dx [("_sign", .str (S (sgL s0))), ("_name", .non), ("_left", .ref la), ("_right", .ref ra), ("_text", .str (S (Fm.op s0 l r).txt)), ("_signs", .ref R2)])) ⟨(((of1.then s1).then sR1).then sR2).set, ?_, upd_same⟩ fun G2 ⟨of2, eS, e2⟩ => ?_
      · rw [upd_ne (Ne.symm n2a), eR2]
        simp only [Fm.sgs, List.map_append, List.map_cons, List.map_nil]
      -- the parts
      obtain ⟨dl2, fl2, el2⟩ := (up of2 hla).ins
      refine ⟨_, rfl, rfl, _, rfl, iteN2 nd ?_⟩
      refine ⟨_, rfl, la, dl2, fl2, rfl, el2, la, l, rfl, up of2 hla, by omega, fun TL pl H3 s3 eL pl_ => ?_⟩
      have of3 := of2.then s3
      obtain ⟨dr2, fr2, er2⟩ := (up of3 hra).ins
      refine ⟨_, rfl, ra, dr2, fr2, rfl, er2, ra, r, rfl, up of3 hra, by omega, fun TR pr H4 s4 eR pr_ => ?_⟩
      have lpl := parts_lenF l
      have lpr := parts_lenF r
      have kl := paired_ge pl_
      have kr := paired_ge pr_
      refine catA_go (s4 _ _ eL) eR (by rw [List.length_map, List.length_map]; omega) fun T5 H5 s5 e5 => ?_
      have pall := paired_app (paired_imp (fun _ _ z => (FmAt.same z s4).same s5) pl_) (paired_imp (fun _ _ z => FmAt.same z s5) pr_)
      refine ⟨T5, pl ++ pr, partsF l ++ partsF r, rfl, by rw [e5, List.map_append], pall, by rw [List.length_append]; omega, fun g hg => ?_, fun R6 qs H6 s6 e6 pq => ?_⟩
      · rcases List.mem_append.mp hg with hg | hg
        · have := (parts_ok okl hg).2
          omega
        · have := (parts_ok okr hg).2
          omega
      have e7 := s6 _ _ (s5 _ _ (s4 _ _ (s3 _ _ e2)))
      refine ⟨_, rfl, a, FC, dx, _, rfl, e7, FF.cls, FF.n7, Nat.le_of_ble_eq_true rfl, ?_⟩
      have n6a : a ≠ R6 := ne_of e7 e6 (by intro z; cases z)
      have of6 := (((of2.then s3).then s4).then s5).then s6
      have fin : ∀ {x g}, FmAt FC H6 x g → x ≠ a → True := fun _ _ => trivial
      have upI : ∀ {o : HO} {x : Addr} {g : Fm}, FmAt FC H x g → FmAt FC (upd H6 a o) x g := fun h => up of6.set h
      refine q _ of6.set (.op (ps := qs) upd_same (upI hla) (upI hra) ?_ ?_ (paired_ge pq) fun i p g hp hg => ?_)
      · rw [upd_ne (Ne.symm n2a)]
        exact s6 _ _ (s5 _ _ (s4 _ _ (s3 _ _ eS)))
      · rw [upd_ne (Ne.symm n6a)]
        exact e6
      · have hx := paired_get2 pq i p g hp hg
        refine FmAt.P hx (p := a) (fun b o n e => by rw [upd_ne n]; exact e) ⟨FC, dx, _, e7, Nat.le_of_ble_eq_true rfl⟩
end
end L2.K19
set_option Elab.async false
set_option linter.all false
set_option maxRecDepth 100000
set_option maxHeartbeats 4000000
/-! x op y by the own method of x's class, y of a built-in type, what is raised passes -/
namespace L2.Tb
open PySem PySem.Spec PyProof.Rows PySem.W
/-- what the built-in type says of the operator -/
structure Rgt (K : PySem.W.Frag) (C : Addr) (op : Operator) (T : String) : Prop where
  own : ∃ o, findIn K (.type T) (PySem.dunder op.info.2) = some o
  ref : ∃ o, findIn K (.type T) (dunderR op.info.2) = some o
  sub : subIn K (.type T) (.ref C) = some false
section
variable {prog : Program} {w : World} {A : Around} {E : Value → Shared → Prop} {s : Shared} {K : Frag} {x C L f : Addr} {hp : Heap} {m : Str → Option Value} {ox : Obj} {od : Option Obj} {T : String} {op : Operator} {y : Value} {Q : Value → Shared → Prop}
theorem bin_left (F : Fr hp L s.heap m) (hK : K.In hp) (J : InstAt s.heap x ox C od) (ty : Looks (model prog w) s.heap (typeOf y) (.type T)) (sf : selfFirst K C = true) (hs : findIn K (.ref C) (PySem.dunder op.info.2) = some (some (.ref f)))
    (hf : isFn K (.ref f) = true) (hr : findIn K (.ref C) (dunderR op.info.2) = some none) (R : Rgt K C op T) (h : wpAny (model prog w) A (call (.ref f) [.ref x, y]) (PySem.W.CmpBack Q) E s) : wpAny (model prog w) A (binaryOp op (.ref x) y) Q E s := by
  have kin := hK.keeps F.keep
  obtain ⟨cd, tl, e1, e2⟩ := ksp_first sf
  obtain ⟨o1, t1⟩ := R.own
  obtain ⟨o2, t2⟩ := R.ref
  have t3 := R.sub
  rcases ei : op.info with ⟨sg, nm⟩
  rw [ei] at hs hr t1 t2
  dsimp only at hs hr t1 t2
  have go := ksp_try kin J hs hf h
  obtain ⟨hh, gn, dr, tk, os⟩ := s
  have a1 : Looks (model prog w) hh (typeOf (.ref x)) (.ref C) := J.type
  have a3 : Looks (model prog w) hh (fillsNumberSlot (.ref C) nm) true := fills_K kin e1 e2 hs
  have a4 := ksp_fillsT (M := model prog w) kin t1 t2
  have a5 : Looks (model prog w) hh (isSubtype (.type T) (.ref C)) false := looks_subIn kin t3
  have a6 : Looks (model prog w) hh (numberSlotInPython (.ref C) nm) true := ksp_inPy kin hs hr (.inl rfl)
  have a7 : Looks (model prog w) hh (numberSlotInPython (.type T) nm) false := Looks.of_pure rfl
  have a8 : Looks (model prog w) hh (typeLookup (.type T) (dunderR nm)) o2 := looks_findIn kin t2
  generalize ((o1.isSome && !isSeqSlot o1) || (o2.isSome && !isSeqSlot o2)) = rt at a4
  have ne : (Value.ref C == Value.type T) = false := by
    cases hq : (Value.ref C == Value.type T) with
    | false => rfl
    | true => cases beq_iff_eq.mp hq
  simp only [binaryOp, ei]
  refine wpAny_holding (wpAny_bind ?_)
  unfold binaryOp1
  refine wpAny_bind (a1.at (wpAny_bind (ty.at (wpAny_bind (a3.at ?_)))))
  simp only [ne, Bool.false_eq_true, if_false]
  cases rt
  all_goals
    ksp_lk
    refine wpAny_mono go (fun r s2 hv => ?_) fun _ _ e => e
    obtain ⟨v, rfl, qv⟩ := hv
    ksp_lk
    exact qv
end
section
variable {X : Cx} {CX : CXT} {C f : Addr} {fd : FuncData} {ps : List Str} {sp : Sp} {k : Nat} {op : Operator} {E : XK}
def rOwnBinX (K : PySem.W.Frag) (C : Addr) (op : Operator) (sp : Sp) (E : XK) : R2 := fun x y H Q => ∃ (a dx : Addr) (fs : List (Str × V)) (T : String), x = .ref a ∧ H a = some (.ins C dx fs) ∧ TyX K H y (.type T) ∧ Rgt K C op T ∧ sp [.ref a, y] H Q E
theorem op_ownBinX (F : FnOk X.prog X.w X.K X.mg X.base CX k f fd ps sp) (hr : Room k X.A) (sf : selfFirst X.K C = true) (hs : findIn X.K (.ref C) (PySem.dunder op.info.2) = some (some (.ref f))) (hf : isFn X.K (.ref f) = true)
    (hrr : findIn X.K (.ref C) (dunderR op.info.2) = some none) (hb : Binds X.K fd ps []) (hx : Passes CX X E) : OpR X (binaryOp op) (rOwnBinX X.K C op sp E) := by
  intro pins s σ H x y v u Q I rx ry h
  obtain ⟨a, dx, fs, T, rfl, ea, ty, R, h⟩ := h
  obtain rfl : v = Value.ref a := rx
  obtain ⟨mA, O, _⟩ := ins_get I.hok ea
  obtain ⟨od, J, _⟩ := O.look
  obtain ⟨m, hF⟩ := I.fr
  obtain ⟨Pt, kt, pt, _⟩ := kit_of I ry ty
  have hl := F.len _ _ _ _ h
  refine bin_left hF I.ok.mod.kin J (kt.ty _ _ I.kIn pt) sf hs hf hrr R (wpAny_call (codeAny_mono (F.run X.A X.stack s H ⟨[.ref a, u], []⟩ [.ref a, u] [.ref a, y] _ E hr I.env0 (by
    have z := hb s [.ref a, u] I.kIn (by simpa using hl)
    simpa using z) (.cons rfl (.cons ry .nil)) h) fun r s' hq => ?_))
  match r, hq with
  | .error e, hq => exact hx pins σ H s e s' I hq
  | .ok (.ret u2), hq =>
    obtain ⟨v2, H', I', rv, q⟩ := I.after hq
    exact cmp_back rv ⟨v2, H', I', rv, q⟩
end
end L2.Tb
set_option Elab.async false
set_option linter.all false
set_option maxRecDepth 100000
set_option maxHeartbeats 4000000
/-! x op y by the own method of x's class, y an instance of another class that has the operator too, what is raised passes -/
namespace L2.Tb
open PySem PySem.Spec PyProof.Rows PySem.W
/-- what y's class says of the operator -/
structure RgtC (K : PySem.W.Frag) (C : Addr) (op : Operator) (D : Addr) : Prop where
  sf : selfFirst K D = true
  own : ∃ g : Addr, findIn K (.ref D) (PySem.dunder op.info.2) = some (some (.ref g))
  ref : findIn K (.ref D) (dunderR op.info.2) = some none
  sub : subIn K (.ref D) (.ref C) = some false
  ne : C ≠ D
section
variable {prog : Program} {w : World} {A : Around} {E : Value → Shared → Prop} {s : Shared} {K : Frag} {x C D L f : Addr} {hp : Heap} {m : Str → Option Value} {ox : Obj} {od : Option Obj} {op : Operator} {y : Value} {Q : Value → Shared → Prop}
theorem bin_leftC (F : Fr hp L s.heap m) (hK : K.In hp) (J : InstAt s.heap x ox C od) (ty : Looks (model prog w) s.heap (typeOf y) (.ref D)) (sf : selfFirst K C = true) (hs : findIn K (.ref C) (PySem.dunder op.info.2) = some (some (.ref f)))
    (hf : isFn K (.ref f) = true) (hr : findIn K (.ref C) (dunderR op.info.2) = some none) (R : RgtC K C op D) (h : wpAny (model prog w) A (call (.ref f) [.ref x, y]) (PySem.W.CmpBack Q) E s) : wpAny (model prog w) A (binaryOp op (.ref x) y) Q E s := by
  have kin := hK.keeps F.keep
  obtain ⟨cd, tl, e1, e2⟩ := ksp_first sf
  obtain ⟨cd', tl', e1', e2'⟩ := ksp_first R.sf
  obtain ⟨g1, t1⟩ := R.own
  have t2 := R.ref
  have t3 := R.sub
  have nCD := R.ne
  rcases ei : op.info with ⟨sg, nm⟩
  rw [ei] at hs hr t1 t2
  dsimp only at hs hr t1 t2
  have go := ksp_try kin J hs hf h
  obtain ⟨hh, gn, dr, tk, os⟩ := s
  have a1 : Looks (model prog w) hh (typeOf (.ref x)) (.ref C) := J.type
  have a3 : Looks (model prog w) hh (fillsNumberSlot (.ref C) nm) true := fills_K kin e1 e2 hs
  have a4 : Looks (model prog w) hh (fillsNumberSlot (.ref D) nm) true := fills_K kin e1' e2' t1
  have a5 : Looks (model prog w) hh (isSubtype (.ref D) (.ref C)) false := looks_subIn kin t3
  have a6 : Looks (model prog w) hh (numberSlotInPython (.ref C) nm) true := ksp_inPy kin hs hr (.inl rfl)
  have a7 : Looks (model prog w) hh (numberSlotInPython (.ref D) nm) true := ksp_inPy kin t1 t2 (.inl rfl)
  have ne : (Value.ref C == Value.ref D) = false := by
    cases hq : (Value.ref C == Value.ref D) with
    | false => rfl
    | true =>
      have := beq_iff_eq.mp hq
      injection this with this
      exact absurd this nCD
  simp only [binaryOp, ei]
  refine wpAny_holding (wpAny_bind ?_)
  unfold binaryOp1
  refine wpAny_bind (a1.at (wpAny_bind (ty.at (wpAny_bind (a3.at ?_)))))
  simp only [ne, Bool.false_eq_true, if_false]
  ksp_lk
  refine wpAny_mono go (fun r s2 hv => ?_) fun _ _ e => e
  obtain ⟨v, rfl, qv⟩ := hv
  ksp_lk
  exact qv
end
section
variable {X : Cx} {CX : CXT} {C f : Addr} {fd : FuncData} {ps : List Str} {sp : Sp} {k : Nat} {op : Operator} {E : XK}
/-- y of a built-in type, of x's own class, or of another class with the operator -/
def rOwnBinA (K : PySem.W.Frag) (C : Addr) (op : Operator) (sp : Sp) (E : XK) : R2 := fun x y H Q => ∃ (a dx : Addr) (fs : List (Str × V)) (t : Value), x = .ref a ∧ H a = some (.ins C dx fs) ∧ TyX K H y t ∧ ((∃ T, t = .type T ∧ Rgt K C op T) ∨ t = .ref C ∨ ∃ D, t = .ref D ∧ RgtC K C op D) ∧ sp [.ref a, y] H Q E
theorem op_ownBinA (F : FnOk X.prog X.w X.K X.mg X.base CX k f fd ps sp) (hr : Room k X.A) (sf : selfFirst X.K C = true) (hs : findIn X.K (.ref C) (PySem.dunder op.info.2) = some (some (.ref f))) (hf : isFn X.K (.ref f) = true)
    (hrr : findIn X.K (.ref C) (dunderR op.info.2) = some none) (hb : Binds X.K fd ps []) (hx : Passes CX X E) : OpR X (binaryOp op) (rOwnBinA X.K C op sp E) := by
  intro pins s σ H x y v u Q I rx ry h
  obtain ⟨a, dx, fs, t, rfl, ea, ty, R, h⟩ := h
  obtain rfl : v = Value.ref a := rx
  obtain ⟨mA, O, _⟩ := ins_get I.hok ea
  obtain ⟨od, J, _⟩ := O.look
  obtain ⟨m, hF⟩ := I.fr
  obtain ⟨Pt, kt, pt, _⟩ := kit_of I ry ty
  have hl := F.len _ _ _ _ h
  have run : wpAny (model X.prog X.w) X.A (call (.ref f) [.ref a, u]) (PySem.W.CmpBack (EP X pins σ Q)) X.xe s := (wpAny_call (codeAny_mono (F.run X.A X.stack s H ⟨[.ref a, u], []⟩ [.ref a, u] [.ref a, y] _ E hr I.env0 (by
    have z := hb s [.ref a, u] I.kIn (by simpa using hl)
    simpa using z) (.cons rfl (.cons ry .nil)) h) fun r s' hq => by
      match r, hq with
      | .error e, hq => exact hx pins σ H s e s' I hq
      | .ok (.ret u2), hq =>
        obtain ⟨v2, H', I', rv, q⟩ := I.after hq
        exact cmp_back rv ⟨v2, H', I', rv, q⟩))
  rcases R with ⟨T, rfl, R⟩ | rfl | ⟨D, rfl, R⟩
  · exact bin_left hF I.ok.mod.kin J (kt.ty _ _ I.kIn pt) sf hs hf hrr R run
  · exact PySem.W.binop_K hF I.ok.mod.kin J (kt.ty _ _ I.kIn pt) sf hs hf run
  · exact bin_leftC hF I.ok.mod.kin J (kt.ty _ _ I.kIn pt) sf hs hf hrr R run
end
end L2.Tb
set_option Elab.async false
set_option linter.all false
set_option maxRecDepth 100000
set_option maxHeartbeats 4000000
/-! x op= y by the own method of x op y, y of the same class; a def of the module that may raise, called by keywords alone -/
namespace L2.Tb
open PySem PySem.Spec PyProof.Rows PySem.W
/-- a class without the operator's own in-place method, right below object -/
structure NoIp (K : PySem.W.Frag) (C : Addr) (op : Operator) : Prop where
  mro : ∃ cd, clsIn K C = some cd ∧ cd.mro = [.ref C, .type "object"]
  own : findIn K (.ref C) (dunderI op.info.2) = some none
  obj : findIn K (.type "object") (dunderI op.info.2) = some none
section
variable {M : Model} {prog : Program} {w : World} {A : Around} {E : Value → Shared → Prop} {s : Shared} {K : Frag} {x C L f : Addr} {hp : Heap} {m : Str → Option Value} {ox : Obj} {od : Option Obj} {op : Operator} {b : Value}
theorem fills_no {h : Heap} {add : Bool} (X : K.In h) (N : NoIp K C op) : Looks M h (fillsInplaceSlot (.ref C) op.info.2 add) false := by
  intro A Q E s k q
  obtain ⟨cd, hc, hm⟩ := N.mro
  have Lm : Looks M h (mroOf (.ref C)) cd.mro := (looks_clsIn X hc).andThen (f := fun cd => pure cd.mro) .now
  have Lm' := Lm.keeps k
  obtain ⟨hh, g, d, tt, os⟩ := s
  have X' : K.In hh := X.keeps k
  have L1 : Looks M hh (typeLookup (.ref C) (dunderI op.info.2)) none := looks_findIn X' N.own
  have L2 : Looks M hh (typeLookup (.type "object") (dunderI op.info.2)) none := looks_findIn X' N.obj
  unfold fillsInplaceSlot
  refine wpAny_bind (Lm'.at ?_)
  rw [hm, List.anyM_cons]
  refine wpAny_bind ?_
  repeat lk
  exact q
theorem inpl_same {Q : Value → Shared → Prop} (F : Fr hp L s.heap m) (X₀ : K.In hp) (I : InstAt s.heap x ox C od) (hb : Looks (model prog w) s.heap (typeOf b) (.ref C)) (hc : selfFirst K C = true) (N : NoIp K C op)
    (hs : findIn K (.ref C) (PySem.dunder op.info.2) = some (some (.ref f))) (hf : isFn K (.ref f) = true)
    (h : wpAny (model prog w) A (call (.ref f) [.ref x, b]) (PySem.W.CmpBack Q) E s) : wpAny (model prog w) A (inplaceOp op (.ref x) b) Q E s := by
  have X := X₀.keeps F.keep
  obtain ⟨cd, rest, hcd, hm⟩ := ksp_first hc
  unfold inplaceOp
  refine wpAny_holding ?_
  refine wpAny_bind (I.type.here ?_)
  refine wpAny_bind ((fills_no X N).here ?_)
  simp only [Bool.false_eq_true, if_false]
  refine wpAny_bind ?_
  unfold binaryOp1
  refine wpAny_bind (I.type.here (wpAny_bind (hb.here (wpAny_bind ((fills_K X hcd hm hs).here ?_)))))
  simp only [beq_self_eq_true, if_true]
  refine wpAny_bind (wpAny_pure ?_)
  simp only [Bool.and_false, Bool.false_eq_true, if_false, Bool.false_and]
  refine wpAny_bind (wpAny_pure ?_)
  simp only [Bool.false_eq_true, if_false]
  refine wpAny_bind (m := tryMethod (.ref x) _ b) ?_
  unfold tryMethod
  refine wpAny_bind (special_fn X I hs (beq_iff_eq.mp hf) (wpAny_mono h (fun v s' hv => ?_) fun _ _ e => e))
  cases v <;> first | exact hv.elim | exact wpAny_pure (wpAny_pure (wpAny_pure hv))
end
section
variable {X : Cx} {CX : CXT} {C f : Addr} {fd : FuncData} {ps : List Str} {sp : Sp} {k : Nat} {op : Operator} {E : XK}
def ipOwn (C : Addr) (sp : Sp) (E : XK) : TIp := fun x y H Q => ∃ (a dx : Addr) (fs : List (Str × V)) (c dy : Addr) (gs : List (Str × V)), x = .ref a ∧ y = .ref c ∧ H a = some (.ins C dx fs) ∧ H c = some (.ins C dy gs) ∧ sp [.ref a, .ref c] H Q E
theorem ip_own (F : FnOk X.prog X.w X.K X.mg X.base CX k f fd ps sp) (hr : Room k X.A) (hc : PySem.W.selfFirst X.K C = true) (N : NoIp X.K C op) (hs : PySem.W.findIn X.K (.ref C) (PySem.dunder op.info.2) = some (some (.ref f))) (hf : PySem.W.isFn X.K (.ref f) = true) (hb : Binds X.K fd ps []) (hx : Passes CX X E) :
    PIp X op (ipOwn C sp E) := by
  intro pins s σ H x y v u Q I rx ry h
  obtain ⟨a, dx, fs, c, dy, gs, rfl, rfl, ea, ec, h⟩ := h
  obtain rfl : v = Value.ref a := rx
  obtain rfl : u = Value.ref c := ry
  obtain ⟨mA, O, _⟩ := ins_get I.hok ea
  obtain ⟨od, J, _⟩ := O.look
  obtain ⟨mC, O2, _⟩ := ins_get I.hok ec
  obtain ⟨od2, J2, _⟩ := O2.look
  obtain ⟨m, hF⟩ := I.fr
  have hl := F.len _ _ _ _ h
  refine inpl_same hF I.ok.mod.kin J J2.type hc N hs hf (wpAny_call (codeAny_mono (F.run X.A X.stack s H ⟨[.ref a, .ref c], []⟩ [.ref a, .ref c] [.ref a, .ref c] _ E hr I.env0 (by
    have z := hb s [.ref a, .ref c] I.kIn (by simpa using hl)
    simpa using z) (.cons rfl (.cons rfl .nil)) h) fun r s' hq => ?_))
  match r, hq with
  | .error e, hq => exact hx pins σ H s e s' I hq
  | .ok (.ret u2), hq =>
    obtain ⟨v2, H', I', rv, q⟩ := I.after hq
    exact cmp_back rv ⟨v2, H', I', rv, q⟩
end
/-! ### by keywords alone -/
structure CalXK (P : Program) (w : World) (K : PySem.W.Frag) (mg : Str → Option Value) (base : Heap) (k : Nat) (x : Str) (ks : List Str) (sp : Sp) : Prop where
  ex : ∃ (f : Addr) (fd : FuncData) (ps : List Str), FnOk P w K mg base (L2.CX P w) k f fd ps sp ∧ mg x = some (.ref f) ∧ PySem.W.keepIn K (.ref f) = true ∧ ps.length = ks.length ∧ ∀ (sh : Shared) (zs : List Value), zs.length = ks.length → BindsTo sh fd ⟨[], ks.zip zs⟩ (ps.zip zs)
section
variable {P : Program} {w : World} {K : PySem.W.Frag} {mg : Str → Option Value} {base : Heap} {x p : Str} {st : Stmt} {f : Addr} {fd : FuncData} {k : Nat} {sp : Sp}
theorem calXK_of (F : FnP K x st f fd) (hm : mg x = some (.ref f)) (hb : ∀ (kV doc pm : Value) (an : Option Addr) (cdv ct u : Value), bindArgs (PySem.W.fnOf x x (defArgs st) (defBody st) (defScope st) .none kV doc pm an cdv ct) ⟨[], [(p, u)]⟩ = pure [(p, u)])
    (h : FnOk P w K mg base (L2.CX P w) k f fd [p] sp) : CalXK P w K mg base k x [p] sp := by
  refine ⟨f, fd, [p], h, hm, F.kp, rfl, fun sh zs hl => ?_⟩
  obtain ⟨oc, od, dV, kV, doc, pm, an, cdv, ct, osl, rfl, lk, hcd, hD, hK⟩ := F.ex
  match zs, hl with
  | [v], _ =>
    rcases hD with ⟨_, rfl⟩ | ⟨e, _⟩
    · exact .of_eq (hb kV doc pm an cdv ct v)
    · exact absurd rfl e
end
section
variable {X : Cx} {k j : Nat} {x : Str} {ks : List Str} {sp : Sp} {p pos : Pos} {kws : List Keyword} {tk : TA} {E : XK}
def tCallKW (sp : Sp) (E : XK) (n : Nat) (tk : TA) : TE := fun σ H Q => tk σ H fun zs H2 => zs.length = n ∧ sp zs H2 Q E
theorem pe_calXK (c : CalXK X.prog X.w X.K X.mg X.base k x ks sp) (hr : Room j X.A) (hk : k ≤ j) (hg : Gl X x) (hx : Passes (L2.CX X.prog X.w) X E) (hkw : PK X kws tk)
    (hall : (backToKw pos (keywordEach kws X.env)).all (·.1.isSome) = true := by rfl) (hks : (backToKw pos (keywordEach kws X.env)).filterMap (·.1) = ks := by rfl)
    (hdb : (x == ("__debug__" : Str)) = false := by decide)
    (hpl : ((backTo pos (starEach [] X.env)).any (·.1) || (backToKw pos (keywordEach kws X.env)).any (·.1.isNone)) = false := by rfl) :
    PE X (.Call (.Name x p) [] kws pos) (tCallKW sp E ks.length tk) := by
  obtain ⟨f, fd, ps, F, hm, kp, hpl2, hb⟩ := c.ex
  refine ⟨fun pins s σ H Q I h => ?_⟩
  refine wpAny_Call_Name_kw (ld_glob I hg hm ?_ hdb)
  refine PySem.W.callWith_KW0 (h₀ := X.base) (first := []) I.ok.mod.kin kp hall (thn (hkw.run pos pins s σ H _ I h) fun ws s2 hh => ?_) hpl
  obtain ⟨zs, H2, I2, rz, hzl, q2⟩ := hh
  refine ⟨I2.kIn, ?_⟩
  rw [hks]
  have hw : ws.length = ks.length := by rw [← rz.length]; exact hzl
  refine wpAny_call (codeAny_mono (F.run X.A X.stack s2 H2 ⟨[], ks.zip ws⟩ ws zs Q E (hr.mono hk) I2.env0 (hb s2 ws hw) rz q2) fun r s3 z => ?_)
  match r, z with
  | .error e, z => exact hx pins σ H2 s2 e s3 I2 z
  | .ok (.ret u2), z => exact I2.after z
end
end L2.Tb
set_option Elab.async false
set_option linter.all false
set_option maxRecDepth 100000
set_option maxHeartbeats 8000000
namespace L2.K19
open PySem PySem.Spec PyProof.Rows L2.Tb
open SX (S)
abbrev s_letter : Stmt := top 24
abbrev N_letter : List Str := ["name"]
theorem sc_letter : FnScope N_letter ["name"] (defScope s_letter) := ⟨rfl, rfl, rfl, by decide +kernel, rfl, by decide +kernel, by decide +kernel⟩
abbrev s_check_formula : Stmt := top 27
abbrev N_check_formula : List Str := ["formula"]
theorem sc_check_formula : FnScope N_check_formula ["formula"] (defScope s_check_formula) := ⟨rfl, rfl, rfl, by decide +kernel, rfl, by decide +kernel, by decide +kernel⟩
abbrev s_signed : Stmt := top 30
abbrev N_signed : List Str := ["sign", "left", "right"]
theorem sc_signed : FnScope N_signed ["sign", "left", "right"] (defScope s_signed) := ⟨rfl, rfl, rfl, by decide +kernel, rfl, by decide +kernel, by decide +kernel⟩
abbrev s_fmul : Stmt := inClass (top 25) 9
abbrev N_fmul : List Str := ["self", "other"]
theorem sc_fmul : FnScope N_fmul ["self", "other"] (defScope s_fmul) := ⟨rfl, rfl, rfl, by decide +kernel, rfl, by decide +kernel, by decide +kernel⟩
abbrev s_ffdiv : Stmt := inClass (top 25) 10
abbrev N_ffdiv : List Str := ["self", "other"]
theorem sc_ffdiv : FnScope N_ffdiv ["self", "other"] (defScope s_ffdiv) := ⟨rfl, rfl, rfl, by decide +kernel, rfl, by decide +kernel, by decide +kernel⟩
abbrev s_frsh : Stmt := inClass (top 25) 11
abbrev N_frsh : List Str := ["self", "other"]
theorem sc_frsh : FnScope N_frsh ["self", "other"] (defScope s_frsh) := ⟨rfl, rfl, rfl, by decide +kernel, rfl, by decide +kernel, by decide +kernel⟩
/-- an error of the class at C with this attribute leaves -/
def ErrW (H : Hp) (C : Addr) (E : XK) (at_ : Str) (v : V) : Prop := ∀ d H', Same H H' → H d = none → H' d = some (.xd [(at_, v)]) → E (.ref C) (some d) H'
theorem ErrW.same {H H1 : Hp} {C : Addr} {E : XK} {at_ : Str} {v : V} (h : ErrW H C E at_ v) (s : Same H H1) : ErrW H1 C E at_ v := fun d H' s2 n e => h d H' (s.trans s2) (none_back s n) e
def BadN (K : PySem.W.Frag) (H : Hp) (v : V) : Prop := (∃ n : List Nat, v = .str (S n) ∧ n.length ≤ 10000 ∧ nameB n = false) ∨ NoS K H v
def spLetter (K : PySem.W.Frag) (FC CN : Addr) : Sp := fun vs H Q E => ∃ v : V, vs = [v] ∧ ((∃ n, v = .str (S n) ∧ nameB n = true ∧ ∀ x H', Same H H' → FmAt FC H' x (.lt n) → Q (.ref x) H') ∨ (BadN K H v ∧ ErrW H CN E "given" v))
def spCheckF (K : PySem.W.Frag) (FC CF : Addr) : Sp := fun vs H Q E => ∃ v : V, vs = [v] ∧ ((∃ a f, v = .ref a ∧ FmAt FC H a f ∧ Q .non H) ∨ (NoF K FC H v ∧ ErrW H CF E "given" v))
def spSigned (K : PySem.W.Frag) (FC CF CM : Addr) : Sp := fun vs H Q E => ∃ (s : Nat) (a : Addr) (y : V) (l : Fm), vs = [.str (S (sgL s)), .ref a, y] ∧ s < 3 ∧ FmAt FC H a l ∧ l.ok = true ∧ l.ops ≤ 40 ∧
  ((∃ b r, y = .ref b ∧ FmAt FC H b r ∧ r.ok = true ∧ r.ops ≤ 40 ∧ ((l.ops + 1 + r.ops ≤ 8 ∧ ∀ x H', Same H H' → FmAt FC H' x (.op s l r) → Q (.ref x) H') ∨ (8 < l.ops + 1 + r.ops ∧ ErrW H CM E "limit" (.int 8)))) ∨ (NoF K FC H y ∧ ErrW H CF E "given" y))
def spFop (s : Nat) (K : PySem.W.Frag) (FC CF CM : Addr) : Sp := fun vs H Q E => vs.length = 2 ∧ spSigned K FC CF CM (.str (S (sgL s)) :: vs) H Q E
theorem tyx_same {K : PySem.W.Frag} {H H' : Hp} {x : V} {t : Value} (s : Same H H') (h : TyX K H x t) : TyX K H' x t := by
  cases h with
  | base b =>
    refine .base ?_
    cases b with
    | non => exact .non
    | bl x => exact .bl x
    | int x => exact .int x
    | str x => exact .str x
    | flt x => exact .flt x
    | lst e => exact .lst (s _ _ e)
    | frz e => exact .frz (s _ _ e)
    | tup e => exact .tup (s _ _ e)
    | dK e => exact .dK (s _ _ e)
    | dT e => exact .dT (s _ _ e)
    | ins e a b c d f => exact .ins (s _ _ e) a b c d f
  | byt b => exact .byt b
  | set e => exact .set (s _ _ e)
  | kList e c => exact .kList e c
  | kTuple e c => exact .kTuple e c
  | kDict e c => exact .kDict e c
  | fTuple e => exact .fTuple (s _ _ e)
  | fDict e => exact .fDict (s _ _ e)
theorem NoF.same {K : PySem.W.Frag} {FC : Addr} {H H' : Hp} {v : V} (h : NoF K FC H v) (s : Same H H') : NoF K FC H' v := let ⟨t, a, b⟩ := h; ⟨t, tyx_same s a, b⟩
theorem BadN.same {K : PySem.W.Frag} {H H' : Hp} {v : V} (h : BadN K H v) (s : Same H H') : BadN K H' v := h.elim .inl fun h => .inr (let ⟨t, a, b⟩ := NoS.ex h; ⟨t, tyx_same s a, b⟩)
/-- a new formula -/
theorem new_off {FC x dx : Addr} {G H' : Hp} (nx : G x = none) (ndx : G dx = none) (h : Off x (upd (upd G dx (.own x)) x (.ins FC dx [])) H') : Same G H' := fun b o e => h b o (ne_of_none e nx) (by rw [upd_ne (ne_of_none e nx), upd_ne (ne_of_none e ndx)]; exact e)
theorem new_same {FC x dx : Addr} {G : Hp} (nx : G x = none) (ndx : G dx = none) : Same G (upd (upd G dx (.own x)) x (.ins FC dx [])) := fun b o e => by rw [upd_ne (ne_of_none e nx), upd_ne (ne_of_none e ndx)]; exact e
theorem cons_S : Str.ofString "" = S [] := by decide +kernel
section
variable {P : Program} {w : World} {K : PySem.W.Frag} {mg : Str → Option Value} {base : Heap} {f fi : Addr} {fd fdi : FuncData} {FC CInvalidName CNotAFormula CTooMany : Addr}
theorem c_letterF (T : Bt mg) (FF : FoF K mg FC) (k_is_name : Cal P w K mg base 1 "is_name" (spIsName K)) (FM : Mk K FC fi) (FiF : FnOk P w K mg base L2.CX0 6 fi fdi ["self", "sign", "name", "left", "right"] (spFinit FC)) (BiF : Binds K fdi ["self", "sign", "name", "left", "right"] [])
    (eInvalidName : ErC P w K mg base "InvalidName" "given" bVE CInvalidName) (tyInvalidName : PySem.W.typeIn K (.ref CInvalidName) = some (.type "type")) (F : FnP K "letter" s_letter f fd) : FnOk P w K mg base (L2.CX P w) 8 f fd ["name"] (spLetter K FC CInvalidName) := by
  have hnd := sc_letter.nd
  refine F.ok sc_letter (fun vs H Q E h => ?_) (fun cdv A outer s H vs Q E hr h => ?_)
  · obtain ⟨v, rfl, _⟩ := h
    rfl
  · obtain ⟨v, rfl, h⟩ := h
    refine ⟨_, (pss_cons (ps_if (pt_not (pt_val (pe_cal k_is_name hr (by omega) (by rfl) (pa_cons (pv 0) pa_nil))))
      (pss_one (ps_raise (by rfl) (takes_of rfl rfl rfl rfl) (pmk_er eInvalidName tyInvalidName hr (by omega) (by rfl) (pv 0))))
      pss_nil)
      (pss_one (ps_ret (pe_make FM FiF (hr.mono (by omega)) (by rfl) FF.mgF BiF .nil pass0 (pa_cons pe_str (pa_cons (pv 0) (pa_cons pe_non (pa_cons pe_non pa_nil)))))))), ?_⟩
    rcases h with ⟨n, rfl, hn, q⟩ | ⟨hb, q⟩
    · refine ⟨_, rfl, .str (S n), rfl, .inl ⟨n, rfl, ?_, fun H1 s1 => ?_⟩⟩
      · have := (nameB_len hn).2
        omega
      · rw [hn]
        refine ⟨_, rfl, iteF ?_⟩
        refine ⟨_, rfl, fun x dx nx ndx nex => ?_⟩
        exact ⟨x, dx, _, _, _, _, rfl, upd_same, .inl ⟨n, cons_S, rfl, rfl, rfl, fun H' of hf => ⟨rfl, q x H' (s1.trans (new_off nx ndx of)) hf⟩⟩⟩
    · refine ⟨_, rfl, v, rfl, ?_⟩
      rcases hb with ⟨n, rfl, l4, hn⟩ | hb
      · refine .inl ⟨n, rfl, l4, fun H1 s1 => ?_⟩
        rw [hn]
        exact ⟨_, rfl, iteT ⟨_, rfl, fun d H' s nd x => q d H' (s1.trans s) (none_back s1 nd) x⟩⟩
      · exact .inr ⟨hb, _, rfl, iteT ⟨_, rfl, fun d H' s nd x => q d H' s nd x⟩⟩
theorem c_letter (T : Bt mg) (FF : FoF K mg FC) (k_is_name : Cal P w K mg base 1 "is_name" (spIsName K)) (FM : Mk K FC fi) (FiF : FnOk P w K mg base L2.CX0 6 fi fdi ["self", "sign", "name", "left", "right"] (spFinit FC)) (BiF : Binds K fdi ["self", "sign", "name", "left", "right"] [])
    (eInvalidName : ErC P w K mg base "InvalidName" "given" bVE CInvalidName) (tyInvalidName : PySem.W.typeIn K (.ref CInvalidName) = some (.type "type")) (F : FnP K "letter" s_letter f fd) (hm : mg "letter" = some (.ref f)) : CalX P w K mg base 8 "letter" (spLetter K FC CInvalidName) :=
  calX_of F hm (fun _ _ _ _ _ _ us hl => match us, hl with | [_], _ => rfl) (c_letterF T FF k_is_name FM FiF BiF eInvalidName tyInvalidName F)
theorem c_letterK (T : Bt mg) (FF : FoF K mg FC) (k_is_name : Cal P w K mg base 1 "is_name" (spIsName K)) (FM : Mk K FC fi) (FiF : FnOk P w K mg base L2.CX0 6 fi fdi ["self", "sign", "name", "left", "right"] (spFinit FC)) (BiF : Binds K fdi ["self", "sign", "name", "left", "right"] [])
    (eInvalidName : ErC P w K mg base "InvalidName" "given" bVE CInvalidName) (tyInvalidName : PySem.W.typeIn K (.ref CInvalidName) = some (.type "type")) (F : FnP K "letter" s_letter f fd) (hm : mg "letter" = some (.ref f)) : CalXK P w K mg base 8 "letter" ["name"] (spLetter K FC CInvalidName) :=
  calXK_of F hm (fun _ _ _ _ _ _ _ => rfl) (c_letterF T FF k_is_name FM FiF BiF eInvalidName tyInvalidName F)
theorem c_check_formula (T : Bt mg) (FF : FoF K mg FC) (eNotAFormula : ErC P w K mg base "NotAFormula" "given" bVE CNotAFormula) (tyNotAFormula : PySem.W.typeIn K (.ref CNotAFormula) = some (.type "type")) (F : FnP K "check_formula" s_check_formula f fd) (hm : mg "check_formula" = some (.ref f)) :
    CalX P w K mg base 3 "check_formula" (spCheckF K FC CNotAFormula) := by
  have hnd := sc_check_formula.nd
  refine calX_of F hm (fun _ _ _ _ _ _ us hl => match us, hl with | [_], _ => rfl) (F.ok sc_check_formula (fun vs H Q E h => ?_) (fun cdv A outer s H vs Q E hr h => ?_))
  · obtain ⟨v, rfl, _⟩ := h
    rfl
  · obtain ⟨v, rfl, h⟩ := h
    refine ⟨_, (pss_one (ps_if (pt_not (pt_val (pe_callB call_isi (by rfl) T.m_isinstance (by decide +kernel) (pa_cons (pv 0) (pa_cons (pe_glob (v := .ref FC) (by rfl) FF.mgF rfl) pa_nil)))))
      (pss_one (ps_raise (by rfl) (takes_of rfl rfl rfl rfl) (pmk_er eNotAFormula tyNotAFormula hr (by omega) (by rfl) (pv 0))))
      pss_nil)), ?_⟩
    rcases h with ⟨a, g, rfl, hg, q⟩ | ⟨⟨t, ty, kn⟩, q⟩
    · exact ⟨_, rfl, _, _, _, _, _, rfl, .own FC, hg.ty FF, FF.self, true, rfl, iteF q⟩
    · exact ⟨_, rfl, _, _, _, _, _, rfl, .own FC, ty, kn, false, rfl, iteT ⟨_, rfl, q⟩⟩
theorem c_signed (T : Bt mg) (FF : FoF K mg FC) (mo : ∃ t, mg "MOST_OPERATIONS" = some (.int 8 t)) (LL : SpcM P w K mg base L2.CX0 FC "__len__" ["self"] 1 (spFlen FC)) (FM : Mk K FC fi) (FiF : FnOk P w K mg base L2.CX0 6 fi fdi ["self", "sign", "name", "left", "right"] (spFinit FC)) (BiF : Binds K fdi ["self", "sign", "name", "left", "right"] [])
    (x_check_formula : CalX P w K mg base 3 "check_formula" (spCheckF K FC CNotAFormula)) (eTooMany : ErC P w K mg base "TooMany" "limit" bAE CTooMany) (tyTooMany : PySem.W.typeIn K (.ref CTooMany) = some (.type "type")) (F : FnP K "_signed" s_signed f fd) (hm : mg "_signed" = some (.ref f)) :
    CalX P w K mg base 8 "_signed" (spSigned K FC CNotAFormula CTooMany) := by
  have hnd := sc_signed.nd
  obtain ⟨tmo, hmo⟩ := mo
  obtain ⟨fl_, fdl, hl, hlf, Fl, Bl⟩ := LL
  refine calX_of F hm (fun _ _ _ _ _ _ us hl => match us, hl with | [_, _, _], _ => rfl) (F.ok sc_signed (fun vs H Q E h => ?_) (fun cdv A outer s H vs Q E hr h => ?_))
  · obtain ⟨s0, a, y, l, rfl, _⟩ := h
    rfl
  · obtain ⟨s0, a, y, l, rfl, hs0, hl_, okl, l40, h⟩ := h
    refine ⟨_, (pss_cons (ps_expr (pe_calX x_check_formula hr (by omega) (by rfl) (passes_call (takes_of rfl rfl rfl rfl) (fun _ _ _ _ h => h)) (pa_cons (pv 2) pa_nil)))
      (pss_cons (ps_if (pt_cmpR op_gt (pe_op op_add (pe_op op_add (pe_callB (show CallR _ (.builtin "len") (rLenOwn FC (spFlen FC)) from call_lenOwn Fl (hr.mono (by omega)) hl hlf Bl) (by rfl) T.m_len (by decide +kernel) (pa_cons (pv 1) pa_nil)) pe_int) (pe_callB (show CallR _ (.builtin "len") (rLenOwn FC (spFlen FC)) from call_lenOwn Fl (hr.mono (by omega)) hl hlf Bl) (by rfl) T.m_len (by decide +kernel) (pa_cons (pv 2) pa_nil))) (pe_glob (v := .int 8) (by rfl) hmo ⟨_, rfl⟩) (nomark _))
      (pss_one (ps_raise (by rfl) (takes_of rfl rfl rfl rfl) (pmk_er eTooMany tyTooMany hr (by omega) (by rfl) (pe_glob (v := .int 8) (by rfl) hmo ⟨_, rfl⟩))))
      pss_nil)
      (pss_one (ps_ret (pe_make FM FiF (hr.mono (by omega)) (by rfl) FF.mgF BiF .nil pass0 (pa_cons (pv 0) (pa_cons pe_non (pa_cons (pv 1) (pa_cons (pv 2) pa_nil))))))))), ?_⟩
    rcases h with ⟨b, r, rfl, hr_, okr, r40, h⟩ | ⟨hn, q⟩
    · refine ⟨_, rfl, _, rfl, .inl ⟨b, r, rfl, hr_, ?_⟩⟩
      obtain ⟨d1, f1, e1⟩ := hl_.ins
      obtain ⟨d2, f2, e2⟩ := hr_.ins
      refine ⟨_, rfl, a, d1, f1, rfl, e1, a, l, rfl, hl_, (l.ops : Nat), rfl, Int.natCast_nonneg _, by omega, _, _, rfl, rfl, _, rfl, b, d2, f2, rfl, e2, b, r, rfl, hr_, (r.ops : Nat), rfl, Int.natCast_nonneg _, by omega, _, _, rfl, rfl, _, _, rfl, rfl, _, rfl, ?_⟩
      rcases h with ⟨h8, q⟩ | ⟨h8, q⟩
      · refine iteN2 (decide_eq_false (by omega)) ?_
        refine ⟨_, rfl, _, rfl, _, rfl, fun x dx nx ndx nex => ?_⟩
        have sx := new_same (FC := FC) nx ndx
        exact ⟨x, dx, _, _, _, _, rfl, upd_same, .inr ⟨s0, l, r, a, b, rfl, rfl, rfl, rfl, hl_.same sx, hr_.same sx, okl, okr, by omega, fun H' of hf => ⟨rfl, q x H' (new_off nx ndx of) hf⟩⟩⟩
      · exact iteT2 (decide_eq_true (by omega)) fun d H' s nd x => q d H' s nd x
    · exact ⟨_, rfl, _, rfl, .inr ⟨hn, fun d H' s nd x => q d H' s nd x⟩⟩
theorem c_fmul (x_signed : CalX P w K mg base 8 "_signed" (spSigned K FC CNotAFormula CTooMany)) (F : FunD K "__mul__" "Formula.__mul__" (defArgs s_fmul) (defBody s_fmul) (defScope s_fmul) [] [] f fd) : FnOk P w K mg base (L2.CX P w) 9 f fd ["self", "other"] (spFop 0 K FC CNotAFormula CTooMany) := by
  have hnd := sc_fmul.nd
  refine F.ok sc_fmul (fun vs H Q E h => h.1) (fun cdv A outer s H vs Q E hr h => ?_)
  obtain ⟨l2, h⟩ := h
  obtain ⟨x, y, rfl⟩ : ∃ x y, vs = [x, y] := by
    match vs, l2 with
    | [x, y], _ => exact ⟨x, y, rfl⟩
  refine ⟨_, (pss_one (ps_ret (pe_calX x_signed hr (by omega) (by rfl) (passes_call (takes_of rfl rfl rfl rfl) (fun _ _ _ _ h => h)) (pa_cons pe_str (pa_cons (pv 0) (pa_cons (pv 1) pa_nil)))))), ?_⟩
  refine ⟨_, rfl, _, rfl, ?_⟩
  have e : (Str.ofString "*") = S (sgL 0) := by decide +kernel
  rw [← e] at h
  exact h
theorem c_ffdiv (x_signed : CalX P w K mg base 8 "_signed" (spSigned K FC CNotAFormula CTooMany)) (F : FunD K "__floordiv__" "Formula.__floordiv__" (defArgs s_ffdiv) (defBody s_ffdiv) (defScope s_ffdiv) [] [] f fd) : FnOk P w K mg base (L2.CX P w) 9 f fd ["self", "other"] (spFop 1 K FC CNotAFormula CTooMany) := by
  have hnd := sc_ffdiv.nd
  refine F.ok sc_ffdiv (fun vs H Q E h => h.1) (fun cdv A outer s H vs Q E hr h => ?_)
  obtain ⟨l2, h⟩ := h
  obtain ⟨x, y, rfl⟩ : ∃ x y, vs = [x, y] := by
    match vs, l2 with
    | [x, y], _ => exact ⟨x, y, rfl⟩
  refine ⟨_, (pss_one (ps_ret (pe_calX x_signed hr (by omega) (by rfl) (passes_call (takes_of rfl rfl rfl rfl) (fun _ _ _ _ h => h)) (pa_cons pe_str (pa_cons (pv 0) (pa_cons (pv 1) pa_nil)))))), ?_⟩
  refine ⟨_, rfl, _, rfl, ?_⟩
  have e : (Str.ofString "//") = S (sgL 1) := by decide +kernel
  rw [← e] at h
  exact h
theorem c_frsh (x_signed : CalX P w K mg base 8 "_signed" (spSigned K FC CNotAFormula CTooMany)) (F : FunD K "__rshift__" "Formula.__rshift__" (defArgs s_frsh) (defBody s_frsh) (defScope s_frsh) [] [] f fd) : FnOk P w K mg base (L2.CX P w) 9 f fd ["self", "other"] (spFop 2 K FC CNotAFormula CTooMany) := by
  have hnd := sc_frsh.nd
  refine F.ok sc_frsh (fun vs H Q E h => h.1) (fun cdv A outer s H vs Q E hr h => ?_)
  obtain ⟨l2, h⟩ := h
  obtain ⟨x, y, rfl⟩ : ∃ x y, vs = [x, y] := by
    match vs, l2 with
    | [x, y], _ => exact ⟨x, y, rfl⟩
  refine ⟨_, (pss_one (ps_ret (pe_calX x_signed hr (by omega) (by rfl) (passes_call (takes_of rfl rfl rfl rfl) (fun _ _ _ _ h => h)) (pa_cons pe_str (pa_cons (pv 0) (pa_cons (pv 1) pa_nil)))))), ?_⟩
  refine ⟨_, rfl, _, rfl, ?_⟩
  have e : (Str.ofString ">>") = S (sgL 2) := by decide +kernel
  rw [← e] at h
  exact h
end
end L2.K19
set_option Elab.async false
set_option linter.all false
set_option maxRecDepth 100000
set_option maxHeartbeats 8000000
namespace L2.K19
open PySem PySem.Spec PyProof.Rows L2.Tb
open SX (S)
/-! ### tables of triples -/
abbrev Trp := Nat × Nat × Nat
def k0 (t : Trp) : Nat := t.2.1 * 600 + t.2.2
def k1 (t : Trp) : Nat := t.1 * 600 + t.2.2
def k2 (t : Trp) : Nat := t.1 * 600 + t.2.1
def kN (n : Nat) : Key := .inl (n : Int)
def tV (t : Trp) : List V := [.int (t.1 : Nat), .int (t.2.1 : Nat), .int (t.2.2 : Nat)]
def Bd (n : Nat) (t : Trp) : Prop := t.1 < n ∧ t.2.1 < n ∧ t.2.2 < n
def kvT (f g : Trp → Nat) (T : List Trp) : List (Key × V) := T.map fun t => (kN (f t), V.int ((g t : Nat) : Int))
theorem valF_mem {f g : Trp → Nat} : ∀ {T : List Trp} {t : Trp}, (∀ s ∈ T, f s = f t → s = t) → t ∈ T → valV (kvT f g T) (kN (f t)) = some (.int ((g t : Nat) : Int))
  | s :: T, t, hu, ht => by
    by_cases c : f s = f t
    · have e := hu s List.mem_cons_self c
      subst e
      exact valV_pos rfl
    · have hne : kN (f s) ≠ kN (f t) := fun z => c (by injection z with z; omega)
      rcases List.mem_cons.mp ht with rfl | ht
      · exact absurd rfl c
      · show valV ((kN (f s), V.int ((g s : Nat) : Int)) :: kvT f g T) _ = _
        rw [valV_neg hne]
        exact valF_mem (fun s hs => hu s (List.mem_cons_of_mem _ hs)) ht
theorem valF_none {f g : Trp → Nat} {k : Nat} : ∀ {T : List Trp}, (∀ s ∈ T, f s ≠ k) → valV (kvT f g T) (kN k) = none
  | [], _ => rfl
  | s :: T, h => by
    have hne : kN (f s) ≠ kN k := fun z => h s List.mem_cons_self (by injection z with z; omega)
    show valV ((kN (f s), V.int ((g s : Nat) : Int)) :: kvT f g T) _ = _
    rw [valV_neg hne]
    exact valF_none fun s hs => h s (List.mem_cons_of_mem _ hs)
theorem kvT_app {f g : Trp → Nat} {T : List Trp} {x : Trp} : kvT f g (T ++ [x]) = kvT f g T ++ [(kN (f x), V.int ((g x : Nat) : Int))] := by
  unfold kvT
  rw [List.map_append]
  rfl
/-- no two agree at two places -/
structure TOk (n : Nat) (T : List Trp) : Prop where
  bd : ∀ t ∈ T, Bd n t
  c0 : ∀ s ∈ T, ∀ t ∈ T, k0 s = k0 t → s = t
  c1 : ∀ s ∈ T, ∀ t ∈ T, k1 s = k1 t → s = t
  c2 : ∀ s ∈ T, ∀ t ∈ T, k2 s = k2 t → s = t
theorem TOk.nil {n : Nat} : TOk n [] := ⟨(fun _ h => by cases h), (fun _ h => by cases h), (fun _ h => by cases h), (fun _ h => by cases h)⟩
theorem TOk.up {n m : Nat} {T : List Trp} (h : TOk n T) (hm : n ≤ m) : TOk m T := ⟨fun t ht => let ⟨a, b, c⟩ := h.bd t ht; ⟨Nat.lt_of_lt_of_le a hm, Nat.lt_of_lt_of_le b hm, Nat.lt_of_lt_of_le c hm⟩, h.c0, h.c1, h.c2⟩
def hits (T : List Trp) (x : Trp) : Bool := T.any fun s => decide (k0 s = k0 x ∨ k1 s = k1 x ∨ k2 s = k2 x)
def add1 (T : List Trp) (x : Trp) : Option (List Trp) := if x ∈ T then some T else if hits T x = true then none else some (T ++ [x])
theorem hits_no {T : List Trp} {x : Trp} (h : hits T x = false) : ∀ s ∈ T, k0 s ≠ k0 x ∧ k1 s ≠ k1 x ∧ k2 s ≠ k2 x := fun s hs => by
  have := List.any_eq_false.mp h s hs
  have := of_decide_eq_false (Bool.eq_false_iff.mpr this)
  exact ⟨fun z => this (.inl z), fun z => this (.inr (.inl z)), fun z => this (.inr (.inr z))⟩
theorem TOk.snoc {n : Nat} {T : List Trp} {x : Trp} (h : TOk n T) (b : Bd n x) (hx : ∀ s ∈ T, k0 s ≠ k0 x ∧ k1 s ≠ k1 x ∧ k2 s ≠ k2 x) : TOk n (T ++ [x]) := by
  have go : ∀ (f : Trp → Nat), (∀ s ∈ T, ∀ t ∈ T, f s = f t → s = t) → (∀ s ∈ T, f s ≠ f x) → ∀ s ∈ T ++ [x], ∀ t ∈ T ++ [x], f s = f t → s = t := fun f h1 h2 s hs t ht e => by
    rcases List.mem_append.mp hs with hs | hs
    · rcases List.mem_append.mp ht with ht | ht
      · exact h1 s hs t ht e
      · rw [List.mem_singleton.mp ht] at e
        exact absurd e (h2 s hs)
    · rcases List.mem_append.mp ht with ht | ht
      · rw [List.mem_singleton.mp hs] at e
        exact absurd e.symm (h2 t ht)
      · rw [List.mem_singleton.mp hs, List.mem_singleton.mp ht]
  refine ⟨fun t ht => ?_, go k0 h.c0 fun s hs => (hx s hs).1, go k1 h.c1 fun s hs => (hx s hs).2.1, go k2 h.c2 fun s hs => (hx s hs).2.2⟩
  rcases List.mem_append.mp ht with ht | ht
  · exact h.bd t ht
  · rw [List.mem_singleton.mp ht]
    exact b
theorem add1_ok {n : Nat} {T T' : List Trp} {x : Trp} (h : TOk n T) (b : Bd n x) (e : add1 T x = some T') : TOk n T' := by
  unfold add1 at e
  split at e
  · cases e
    exact h
  · split at e
    · cases e
    · rename_i hh
      cases e
      exact h.snoc b (hits_no (Bool.eq_false_iff.mpr hh))
def addL : List Trp → List Trp → Option (List Trp)
  | T, [] => some T
  | T, x :: xs => match add1 T x with
    | none => none
    | some T' => addL T' xs
theorem addL_ok {n : Nat} : ∀ {xs T T' : List Trp}, TOk n T → (∀ x ∈ xs, Bd n x) → addL T xs = some T' → TOk n T'
  | [], T, T', h, _, e => by
    cases e
    exact h
  | x :: xs, T, T', h, b, e => by
    unfold addL at e
    cases e1 : add1 T x with
    | none => rw [e1] at e; cases e
    | some T1 =>
      rw [e1] at e
      exact addL_ok (add1_ok h (b x List.mem_cons_self) e1) (fun y hy => b y (List.mem_cons_of_mem _ hy)) e
/-- the thing at a place -/
def pl (t : Trp) (i : Int) : Nat := if i = 0 then t.1 else if i = 1 then t.2.1 else t.2.2
def imgT (t : Trp) (u : Turn) : Trp := (pl t u.1, pl t u.2.1, pl t u.2.2)
theorem pl_bd {n : Nat} {t : Trp} (h : Bd n t) (i : Int) : pl t i < n := by
  unfold pl
  split
  · exact h.1
  · split
    · exact h.2.1
    · exact h.2.2
theorem imgT_bd {n : Nat} {t : Trp} (h : Bd n t) (u : Turn) : Bd n (imgT t u) := ⟨pl_bd h _, pl_bd h _, pl_bd h _⟩
def addT (lot : List Turn) (T : List Trp) (t : Trp) : Option (List Trp) := if t ∈ T then some T else addL T (lot.map (imgT t))
theorem addT_ok {n : Nat} {lot : List Turn} {T T' : List Trp} {t : Trp} (h : TOk n T) (b : Bd n t) (e : addT lot T t = some T') : TOk n T' := by
  unfold addT at e
  split at e
  · cases e
    exact h
  · refine addL_ok h (fun x hx => ?_) e
    obtain ⟨u, _, rfl⟩ := List.mem_map.mp hx
    exact imgT_bd b u
/-- all, or the index of the first that clashes -/
def addA (lot : List Turn) : List Trp → Nat → List Trp → Except Nat (List Trp)
  | T, _, [] => .ok T
  | T, i, t :: ts => match addT lot T t with
    | none => .error i
    | some T' => addA lot T' (i + 1) ts
theorem addA_ok {n : Nat} {lot : List Turn} : ∀ {ts T T' : List Trp} {i : Nat}, TOk n T → (∀ t ∈ ts, Bd n t) → addA lot T i ts = .ok T' → TOk n T'
  | [], T, T', i, h, _, e => by
    cases e
    exact h
  | t :: ts, T, T', i, h, b, e => by
    unfold addA at e
    cases e1 : addT lot T t with
    | none => rw [e1] at e; cases e
    | some T1 =>
      rw [e1] at e
      exact addA_ok (addT_ok h (b t List.mem_cons_self) e1) (fun y hy => b y (List.mem_cons_of_mem _ hy)) e
/-- the keys tell the things -/
theorem key_inj {a b c d : Nat} (h1 : b < 600) (h2 : d < 600) (e : a * 600 + b = c * 600 + d) : a = c ∧ b = d := by omega
/-- what is asked of a table -/
def lookT (T : List Trp) (f : Trp → Nat) (g : Trp → Nat) (k : Nat) : Option Nat := (T.find? fun s => decide (f s = k)).map g
theorem lookT_val {f g : Trp → Nat} {k : Nat} : ∀ {T : List Trp}, valV (kvT f g T) (kN k) = (lookT T f g k).map fun n : Nat => V.int (n : Int)
  | [] => rfl
  | s :: T => by
    show valV ((kN (f s), V.int ((g s : Nat) : Int)) :: kvT f g T) _ = _
    unfold lookT
    by_cases c : f s = k
    · rw [List.find?_cons_of_pos (by simpa using c)]
      subst c
      rw [valV_pos rfl]
      rfl
    · have hne : kN (f s) ≠ kN k := fun z => c (by injection z with z; omega)
      rw [valV_neg hne, List.find?_cons_of_neg (by simpa using c)]
      exact lookT_val
theorem lookT_mem {f g : Trp → Nat} {T : List Trp} {t : Trp} (hu : ∀ s ∈ T, f s = f t → s = t) (ht : t ∈ T) : lookT T f g (f t) = some (g t) := by
  unfold lookT
  cases e : T.find? fun s => decide (f s = f t) with
  | none => exact absurd (List.find?_eq_none.mp e t ht) (by simp)
  | some s =>
    have h1 := List.mem_of_find?_eq_some e
    have h2 := List.find?_some e
    rw [hu s h1 (of_decide_eq_true h2)]
    rfl
theorem lookT_none {f g : Trp → Nat} {T : List Trp} {k : Nat} (h : ∀ s ∈ T, f s ≠ k) : lookT T f g k = none := by
  unfold lookT
  rw [List.find?_eq_none.mpr fun s hs => by simpa using h s hs]
  rfl
/-! ### closing: the least equivalence that holds the facts and the rule -/
def g0 (cs : List Nat) (i : Nat) : Nat := cs.getD i 0
def thg (p : Nat) (t : Trp) : Nat := match p with
  | 0 => t.1
  | 1 => t.2.1
  | _ => t.2.2
def ot1 (p : Nat) (t : Trp) : Nat := match p with
  | 0 => t.2.1
  | _ => t.1
def ot2 (p : Nat) (t : Trp) : Nat := match p with
  | 2 => t.2.1
  | _ => t.2.2
inductive ClI (eqs : List (Nat × Nat)) (im : List Trp) : Nat → Nat → Prop
  | refl (i : Nat) : ClI eqs im i i
  | symm {i j : Nat} : ClI eqs im i j → ClI eqs im j i
  | trans {i j k : Nat} : ClI eqs im i j → ClI eqs im j k → ClI eqs im i k
  | fact {i j : Nat} : (i, j) ∈ eqs → ClI eqs im i j
  | rule {s t : Trp} {p : Nat} : s ∈ im → t ∈ im → p < 3 → ClI eqs im (ot1 p s) (ot1 p t) → ClI eqs im (ot2 p s) (ot2 p t) → ClI eqs im (thg p s) (thg p t)
theorem ClI.map {eqs eqs' : List (Nat × Nat)} {im im' : List Trp} {φ : Nat → Nat} (h1 : ∀ e ∈ eqs, ClI eqs' im' (φ e.1) (φ e.2)) (h2 : ∀ t ∈ im, (φ t.1, φ t.2.1, φ t.2.2) ∈ im') {i j : Nat} (h : ClI eqs im i j) : ClI eqs' im' (φ i) (φ j) := by
  induction h with
  | refl i => exact .refl _
  | symm _ ih => exact .symm ih
  | trans _ _ ih1 ih2 => exact .trans ih1 ih2
  | fact h => exact h1 _ h
  | @rule s t p hs ht hp _ _ ih1 ih2 =>
    have a := h2 s hs
    have b := h2 t ht
    rcases (show p = 0 ∨ p = 1 ∨ p = 2 by omega) with rfl | rfl | rfl
    · exact .rule (p := 0) a b (by decide) ih1 ih2
    · exact .rule (p := 1) a b (by decide) ih1 ih2
    · exact .rule (p := 2) a b (by decide) ih1 ih2
/-- one class instead of two: the name of b's goes -/
def mergeC (cs : List Nat) (a b : Nat) : List Nat := cs.map fun x => if x = g0 cs b then g0 cs a else x
theorem mergeC_len (cs : List Nat) (a b : Nat) : (mergeC cs a b).length = cs.length := List.length_map ..
theorem g0_merge {cs : List Nat} {a b i : Nat} (hi : i < cs.length) : g0 (mergeC cs a b) i = if g0 cs i = g0 cs b then g0 cs a else g0 cs i := by
  unfold g0 mergeC
  rw [List.getD_eq_getElem?_getD, List.getElem?_map, List.getD_eq_getElem?_getD, List.getElem?_eq_getElem hi]
  rfl
/-- classes: names are things, each its own name's -/
structure CsOk (n : Nat) (cs : List Nat) : Prop where
  len : cs.length = n
  lt : ∀ i, i < n → g0 cs i < n
  idem : ∀ i, i < n → g0 cs (g0 cs i) = g0 cs i
def Rep (R : Nat → Nat → Prop) (n : Nat) (cs : List Nat) : Prop := ∀ i, i < n → R i (g0 cs i)
def Coarse (n : Nat) (cs ds : List Nat) : Prop := ∀ i j, i < n → j < n → g0 cs i = g0 cs j → g0 ds i = g0 ds j
theorem Coarse.refl (n : Nat) (cs : List Nat) : Coarse n cs cs := fun _ _ _ _ h => h
theorem Coarse.trans {n : Nat} {a b c : List Nat} (h1 : Coarse n a b) (h2 : Coarse n b c) : Coarse n a c := fun i j hi hj h => h2 i j hi hj (h1 i j hi hj h)
theorem CsOk.range (n : Nat) : CsOk n (List.range n) := by
  have e : ∀ i, i < n → g0 (List.range n) i = i := fun i hi => by
    unfold g0
    rw [List.getD_eq_getElem?_getD, List.getElem?_range hi]
    rfl
  exact ⟨List.length_range, fun i hi => by rw [e i hi]; exact hi, fun i hi => by rw [e i hi, e i hi]⟩
theorem range_g0 {n i : Nat} (hi : i < n) : g0 (List.range n) i = i := by
  unfold g0
  rw [List.getD_eq_getElem?_getD, List.getElem?_range hi]
  rfl
theorem CsOk.merge {n : Nat} {cs : List Nat} (h : CsOk n cs) {a b : Nat} (ha : a < n) (hb : b < n) : CsOk n (mergeC cs a b) := by
  have L := h.len
  have e : ∀ i, i < n → g0 (mergeC cs a b) i = if g0 cs i = g0 cs b then g0 cs a else g0 cs i := fun i hi => g0_merge (by omega)
  refine ⟨(mergeC_len ..).trans L, fun i hi => ?_, fun i hi => ?_⟩
  · rw [e i hi]
    split
    · exact h.lt a ha
    · exact h.lt i hi
  · rw [e i hi]
    split
    · rename_i c
      rw [e _ (h.lt a ha), h.idem a ha]
      split
      · rfl
      · rfl
    · rename_i c
      rw [e _ (h.lt i hi), h.idem i hi, if_neg c]
theorem merge_coarse {n : Nat} {cs : List Nat} (h : CsOk n cs) (a b : Nat) : Coarse n cs (mergeC cs a b) := fun i j hi hj e => by
  have L := h.len
  rw [g0_merge (by omega), g0_merge (by omega), e]
theorem merge_same {n : Nat} {cs : List Nat} (h : CsOk n cs) {a b : Nat} (ha : a < n) (hb : b < n) : g0 (mergeC cs a b) a = g0 (mergeC cs a b) b := by
  have L := h.len
  rw [g0_merge (by omega), g0_merge (by omega), if_pos rfl]
  split <;> rfl
theorem merge_rep {R : Nat → Nat → Prop} (rs : ∀ {i j}, R i j → R j i) (rt : ∀ {i j k}, R i j → R j k → R i k) {n : Nat} {cs : List Nat} (h : CsOk n cs) (r : Rep R n cs) {a b : Nat} (ha : a < n) (hb : b < n) (hab : R a b) : Rep R n (mergeC cs a b) := fun i hi => by
  have L := h.len
  rw [g0_merge (by omega)]
  split
  · rename_i c
    have := r i hi
    rw [c] at this
    exact rt this (rt (rs (r b hb)) (rt (rs hab) (r a ha)))
  · exact r i hi
/-- how many classes -/
def mu (n : Nat) (cs : List Nat) : Nat := (List.range n).countP fun i => decide (g0 cs i = i)
theorem countP_lt {α : Type} {p q : α → Bool} : ∀ {l : List α}, (∀ x ∈ l, p x = true → q x = true) → (∃ x ∈ l, q x = true ∧ p x = false) → l.countP p < l.countP q
  | [], _, ⟨_, h, _⟩ => by cases h
  | x :: l, h, ⟨y, hy, q1, p1⟩ => by
    have le := List.countP_mono_left (l := l) fun z hz => h z (List.mem_cons_of_mem _ hz)
    rw [List.countP_cons, List.countP_cons]
    by_cases e : ∃ x ∈ l, q x = true ∧ p x = false
    · have ih := countP_lt (l := l) (fun z hz => h z (List.mem_cons_of_mem _ hz)) e
      have := h x List.mem_cons_self
      cases hp : p x with
      | true => rw [this hp]; simp; omega
      | false => cases q x <;> simp <;> omega
    · rcases List.mem_cons.mp hy with rfl | hy
      · rw [q1, p1]
        simp
        omega
      · exact absurd ⟨y, hy, q1, p1⟩ e
theorem mu_merge {n : Nat} {cs : List Nat} (h : CsOk n cs) {a b : Nat} (ha : a < n) (hb : b < n) (ne : g0 cs a ≠ g0 cs b) : mu n (mergeC cs a b) < mu n cs := by
  have L := h.len
  refine countP_lt (fun i hi e => ?_) ⟨g0 cs b, List.mem_range.mpr (h.lt b hb), ?_, ?_⟩
  · have hi : i < n := List.mem_range.mp hi
    have e : g0 (mergeC cs a b) i = i := of_decide_eq_true e
    rw [g0_merge (by omega)] at e
    refine decide_eq_true ?_
    split at e
    · rename_i c
      rw [← e, h.idem a ha]
    · exact e
  · exact decide_eq_true (h.idem b hb)
  · refine decide_eq_false ?_
    rw [g0_merge (by have := h.lt b hb; omega), h.idem b hb, if_pos rfl]
    exact ne
theorem mu_pos {n : Nat} {cs : List Nat} (h : CsOk n cs) (hn : 0 < n) : 0 < mu n cs := by
  unfold mu
  rw [List.countP_pos_iff]
  exact ⟨g0 cs 0, List.mem_range.mpr (h.lt 0 hn), decide_eq_true (h.idem 0 hn)⟩
theorem mu_le (n : Nat) (cs : List Nat) : mu n cs ≤ n := by
  have := List.countP_le_length (p := fun i => decide (g0 cs i = i)) (l := List.range n)
  rw [List.length_range] at this
  exact this
/-! one pass -/
abbrev Seen := List ((Nat × Nat × Nat) × Trp)
def lookK (S : Seen) (k : Nat × Nat × Nat) : Option Trp := (S.find? fun e => decide (e.1 = k)).map (·.2)
def keyP (cs : List Nat) (t : Trp) (p : Nat) : Nat × Nat × Nat := (p, g0 cs (ot1 p t), g0 cs (ot2 p t))
def mateP (S : Seen) (cs : List Nat) (t : Trp) (p : Nat) : Trp := (lookK S (keyP cs t p)).getD t
def seenP (S : Seen) (cs : List Nat) (t : Trp) (p : Nat) : Seen := match lookK S (keyP cs t p) with
  | some _ => S
  | none => S ++ [(keyP cs t p, t)]
def stpC (S : Seen) (cs : List Nat) (t : Trp) (p : Nat) : List Nat := if g0 cs (thg p (mateP S cs t p)) = g0 cs (thg p t) then cs else mergeC cs (thg p (mateP S cs t p)) (thg p t)
def stp (x : List Nat × Seen) (q : Trp × Nat) : List Nat × Seen := (stpC x.2 x.1 q.1 q.2, seenP x.2 x.1 q.1 q.2)
def work (im : List Trp) : List (Trp × Nat) := im.flatMap fun t => [(t, 0), (t, 1), (t, 2)]
def passF (im : List Trp) (cs : List Nat) : List Nat := ((work im).foldl stp (cs, [])).1
theorem lookK_mem {S : Seen} {k : Nat × Nat × Nat} {m : Trp} (h : lookK S k = some m) : (k, m) ∈ S := by
  unfold lookK at h
  cases e : S.find? fun e => decide (e.1 = k) with
  | none => rw [e] at h; cases h
  | some x =>
    rw [e] at h
    cases h
    have h1 := List.mem_of_find?_eq_some e
    have h2 : x.1 = k := by simpa using List.find?_some e
    rw [← h2]
    exact h1
def thB (n : Nat) (t : Trp) : Prop := t.1 < n ∧ t.2.1 < n ∧ t.2.2 < n
theorem thg_lt {n p : Nat} {t : Trp} (h : thB n t) : thg p t < n := by
  unfold thg
  split
  · exact h.1
  · exact h.2.1
  · exact h.2.2
theorem ot1_lt {n p : Nat} {t : Trp} (h : thB n t) : ot1 p t < n := by
  unfold ot1
  split
  · exact h.2.1
  · exact h.1
theorem ot2_lt {n p : Nat} {t : Trp} (h : thB n t) : ot2 p t < n := by
  unfold ot2
  split
  · exact h.2.1
  · exact h.2.2
/-- what is known on the way through a pass -/
structure Way (R : Nat → Nat → Prop) (n : Nat) (im : List Trp) (c0 cs : List Nat) (S : Seen) : Prop where
  cls : CsOk n cs
  rep : Rep R n cs
  crs : Coarse n c0 cs
  mu : cs = c0 ∨ mu n cs < mu n c0
  sn : ∀ e ∈ S, e.2 ∈ im ∧ R (ot1 e.1.1 e.2) e.1.2.1 ∧ R (ot2 e.1.1 e.2) e.1.2.2
section
variable {R : Nat → Nat → Prop} {n : Nat} {im : List Trp}
theorem Way.step (rr : ∀ i, R i i) (rs : ∀ {i j}, R i j → R j i) (rt : ∀ {i j k}, R i j → R j k → R i k) (rl : ∀ s ∈ im, ∀ t ∈ im, ∀ p, p < 3 → R (ot1 p s) (ot1 p t) → R (ot2 p s) (ot2 p t) → R (thg p s) (thg p t)) (bd : ∀ t ∈ im, thB n t)
    {c0 cs : List Nat} {S : Seen} (h : Way R n im c0 cs S) {t : Trp} (ht : t ∈ im) {p : Nat} (hp : p < 3) : Way R n im c0 (stpC S cs t p) (seenP S cs t p) := by
  have bt := bd t ht
  have hm : mateP S cs t p ∈ im ∧ R (thg p (mateP S cs t p)) (thg p t) := by
    unfold mateP
    cases e : lookK S (keyP cs t p) with
    | none => exact ⟨ht, rr _⟩
    | some m =>
      obtain ⟨a, b, c⟩ := h.sn _ (lookK_mem e)
      exact ⟨a, rl m a t ht p hp (rt b (rs (h.rep _ (ot1_lt bt)))) (rt c (rs (h.rep _ (ot2_lt bt))))⟩
  have sn' : ∀ e ∈ seenP S cs t p, e.2 ∈ im ∧ R (ot1 e.1.1 e.2) e.1.2.1 ∧ R (ot2 e.1.1 e.2) e.1.2.2 := fun e he => by
    unfold seenP at he
    split at he
    · exact h.sn e he
    · rcases List.mem_append.mp he with he | he
      · exact h.sn e he
      · rw [List.mem_singleton.mp he]
        exact ⟨ht, h.rep _ (ot1_lt bt), h.rep _ (ot2_lt bt)⟩
  unfold stpC
  split
  · exact ⟨h.cls, h.rep, h.crs, h.mu, sn'⟩
  · rename_i ne
    have hmb := thg_lt (p := p) (bd _ hm.1)
    have hb := thg_lt (p := p) bt
    refine ⟨h.cls.merge hmb hb, merge_rep (R := R) rs rt h.cls h.rep hmb hb hm.2, h.crs.trans (merge_coarse h.cls _ _), .inr ?_, sn'⟩
    have := mu_merge h.cls hmb hb ne
    rcases h.mu with e | e
    · rwa [e] at this ⊢
    · omega
theorem Way.fold (rr : ∀ i, R i i) (rs : ∀ {i j}, R i j → R j i) (rt : ∀ {i j k}, R i j → R j k → R i k) (rl : ∀ s ∈ im, ∀ t ∈ im, ∀ p, p < 3 → R (ot1 p s) (ot1 p t) → R (ot2 p s) (ot2 p t) → R (thg p s) (thg p t)) (bd : ∀ t ∈ im, thB n t)
    {c0 : List Nat} : ∀ (l : List (Trp × Nat)) (x : List Nat × Seen), Way R n im c0 x.1 x.2 → (∀ q ∈ l, q.1 ∈ im ∧ q.2 < 3) → Way R n im c0 (l.foldl stp x).1 (l.foldl stp x).2
  | [], _, h, _ => h
  | q :: l, x, h, k => by
    rw [List.foldl_cons]
    exact Way.fold rr rs rt rl bd l (stp x q) (h.step rr rs rt rl bd (k q List.mem_cons_self).1 (k q List.mem_cons_self).2) fun y hy => k y (List.mem_cons_of_mem _ hy)
end
theorem work_mem {im : List Trp} : ∀ q ∈ work im, q.1 ∈ im ∧ q.2 < 3 := fun q hq => by
  obtain ⟨t, ht, h⟩ := List.mem_flatMap.mp hq
  simp only [List.mem_cons, List.not_mem_nil, or_false] at h
  rcases h with rfl | rfl | rfl <;> exact ⟨ht, by simp⟩
theorem pass_way {R : Nat → Nat → Prop} {n : Nat} {im : List Trp} (rr : ∀ i, R i i) (rs : ∀ {i j}, R i j → R j i) (rt : ∀ {i j k}, R i j → R j k → R i k) (rl : ∀ s ∈ im, ∀ t ∈ im, ∀ p, p < 3 → R (ot1 p s) (ot1 p t) → R (ot2 p s) (ot2 p t) → R (thg p s) (thg p t)) (bd : ∀ t ∈ im, thB n t)
    {cs : List Nat} (c : CsOk n cs) (r : Rep R n cs) : Way R n im cs (passF im cs) ((work im).foldl stp (cs, [])).2 :=
  Way.fold rr rs rt rl bd (work im) (cs, []) ⟨c, r, .refl _ _, .inl rfl, fun _ h => by cases h⟩ work_mem
/-! a pass that changes nothing -/
theorem lookK_app {S S' : Seen} {k : Nat × Nat × Nat} {m : Trp} (h : lookK S k = some m) : lookK (S ++ S') k = some m := by
  unfold lookK at h ⊢
  rw [List.find?_append]
  cases e : S.find? fun e => decide (e.1 = k) with
  | none => rw [e] at h; cases h
  | some x => rw [e] at h; exact h
theorem seenP_keep {S : Seen} {cs : List Nat} {t : Trp} {p : Nat} {k : Nat × Nat × Nat} {m : Trp} (h : lookK S k = some m) : lookK (seenP S cs t p) k = some m := by
  unfold seenP
  split
  · exact h
  · exact lookK_app h
theorem seenP_own {S : Seen} {cs : List Nat} {t : Trp} {p : Nat} : lookK (seenP S cs t p) (keyP cs t p) = some (mateP S cs t p) := by
  unfold seenP mateP
  cases e : lookK S (keyP cs t p) with
  | some m => exact e
  | none =>
    have h2 : S.find? (fun e => decide (e.1 = keyP cs t p)) = none := by
      unfold lookK at e
      cases c : S.find? fun e => decide (e.1 = keyP cs t p) with
      | none => rfl
      | some x => rw [c] at e; cases e
    show lookK (S ++ [(keyP cs t p, t)]) (keyP cs t p) = some t
    unfold lookK
    rw [List.find?_append, h2, Option.none_or, List.find?_cons_of_pos (by simp)]
    rfl
def Done (cs : List Nat) (S : Seen) (q : Trp × Nat) : Prop := ∃ m, lookK S (keyP cs q.1 q.2) = some m ∧ g0 cs (thg q.2 m) = g0 cs (thg q.2 q.1)
section
variable {n : Nat} {im : List Trp}
theorem triv_way {cs : List Nat} (bd : ∀ t ∈ im, thB n t) {c0 : List Nat} {S : Seen} (l : List (Trp × Nat)) (hl : ∀ q ∈ l, q.1 ∈ im ∧ q.2 < 3) (h : Way (fun _ _ => True) n im c0 cs S) : Way (fun _ _ => True) n im c0 (l.foldl stp (cs, S)).1 (l.foldl stp (cs, S)).2 :=
  Way.fold (fun _ => trivial) (fun _ => trivial) (fun _ _ => trivial) (fun _ _ _ _ _ _ _ _ => trivial) bd l (cs, S) h hl
theorem fix_fold (bd : ∀ t ∈ im, thB n t) {cs : List Nat} : ∀ (l : List (Trp × Nat)) (S : Seen) (dn : List (Trp × Nat)), (∀ q ∈ l, q.1 ∈ im ∧ q.2 < 3) → Way (fun _ _ => True) n im cs cs S → (l.foldl stp (cs, S)).1 = cs → (∀ q ∈ dn, Done cs S q) → ∀ q ∈ dn ++ l, Done cs (l.foldl stp (cs, S)).2 q
  | [], S, dn, _, _, _, hd => fun q hq => hd q (by simpa using hq)
  | q :: l, S, dn, hl, hw, hf, hd => by
    rw [List.foldl_cons] at hf ⊢
    have hq := hl q List.mem_cons_self
    have hl' : ∀ y ∈ l, y.1 ∈ im ∧ y.2 < 3 := fun y hy => hl y (List.mem_cons_of_mem _ hy)
    have h1 : Way (fun _ _ => True) n im cs (stpC S cs q.1 q.2) (seenP S cs q.1 q.2) := hw.step (fun _ => trivial) (fun _ => trivial) (fun _ _ => trivial) (fun _ _ _ _ _ _ _ _ => trivial) bd hq.1 hq.2
    have e1 : stpC S cs q.1 q.2 = cs := by
      rcases h1.mu with e | e
      · exact e
      · exfalso
        have h2 := triv_way bd l hl' (⟨h1.cls, h1.rep, .refl _ _, .inl rfl, h1.sn⟩ : Way (fun _ _ => True) n im (stpC S cs q.1 q.2) (stpC S cs q.1 q.2) (seenP S cs q.1 q.2))
        have h3 : (l.foldl stp (stpC S cs q.1 q.2, seenP S cs q.1 q.2)).1 = cs := hf
        rw [h3] at h2
        rcases h2.mu with e2 | e2
        · rw [← e2] at e
          exact absurd e (Nat.lt_irrefl _)
        · omega
    have st : stp (cs, S) q = (cs, seenP S cs q.1 q.2) := Prod.ext e1 rfl
    rw [st] at hf ⊢
    rw [e1] at h1
    have same : g0 cs (thg q.2 (mateP S cs q.1 q.2)) = g0 cs (thg q.2 q.1) := by
      by_cases c : g0 cs (thg q.2 (mateP S cs q.1 q.2)) = g0 cs (thg q.2 q.1)
      · exact c
      · exfalso
        unfold stpC at e1
        rw [if_neg c] at e1
        have hb := thg_lt (p := q.2) (bd _ hq.1)
        have L := hw.cls.len
        have := g0_merge (cs := cs) (a := thg q.2 (mateP S cs q.1 q.2)) (b := thg q.2 q.1) (i := thg q.2 q.1) (by omega)
        rw [e1, if_pos rfl] at this
        exact c this.symm
    have := fix_fold bd l (seenP S cs q.1 q.2) (dn ++ [q]) hl' h1 hf fun y hy => by
      rcases List.mem_append.mp hy with hy | hy
      · obtain ⟨m, a, b⟩ := hd y hy
        exact ⟨m, seenP_keep a, b⟩
      · rw [List.mem_singleton.mp hy]
        exact ⟨_, seenP_own, same⟩
    intro y hy
    exact this y (by simpa using hy)
theorem fix_closed (bd : ∀ t ∈ im, thB n t) {cs : List Nat} (c : CsOk n cs) (hf : passF im cs = cs) {s t : Trp} (hs : s ∈ im) (ht : t ∈ im) {p : Nat} (hp : p < 3) (h1 : g0 cs (ot1 p s) = g0 cs (ot1 p t)) (h2 : g0 cs (ot2 p s) = g0 cs (ot2 p t)) : g0 cs (thg p s) = g0 cs (thg p t) := by
  have all := fix_fold bd (work im) [] [] work_mem ⟨c, fun _ _ => trivial, .refl _ _, .inl rfl, fun _ h => by cases h⟩ hf (fun _ h => by cases h)
  have mw : ∀ {t : Trp}, t ∈ im → (t, p) ∈ work im := fun {t} ht => by
    refine List.mem_flatMap.mpr ⟨t, ht, ?_⟩
    rcases (show p = 0 ∨ p = 1 ∨ p = 2 by omega) with rfl | rfl | rfl <;> simp
  obtain ⟨m1, a1, b1⟩ := all (s, p) (by simpa using mw hs)
  obtain ⟨m2, a2, b2⟩ := all (t, p) (by simpa using mw ht)
  dsimp only at a1 a2 b1 b2
  have ek : keyP cs s p = keyP cs t p := by unfold keyP; rw [h1, h2]
  rw [ek, a2] at a1
  cases a1
  exact b1.symm.trans b2
end
/-! from the facts on -/
def initF (n : Nat) (eqs : List (Nat × Nat)) : List Nat := eqs.foldl (fun cs e => mergeC cs e.1 e.2) (List.range n)
theorem init_go {eqs0 : List (Nat × Nat)} {im : List Trp} {n : Nat} : ∀ (eqs : List (Nat × Nat)) (cs : List Nat), CsOk n cs → Rep (ClI eqs0 im) n cs → (∀ e ∈ eqs, e ∈ eqs0 ∧ e.1 < n ∧ e.2 < n) →
    CsOk n (eqs.foldl (fun cs e => mergeC cs e.1 e.2) cs) ∧ Rep (ClI eqs0 im) n (eqs.foldl (fun cs e => mergeC cs e.1 e.2) cs) ∧ Coarse n cs (eqs.foldl (fun cs e => mergeC cs e.1 e.2) cs) ∧ ∀ e ∈ eqs, g0 (eqs.foldl (fun cs e => mergeC cs e.1 e.2) cs) e.1 = g0 (eqs.foldl (fun cs e => mergeC cs e.1 e.2) cs) e.2
  | [], cs, c, r, _ => ⟨c, r, .refl _ _, fun _ h => by cases h⟩
  | e :: eqs, cs, c, r, h => by
    obtain ⟨h0, h1, h2⟩ := h e List.mem_cons_self
    have c1 := c.merge h1 h2
    obtain ⟨a1, a2, a3, a4⟩ := init_go (eqs0 := eqs0) (im := im) eqs (mergeC cs e.1 e.2) c1 (merge_rep (R := ClI eqs0 im) .symm .trans c r h1 h2 (.fact h0)) fun x hx => h x (List.mem_cons_of_mem _ hx)
    rw [List.foldl_cons]
    refine ⟨a1, a2, (merge_coarse c _ _).trans a3, fun x hx => ?_⟩
    rcases List.mem_cons.mp hx with rfl | hx
    · exact a3 _ _ h1 h2 (merge_same c h1 h2)
    · exact a4 x hx
theorem init_ok {eqs : List (Nat × Nat)} (im : List Trp) {n : Nat} (h : ∀ e ∈ eqs, e.1 < n ∧ e.2 < n) : CsOk n (initF n eqs) ∧ Rep (ClI eqs im) n (initF n eqs) ∧ ∀ e ∈ eqs, g0 (initF n eqs) e.1 = g0 (initF n eqs) e.2 := by
  obtain ⟨a, b, _, d⟩ := init_go (eqs0 := eqs) (im := im) eqs (List.range n) (.range n) (fun i hi => by rw [range_g0 hi]; exact .refl i) fun e he => ⟨he, h e he⟩
  exact ⟨a, b, d⟩
/-- classes on the way to the end: begun with the facts, justified -/
structure Clo (eqs : List (Nat × Nat)) (im : List Trp) (n : Nat) (cs : List Nat) : Prop where
  cls : CsOk n cs
  rep : Rep (ClI eqs im) n cs
  crs : Coarse n (initF n eqs) cs
theorem Clo.start {eqs : List (Nat × Nat)} {im : List Trp} {n : Nat} (h : ∀ e ∈ eqs, e.1 < n ∧ e.2 < n) : Clo eqs im n (initF n eqs) := let ⟨a, b, _⟩ := init_ok im h; ⟨a, b, .refl _ _⟩
theorem Clo.pass {eqs : List (Nat × Nat)} {im : List Trp} {n : Nat} (bd : ∀ t ∈ im, thB n t) {cs : List Nat} (h : Clo eqs im n cs) : Clo eqs im n (passF im cs) ∧ (passF im cs = cs ∨ mu n (passF im cs) < mu n cs) := by
  have w := pass_way (R := ClI eqs im) .refl .symm .trans (fun s hs t ht p hp a b => .rule hs ht hp a b) bd h.cls h.rep
  exact ⟨⟨w.cls, w.rep, h.crs.trans w.crs⟩, w.mu⟩
/-- at the end: the least one -/
theorem Clo.iff {eqs : List (Nat × Nat)} {im : List Trp} {n : Nat} (he : ∀ e ∈ eqs, e.1 < n ∧ e.2 < n) (bd : ∀ t ∈ im, thB n t) {cs : List Nat} (h : Clo eqs im n cs) (hf : passF im cs = cs) {i j : Nat} (hi : i < n) (hj : j < n) : g0 cs i = g0 cs j ↔ ClI eqs im i j := by
  constructor
  · intro e
    have a := h.rep i hi
    rw [e] at a
    exact a.trans (h.rep j hj).symm
  · intro c
    clear hi hj
    obtain ⟨_, _, d⟩ := init_ok im he
    induction c with
    | refl i => rfl
    | symm _ ih => exact ih.symm
    | trans _ _ ih1 ih2 => exact ih1.trans ih2
    | fact hm => exact h.crs _ _ (he _ hm).1 (he _ hm).2 (d _ hm)
    | rule hs ht hp _ _ ih1 ih2 => exact fix_closed bd h.cls hf hs ht hp ih1 ih2
end L2.K19
set_option Elab.async false
set_option linter.all false
set_option maxRecDepth 100000
set_option maxHeartbeats 8000000
/-! {k: v for a in xs .. for b in ys ..} -/
namespace L2.Tb
open PySem PySem.Spec PyProof.Rows
section
variable {X : Cx}
/-- a turn of the inner loop, Nx1 its end -/
def tDcIn (D : Addr) (tk tv : TE) (σ : L2.St) (H : Hp) (Nx : Hp → Prop) : Prop := tk σ H fun y H1 => tv σ H1 fun z H2 => ∃ kvs k, y = kV k ∧ H2 D = some (.dK kvs) ∧ kvs.length < sizeLine ∧ Nx (upd H2 D (.dK (putK kvs k z)))
def tDc2 (wi : TI) (g : TG) (tt : TT) (wi1 : TI) (g1 : TG) (tt1 : TT) (tk tv : TE) (vs vs1 : List Nat) : TE := fun σ H Q => wi σ H fun J H1 => ∀ D, H1 D = none → ∃ W : Nat → Nat → Hp → Prop, (∃ m, W 0 m (upd H1 D (.dK []))) ∧ ∀ i m H, W i m H →
  (J.stop i H ∧ Q (.ref D) H) ∨ (J.go i H ∧ ∃ Nx : Hp → Prop, (∀ H', Nx H' → ∃ m', m' < m ∧ W (i + 1) m' H') ∧ ∀ x H', J.yld i H x H' → g x (wipe σ vs) H' fun σ2 H2 => wipe σ2 vs = wipe σ vs ∧ tt σ2 H2 fun b H3 =>
    if b = true then wi1 σ2 H3 fun J1 H4 => ∃ W1 : Nat → Nat → Hp → Prop, (∃ m, W1 0 m H4) ∧ ∀ j k H, W1 j k H →
      (J1.stop j H ∧ Nx H) ∨ (J1.go j H ∧ ∃ Nx1 : Hp → Prop, (∀ H', Nx1 H' → ∃ k', k' < k ∧ W1 (j + 1) k' H') ∧ ∀ x H', J1.yld j H x H' → g1 x (wipe σ2 vs1) H' fun σ3 H5 => wipe σ3 vs1 = wipe σ2 vs1 ∧ tt1 σ3 H5 fun b H6 =>
        if b = true then tDcIn D tk tv σ3 H6 Nx1 else Nx1 H6)
    else Nx H3)
end
theorem compStart1_okD {prog : Program} {w : World} {A : Around} {R : Result → Shared → Prop} {s : Shared} {kx vx t0 i0 t1 i1 : Expr} {ifs0 ifs1 : List Expr} {scope : Scope} {pos : Pos} {it acc : Value} {env : Env}
    (h0 : codeAny (model prog w) A (.compLoop (.DictComp kx vx [⟨t0, i0, ifs0, 0⟩, ⟨t1, i1, ifs1, 0⟩] scope pos) 1 it acc env) R s)
    (h : wpAny (model prog w) A (pyIter it) (fun it' s' => codeAny (model prog w) A (.compLoop (.DictComp kx vx [⟨t0, i0, ifs0, 0⟩, ⟨t1, i1, ifs1, 0⟩] scope pos) 1 it' acc env) R s')
      (notedBy (model prog w) A env fun x s' => R (.error x) s') s) :
    codeAny (model prog w) A (.compStart (.DictComp kx vx [⟨t0, i0, ifs0, 0⟩, ⟨t1, i1, ifs1, 0⟩] scope pos) 1 it acc env) R s := by
  refine codeAny_of_tree ?_
  show wpAny _ _ ((compStart (.DictComp kx vx [⟨t0, i0, ifs0, 0⟩, ⟨t1, i1, ifs1, 0⟩] scope pos) 1 it acc env).onRaise (fun x => do noteFrame x env; standAt theWindowsPlace)) _ _ s
  refine wpAny_notedAt ?_
  unfold compStart
  show wpAny _ _ (ask >>= _) _ _ s
  refine wpAny_bind (wpAny_askSetting (wpAny_ite ?_))
  split
  · exact wpAny_pure (And.intro rfl h0)
  · refine wpAny_bind (wpAny_rule ?_)
    show wpAny _ _ (standAt i1.pos >>= _) _ _ s
    exact wpAny_bind (wpAny_standAt (wpAny_bind (wpAny_mono h (fun it' s' h' => wpAny_pure (And.intro rfl h')) fun _ _ x => x)))
section
variable {X : Cx}
abbrev Blk (X : Cx) (scope : Scope) (P : Cx → Prop) : Prop := ∀ (s : Shared) (H : Hp) (C : Addr) (cl : List (Str × Addr)) (fp : List Addr), P (X.blk s H scope (compEnvC scope cl C X.env) fp)
theorem dc2_core {pins : List (Addr × Obj)} {s : Shared} {σ : L2.St} {H : Hp} {Q : VK} {kx vx tg iter tg1 iter1 : Expr} {ifs ifs1 : List Expr} {scope : Scope} {own : List (Str × Nat)} {vs1 : List Nat} {pos pos' : Pos} {wi wi1 : TI} {g g1 : TG} {tt tt1 : TT} {tk tv : TE} {use : Option (Value → Sem Unit)} {Qf : Value → Shared → Prop}
    (hc : X.calm = true) (hN : X.N.Nodup) (I : Inv X pins σ H s) (hi : PI X tg iter wi) (ok : BlkOk X.N X.env.scope scope own) (hv : ∀ i ∈ vs1, i ∈ own.map (·.2))
    (bg : Blk X scope fun Y => PG Y tg g) (bt : Blk X scope fun Y => PTs Y ifs tt) (bi : Blk X scope fun Y => PI Y tg1 iter1 wi1) (bg1 : Blk X scope fun Y => PG Y tg1 g1) (bt1 : Blk X scope fun Y => PTs Y ifs1 tt1) (bk : Blk X scope fun Y => PE Y kx tk) (bv : Blk X scope fun Y => PE Y vx tv)
    (hs : ∀ x, foldedSetIterable iter X.env x = pure x) (hs1 : ∀ env x, foldedSetIterable iter1 env x = pure x) (h : tDc2 wi g tt wi1 g1 tt1 tk tv (own.map (·.2)) vs1 σ H Q)
    (done : ∀ D C s' m H', Inv X pins σ H' s' → Q (.ref D) H' → s'.heap.Ns C m → FpOk X pins H' C → compPost (model X.prog X.w) X.A X.xe use Qf (.ref D) C (.ok .next) s') :
    wpAny (model X.prog X.w) X.A (comprehension (.DictComp kx vx [⟨tg, iter, ifs, 0⟩, ⟨tg1, iter1, ifs1, 0⟩] scope pos) scope X.env pos' newDict false (eval iter X.env) use) Qf X.xe s := by
  have free : ∀ y ∈ scope.names, y.2 = .free → ∃ c, X.env.cells.lookup y.1 = some c := fun y hy e => (ok.free y hy e).elim (fun k => I.ok.has _ (.inl k)) fun k => I.ok.has _ (.inr k)
  refine wpAny_comprehension_free (use := use) rfl hs (closure_ok free) ok.kind (fun y hy e => by rw [ok.uniq y hy, e]) (thn (hi.run pins s σ H _ I h) fun xv s1 hx => thn hx fun itv s2 h2 => ?_)
  obtain ⟨it, fp, tn, J, H2, rfl, I2, T, at2, ok2, q⟩ := h2
  refine wpAny_newObj_type (newEnv_comp ?_)
  generalize hD : s2.heap.objs.size = D
  have nD : H2 D = none := I2.hok.fresh (Nat.le_of_eq hD)
  obtain ⟨W, ⟨m0, w0⟩, turn⟩ := q D nD
  generalize hs3 : ({ s2 with heap := s2.heap.push { cls := .type "dict", data := .dict #[] } } : Shared) = s3
  have h3 : s3.heap = s2.heap.push { cls := .type "dict", data := .dict #[] } := by rw [← hs3]
  have I3 : Inv X pins σ (upd H2 D (.dK [])) s3 := by
    subst hs3 hD
    exact I2.laid (t' := s2.toks) (fun b o e => Heap.get?_push_of_some _ e) (Nat.le_refl _) (dk_empty s2.heap I2.big)
  have ok3 : ∀ b ∈ fp, FpOk X pins (upd H2 D (.dK [])) b ∧ b < s3.heap.objs.size := fun b hb => by
    obtain ⟨o, e, _⟩ := T.obj _ _ at2 b hb
    have lt := Heap.lt_size e
    refine ⟨⟨?_, (ok2 b hb).2⟩, by rw [h3, Heap.size_push]; exact Nat.lt_succ_of_lt lt⟩
    rw [upd_ne (hD ▸ Nat.ne_of_lt lt)]
    exact (ok2 b hb).1
  have at3 : tn 0 s3.heap := T.keep _ _ _ at2 fun b _ o e => h3 ▸ Heap.get?_push_of_some _ e
  have I4 := block_start I3 ok hN ok3
  let cl := cellsFrom (s3.heap.objs.size + 1) scope.names (cloFrom X.env.cells scope.names [])
  have pg := bg s3 (upd H2 D (.dK [])) s3.heap.objs.size cl fp
  have pt := bt s3 (upd H2 D (.dK [])) s3.heap.objs.size cl fp
  have pi1 := bi s3 (upd H2 D (.dK [])) s3.heap.objs.size cl fp
  have pg1 := bg1 s3 (upd H2 D (.dK [])) s3.heap.objs.size cl fp
  have pt1 := bt1 s3 (upd H2 D (.dK [])) s3.heap.objs.size cl fp
  have pk := bk s3 (upd H2 D (.dK [])) s3.heap.objs.size cl fp
  have pv := bv s3 (upd H2 D (.dK [])) s3.heap.objs.size cl fp
  show codeAny _ _ (.compStart (.DictComp kx vx [⟨tg, iter, ifs, 0⟩, ⟨tg1, iter1, ifs1, 0⟩] scope pos) 0 (.ref it) (.ref D) (compEnvC scope cl s3.heap.objs.size X.env)) (compPost (model X.prog X.w) X.A X.xe use Qf (.ref D) s3.heap.objs.size) { s3 with heap := pushCells (s3.heap.push { cls := .type "dict", data := .dict #[] }) scope.names }
  have nfp : ∀ b ∈ fp, (upd H2 D (.dK [])) b = none := fun b hb => (ok3 b hb).1.1
  have I4 : Inv (X.blk s3 (upd H2 D (.dK [])) scope (compEnvC scope cl s3.heap.objs.size X.env) fp) [] (wipe σ (own.map (·.2))) (upd H2 D (.dK [])) { s3 with heap := pushCells (s3.heap.push { cls := .type "dict", data := .dict #[] }) scope.names } := I4
  generalize hce : compEnvC scope cl s3.heap.objs.size X.env = ce at I4 pg pt pk pv pi1 pg1 pt1 ⊢
  have cL : ce.locals = s3.heap.objs.size := hce ▸ rfl
  clear_value cl
  generalize upd H2 D (.dK []) = H3 at I3 I4 pg pt pk pv pi1 pg1 pt1 w0 nfp ok3
  generalize hs4 : ({ s3 with heap := pushCells (s3.heap.push { cls := .type "dict", data := .dict #[] }) scope.names } : Shared) = s4 at I4 ⊢
  have at4 : tn 0 s4.heap := T.keep _ _ _ at3 fun b _ o e => by rw [← hs4]; exact pushCells_keeps _ _ _ _ (Heap.get?_push_of_some _ e)
  have stat : ∀ {σ' : L2.St} {H' : Hp} {s' : Shared}, Inv (X.blk s3 H3 scope ce fp) [] σ' H' s' → (∀ b ∈ fp, H' b = none) → ∀ b ∈ fp, FpOk (X.blk s3 H3 scope ce fp) [] H' b := fun {_ _ _} I' hn b hb =>
    ⟨hn b hb, (I'.ok.exf b hb).1, I'.ok.exfs b hb, .inl hb, fun x c e => (I'.ok.exf b hb).2 x c e, fun p hp => by cases hp⟩
  -- what holds between two turns of the outer loop
  let Mid : Nat → Shared → Prop := fun n s' => ∃ i H', Inv (X.blk s3 H3 scope ce fp) [] (wipe σ (own.map (·.2))) H' s' ∧ tn i s'.heap ∧ (∀ b ∈ fp, H' b = none) ∧ W i n H'
  have loop : codeAny (model X.prog X.w) X.A (.compLoop (.DictComp kx vx [⟨tg, iter, ifs, 0⟩, ⟨tg1, iter1, ifs1, 0⟩] scope pos) 0 (.ref it) (.ref D) ce) (compPost (model X.prog X.w) X.A X.xe use Qf (.ref D) s3.heap.objs.size) s4 := by
    refine codeAny_loop rfl Mid (fun n s5 hM => ?_) m0 ⟨0, H3, I4, at4, nfp, w0⟩
    obtain ⟨i, H5, I5, at5, n5, w5⟩ := hM
    show wpAny _ X.A ((compTurn (.DictComp kx vx [⟨tg, iter, ifs, 0⟩, ⟨tg1, iter1, ifs1, 0⟩] scope pos) 0 (.ref it) (.ref D) ce).onRaise (fun x => do noteFrame x ce; theTreesLotGoes x)) _ _ s5
    refine wpAny_noted ?_
    show wpAny _ _ (standAt iter.pos >>= _) _ _ s5
    refine wpAny_bind (wpAny_standAt ?_)
    show wpAny _ _ (pyNext (.ref it) >>= _) _ _ s5
    refine wpAny_bind ?_
    rcases turn i n H5 w5 with ⟨stop, qq⟩ | ⟨go, Nx, hNx, step⟩
    · refine thnF (T.done (X.blk s3 H3 scope ce fp) rfl rfl rfl hc i [] s5 _ H5 (fun _ _ => False) I5 (stat I5 n5) at5 stop) fun r s6 ⟨hr, I6⟩ => ?_
      subst hr
      have I7 : Inv X pins σ H5 s6 := I3.call' (ch := fp) I6.os I6.base I6.hok I6.bare fun b hb => ⟨(ok3 b hb).1.2.2.2.1, (ok3 b hb).1.2.1, (ok3 b hb).1.2.2.2.2.1, (ok3 b hb).1.2.2.2.2.2⟩
      have nC : H5 s3.heap.objs.size = none := cL ▸ (I6.free : H5 ce.locals = none)
      obtain ⟨m, hn, _⟩ := I6.loc
      have hn : s6.heap.Ns ce.locals m := hn
      rw [cL] at hn
      exact wpAny_pure (done D s3.heap.objs.size s6 m H5 I7 qq hn (I3.fpOk (Nat.le_refl _) nC))
    · refine thnF (T.item (X.blk s3 H3 scope ce fp) rfl rfl rfl hc i [] s5 _ H5 (fun _ _ => False) I5 (stat I5 n5) at5 go) fun r s6 ⟨u, hr, h6⟩ => ?_
      subst hr
      show wpAny _ _ (letOwnedTupleGo tg (.ref it) u >>= _) _ _ s6
      refine wpAny_bind (thnF h6 fun _ s7 ⟨x, H7, I7, r7, y7, at7, n7⟩ => ?_)
      have I7' := I7.pinned (stat I7 n7) (T.obj _ _ at7)
      show wpAny _ _ (assign tg ce u >>= _) _ _ s7
      refine wpAny_bind (thnF (pg.run _ s7 _ H7 x u _ I7' r7 (step x H7 y7)) fun _ s8 ⟨σ8, H8, I8, hw8, q8⟩ => ?_)
      refine wpAny_bind (thnF (pt.run _ s8 σ8 H8 _ I8 q8) fun b s9 ⟨H9, I9, q9⟩ => ?_)
      have fin : ∀ {σ9 : L2.St} {s' : Shared} {H' : Hp}, Inv (X.blk s3 H3 scope ce fp) ([] ++ pinsAt fp s7.heap) σ9 H' s' → (wipe σ (own.map (·.2))).length = σ9.length → (∀ (j : Nat) v, (wipe σ (own.map (·.2)))[j]? = some (some v) → σ9[j]? = some (some v)) → Nx H' → ∃ m, m < n ∧ Mid m s' := fun {_ s' H'} I' hl hk nx => by
        obtain ⟨m', lt, w'⟩ := hNx H' nx
        have pin : ∀ b ∈ fp, ∀ o, s7.heap.get? b = some o → s'.heap.get? b = some o ∧ H' b = none := fun b hb o e =>
          have z := I'.pin (b, o) (List.mem_append_right _ (List.mem_append_right _ (mem_pinsAt hb e)))
          ⟨z.1, z.2.1⟩
        refine ⟨m', lt, i + 1, H', (I'.unpinned (pins := [])).weak hl hk, T.keep _ _ _ at7 fun b hb o e => (pin b hb o e).1, fun b hb => ?_, w'⟩
        obtain ⟨o, e, _⟩ := T.obj _ _ at7 b hb
        exact (pin b hb o e).2
      have hl8 : (wipe σ (own.map (·.2))).length = σ8.length := by rw [← hw8, wipe_length]
      have hk8 : ∀ (j : Nat) v, (wipe σ (own.map (·.2)))[j]? = some (some v) → σ8[j]? = some (some v) := fun j v e => (wipe_some (hw8.symm ▸ e)).1
      have hk9 : ∀ (j : Nat) v, (wipe σ (own.map (·.2)))[j]? = some (some v) → (wipe σ8 vs1)[j]? = some (some v) := fun j v e => by
        obtain ⟨e1, e2⟩ := wipe_some (hw8.symm ▸ e)
        rw [wipe_out fun z => e2 (hv j z)]
        exact e1
      cases b with
      | false =>
        simp only [Bool.false_eq_true, if_false] at q9 ⊢
        exact wpAny_pure ⟨rfl, fin I9 hl8 hk8 q9⟩
      | true =>
        simp only [if_true] at q9 ⊢
        show wpAny _ _ (eval iter1 ce >>= _) _ _ s9
        refine wpAny_bind (thnF (pi1.run _ s9 σ8 H9 _ I9 q9) fun xv s10 hx => ?_)
        show wpAny _ _ (standAt iter1.pos >>= _) _ _ s10
        refine wpAny_bind (wpAny_standAt ?_)
        show wpAny _ _ (foldedSetIterable iter1 ce xv >>= _) _ _ s10
        refine wpAny_bind (wpAny_of_eq (hs1 ce xv) ?_)
        show wpAny _ _ (holding [xv] (pyIter xv) >>= _) _ _ s10
        refine wpAny_bind (wpAny_holding (thnF hx fun itv s11 h11 => ?_))
        obtain ⟨it1, fp1, tn1, J1, H11, rfl, I11, T1, at11, ok11, W1, ⟨m1, w1⟩, turn1⟩ := h11
        refine wpAny_bind (wpAny_runOwn ?_)
        rw [Around.mark_none]
        have stat1 : ∀ {H' : Hp}, (∀ b ∈ fp1, H' b = none) → ∀ b ∈ fp1, FpOk (X.blk s3 H3 scope ce fp) ([] ++ pinsAt fp s7.heap) H' b := fun hn b hb => ⟨hn b hb, (ok11 b hb).2⟩
        have loop1 : codeAny (model X.prog X.w) X.A (.compLoop (.DictComp kx vx [⟨tg, iter, ifs, 0⟩, ⟨tg1, iter1, ifs1, 0⟩] scope pos) 1 (.ref it1) (.ref D) ce) (fun r s' => match r with
              | .ok _ => ∃ m, m < n ∧ Mid m s'
              | .error _ => False) s11 := by
          refine codeAny_loop rfl (fun k s' => ∃ j H', Inv (X.blk s3 H3 scope ce fp) ([] ++ pinsAt fp s7.heap) (wipe σ8 vs1) H' s' ∧ tn1 j s'.heap ∧ (∀ b ∈ fp1, H' b = none) ∧ W1 j k H') (fun k s12 hk => ?_) m1 ⟨0, H11, I11.weak (wipe_length _ _) (fun j v e => (wipe_some e).1), at11, fun b hb => (ok11 b hb).1, w1⟩
          obtain ⟨j, H12, I12, at12, n12, w12⟩ := hk
          show wpAny _ X.A ((compTurn (.DictComp kx vx [⟨tg, iter, ifs, 0⟩, ⟨tg1, iter1, ifs1, 0⟩] scope pos) 1 (.ref it1) (.ref D) ce).onRaise (fun x => do noteFrame x ce; theTreesLotGoes x)) _ _ s12
          refine wpAny_noted ?_
          show wpAny _ _ (standAt iter1.pos >>= _) _ _ s12
          refine wpAny_bind (wpAny_standAt ?_)
          show wpAny _ _ (pyNext (.ref it1) >>= _) _ _ s12
          refine wpAny_bind ?_
          rcases turn1 j k H12 w12 with ⟨stop1, nx1⟩ | ⟨go1, Nx1, hNx1, step1⟩
          · refine thnF (T1.done (X.blk s3 H3 scope ce fp) rfl rfl rfl hc j _ s12 (wipe σ8 vs1) H12 (fun _ _ => False) I12 (stat1 n12) at12 stop1) fun r s13 ⟨hr, I13⟩ => ?_
            subst hr
            exact wpAny_pure (fin I13 (hl8.trans (wipe_length σ8 vs1).symm) hk9 nx1)
          · refine thnF (T1.item (X.blk s3 H3 scope ce fp) rfl rfl rfl hc j _ s12 (wipe σ8 vs1) H12 (fun _ _ => False) I12 (stat1 n12) at12 go1) fun r s13 ⟨u1, hr, h13⟩ => ?_
            subst hr
            show wpAny _ _ (letOwnedTupleGo tg1 (.ref it1) u1 >>= _) _ _ s13
            refine wpAny_bind (thnF h13 fun _ s14 ⟨x1, H14, I14, r14, y14, at14, n14⟩ => ?_)
            have I14' := I14.pinned (stat1 n14) (T1.obj _ _ at14)
            show wpAny _ _ (assign tg1 ce u1 >>= _) _ _ s14
            refine wpAny_bind (thnF (pg1.run _ s14 (wipe σ8 vs1) H14 x1 u1 _ I14' r14 (step1 x1 H14 y14)) fun _ s15 ⟨σ15, H15, I15, hw15, q15⟩ => ?_)
            refine wpAny_bind (thnF (pt1.run _ s15 σ15 H15 _ I15 q15) fun b1 s16 ⟨H16, I16, q16⟩ => ?_)
            have fin1 : ∀ {s' : Shared} {H' : Hp}, Inv (X.blk s3 H3 scope ce fp) (([] ++ pinsAt fp s7.heap) ++ pinsAt fp1 s14.heap) σ15 H' s' → Nx1 H' → ∃ m, m < k ∧ ∃ j H', Inv (X.blk s3 H3 scope ce fp) ([] ++ pinsAt fp s7.heap) (wipe σ8 vs1) H' s' ∧ tn1 j s'.heap ∧ (∀ b ∈ fp1, H' b = none) ∧ W1 j m H' := fun {s' H'} I' nx => by
              obtain ⟨m', lt, w'⟩ := hNx1 H' nx
              have pin : ∀ b ∈ fp1, ∀ o, s14.heap.get? b = some o → s'.heap.get? b = some o ∧ H' b = none := fun b hb o e =>
                have z := I'.pin (b, o) (List.mem_append_right _ (List.mem_append_right _ (mem_pinsAt hb e)))
                ⟨z.1, z.2.1⟩
              refine ⟨m', lt, j + 1, H', I'.unpinned.weak (by rw [← hw15, wipe_length]) (fun j v e => (wipe_some (hw15.symm ▸ e)).1), T1.keep _ _ _ at14 fun b hb o e => (pin b hb o e).1, fun b hb => ?_, w'⟩
              obtain ⟨o, e, _⟩ := T1.obj _ _ at14 b hb
              exact (pin b hb o e).2
            cases b1 with
            | false =>
              simp only [Bool.false_eq_true, if_false] at q16 ⊢
              exact wpAny_pure ⟨rfl, fin1 I16 q16⟩
            | true =>
              simp only [if_true] at q16 ⊢
              refine wpAny_bind (wpAny_bind (thnF (pk.run _ s16 σ15 H16 _ I16 q16) fun zk s17 ⟨yk, H17, I17, r17, q17⟩ => ?_))
              refine wpAny_bind (wpAny_holding (thnF (pv.run _ s17 σ15 H17 _ I17 q17) fun zv s18 ⟨yv, H18, I18, r18, kvs, kk, ek, hD18, hz18, nx⟩ => ?_))
              subst ek
              exact wpAny_bind (wpAny_standAt (wpAny_holding (thnF (d_dictSet (X := X.blk s3 H3 scope ce fp) (Q := fun _ s' => ∃ m, m < k ∧ _) (E := _) I18 hD18 hz18 r17 r18 fun s19 I19 => fin1 I19 nx) fun _ _ h => wpAny_pure ⟨rfl, h⟩)))
        refine codeAny_mono (compStart1_okD loop1 (T1.self X.A 0 _ _ _ at11 loop1)) fun r s' hr => ?_
        cases r with
        | ok f => exact wpAny_pure ⟨rfl, hr⟩
        | error e => exact hr.elim
  exact codeAny_compStart_dict loop (T.self X.A 0 _ _ _ at4 loop)
/-- as a value -/
theorem pe_dc2 {kx vx tg iter tg1 iter1 : Expr} {ifs ifs1 : List Expr} {scope : Scope} {own : List (Str × Nat)} {vs1 : List Nat} {pos : Pos} {wi wi1 : TI} {g g1 : TG} {tt tt1 : TT} {tk tv : TE} (hc : X.calm = true) (hN : X.N.Nodup) (hi : PI X tg iter wi) (ok : BlkOk X.N X.env.scope scope own) (hv : ∀ i ∈ vs1, i ∈ own.map (·.2))
    (bg : ∀ (s : Shared) (H : Hp) (C : Addr) (cl : List (Str × Addr)) (fp : List Addr), PG (X.blk s H scope (compEnvC scope cl C X.env) fp) tg g) (bt : ∀ (s : Shared) (H : Hp) (C : Addr) (cl : List (Str × Addr)) (fp : List Addr), PTs (X.blk s H scope (compEnvC scope cl C X.env) fp) ifs tt) (bi : ∀ (s : Shared) (H : Hp) (C : Addr) (cl : List (Str × Addr)) (fp : List Addr), PI (X.blk s H scope (compEnvC scope cl C X.env) fp) tg1 iter1 wi1) (bg1 : ∀ (s : Shared) (H : Hp) (C : Addr) (cl : List (Str × Addr)) (fp : List Addr), PG (X.blk s H scope (compEnvC scope cl C X.env) fp) tg1 g1) (bt1 : ∀ (s : Shared) (H : Hp) (C : Addr) (cl : List (Str × Addr)) (fp : List Addr), PTs (X.blk s H scope (compEnvC scope cl C X.env) fp) ifs1 tt1) (bk : ∀ (s : Shared) (H : Hp) (C : Addr) (cl : List (Str × Addr)) (fp : List Addr), PE (X.blk s H scope (compEnvC scope cl C X.env) fp) kx tk) (bv : ∀ (s : Shared) (H : Hp) (C : Addr) (cl : List (Str × Addr)) (fp : List Addr), PE (X.blk s H scope (compEnvC scope cl C X.env) fp) vx tv)
    (hs : ∀ x, foldedSetIterable iter X.env x = pure x := by intro _; rfl) (hs1 : ∀ env x, foldedSetIterable iter1 env x = pure x := by intro _ _; rfl) :
    PE X (.DictComp kx vx [⟨tg, iter, ifs, 0⟩, ⟨tg1, iter1, ifs1, 0⟩] scope pos) (tDc2 wi g tt wi1 g1 tt1 tk tv (own.map (·.2)) vs1) := by
  refine ⟨fun pins s σ H Q I h => ?_⟩
  rw [arm_eval_DictComp]
  refine dc2_core hc hN I hi ok hv bg bt bi bg1 bt1 bk bv hs hs1 h fun D C s' m H' I' q hn f => ⟨m, hn, fun h'' sb => ?_⟩
  obtain ⟨f0, f1, f2, f3, f4, f5⟩ := f
  exact ⟨.ref D, H', I'.turned (t' := s'.toks) (fun b o hb e => (sb.2 b hb).trans e) f0 f1 f3 f4 f5, rfl, q⟩
theorem ps_setDc2 {i : Nat} {y : Str} {py : Pos} {kx vx tg iter tg1 iter1 : Expr} {ifs ifs1 : List Expr} {scope : Scope} {own : List (Str × Nat)} {vs1 : List Nat} {pos spos : Pos} {wi wi1 : TI} {g g1 : TG} {tt tt1 : TT} {tk tv : TE} (hc : X.calm = true) (hN : X.N.Nodup) (hy : X.N[i]? = some y) (hyl : X.env.scope.names.lookup y = some .local)
    (hsw : swapsWith (.DictComp kx vx [⟨tg, iter, ifs, 0⟩, ⟨tg1, iter1, ifs1, 0⟩] scope pos) (some (.Name y py)) spos.line X.env = pure true) (hi : PI X tg iter wi) (ok : BlkOk X.N X.env.scope scope own) (hv : ∀ i ∈ vs1, i ∈ own.map (·.2))
    (bg : ∀ (s : Shared) (H : Hp) (C : Addr) (cl : List (Str × Addr)) (fp : List Addr), PG (X.blk s H scope (compEnvC scope cl C X.env) fp) tg g) (bt : ∀ (s : Shared) (H : Hp) (C : Addr) (cl : List (Str × Addr)) (fp : List Addr), PTs (X.blk s H scope (compEnvC scope cl C X.env) fp) ifs tt) (bi : ∀ (s : Shared) (H : Hp) (C : Addr) (cl : List (Str × Addr)) (fp : List Addr), PI (X.blk s H scope (compEnvC scope cl C X.env) fp) tg1 iter1 wi1) (bg1 : ∀ (s : Shared) (H : Hp) (C : Addr) (cl : List (Str × Addr)) (fp : List Addr), PG (X.blk s H scope (compEnvC scope cl C X.env) fp) tg1 g1) (bt1 : ∀ (s : Shared) (H : Hp) (C : Addr) (cl : List (Str × Addr)) (fp : List Addr), PTs (X.blk s H scope (compEnvC scope cl C X.env) fp) ifs1 tt1) (bk : ∀ (s : Shared) (H : Hp) (C : Addr) (cl : List (Str × Addr)) (fp : List Addr), PE (X.blk s H scope (compEnvC scope cl C X.env) fp) kx tk) (bv : ∀ (s : Shared) (H : Hp) (C : Addr) (cl : List (Str × Addr)) (fp : List Addr), PE (X.blk s H scope (compEnvC scope cl C X.env) fp) vx tv)
    (hs : ∀ x, foldedSetIterable iter X.env x = pure x := by intro _; rfl) (hs1 : ∀ env x, foldedSetIterable iter1 env x = pure x := by intro _ _; rfl) :
    PS X (.Assign [.Name y py] (.DictComp kx vx [⟨tg, iter, ifs, 0⟩, ⟨tg1, iter1, ifs1, 0⟩] scope pos) spos) (tAsg (tDc2 wi g tt wi1 g1 tt1 tk tv (own.map (·.2)) vs1) (gName i)) := by
  refine ⟨fun pins s σ H D I h => ?_⟩
  rw [exec_Assign_Name_used _ _ _ _ hsw]
  refine wpAny_bind (wpAny_standAt (wpAny_bind ?_))
  show wpAny _ X.A (do let _ ← comprehension (.DictComp kx vx [⟨tg, iter, ifs, 0⟩, ⟨tg1, iter1, ifs1, 0⟩] scope pos) scope X.env (firstIterPos [⟨tg, iter, ifs, 0⟩, ⟨tg1, iter1, ifs1, 0⟩] pos) newDict false (eval iter X.env) (some (assign (.Name y py) X.env))) _ _ s
  have h : tDc2 wi g tt wi1 g1 tt1 tk tv (own.map (·.2)) vs1 σ H (fun x H1 => gName i x σ H1 D.nx) := h
  refine wpAny_bind (thn (dc2_core (Qf := fun _ s' => SP X pins D .next s') hc hN I hi ok hv bg bt bi bg1 bt1 bk bv hs hs1 h fun L C s' m H' I' q hn f => ?_) fun _ s' hq => wpAny_pure (wpAny_pure hq))
  show wpAny _ _ (assign (.Name y py) X.env (.ref L)) _ _ _
  refine wpAny_assign_Name (store_ok2 (v := V.ref L) I' hN hy (.inl hyl) rfl (fun s2 I2 ⟨a, sb, ha⟩ => ?_) (.inr hyl))
  obtain ⟨f0, f1, f2, f3, f4, f5⟩ := f
  have haC : C ≠ a := by
    rcases ha with z | z
    · rw [z]; exact f1
    · exact fun e => f4 y a z e.symm
  refine ⟨m, hn.sameBut sb haC, fun h3 sb3 => ?_⟩
  exact ⟨_, H', I2.turned (t' := s2.toks) (fun b o hb e => (sb3.2 b hb).trans e) f0 f1 f3 f4 f5, q⟩
/-- any loop over a walk, whatever a turn asks -/
theorem it_go {J : It} {n : Nat} {G : Hp → Prop} {Y : Nat → Hp → V → Hp → Prop} (w : Walk J n G Y) {Hs : Hp} {Qd : Hp → Prop} {B : (Hp → Prop) → V → Hp → Prop} (Pv : Nat → Hp → Prop) (h0 : Pv 0 Hs) (hG : ∀ i H, i ≤ n → Pv i H → G H)
    (hs : ∀ i x H H', i < n → Pv i H → Y i H x H' → B (Pv (i + 1)) x H') (hd : ∀ H, Pv n H → Qd H) :
    ∃ W : Nat → Nat → Hp → Prop, (∃ m, W 0 m Hs) ∧ ∀ i m H, W i m H → (J.stop i H ∧ Qd H) ∨ (J.go i H ∧ ∃ Nx : Hp → Prop, (∀ H', Nx H' → ∃ m', m' < m ∧ W (i + 1) m' H') ∧ ∀ x H', J.yld i H x H' → B Nx x H') := by
  refine ⟨fun i m H => m = n - i ∧ i ≤ n ∧ Pv i H, ⟨n, by simp, Nat.zero_le _, h0⟩, ?_⟩
  rintro i m H ⟨rfl, hi, p⟩
  have q := hG i H hi p
  by_cases hlt : i < n
  · refine .inr ⟨w.goes i H hlt q, Pv (i + 1), fun H' p' => ⟨n - (i + 1), by omega, rfl, hlt, p'⟩, fun x H' y => hs i x H H' hlt p (w.yields i H x H' hlt q y)⟩
  · have e : i = n := by omega
    subst e
    exact .inl ⟨w.stops H q, hd H p⟩
end
end L2.Tb
set_option Elab.async false
set_option linter.all false
set_option maxRecDepth 100000
set_option maxHeartbeats 4000000
/-! set(xs) of a list of ints, its length; sorted of it is in the library -/
namespace L2.Tb
open PySem PySem.Spec PyProof.Rows
/-- the set as it begins -/
abbrev mtS (w : World) : Obj := { cls := .type "set", dict := none, data := .set #[] 0 (.fresh 0 0 (!w.params.followText "set-order")) }
/-- the heap that the filling leaves -/
def Filled (w : World) (h h' : Heap) (ns : List Int) (c : Nat) : Prop := SetR w h' h.objs.size (fun j => decide (j ∈ ns)) c ∧ c ≤ ns.length ∧ ∀ b o, h.get? b = some o → h'.get? b = some o
set_option maxHeartbeats 8000000 in
theorem set_listI {P : Program} {w : World} {A : Around} {E : Value → Shared → Prop} {s : Shared} {l : Addr} {its : Array Value} {ns : List Int} {Q : Value → Shared → Prop} (free : A.handled = none) (hl : s.heap.IsList l its) (hi : IntsAre its.toList ns) (few : ns.length + 1 < scanBound)
    (h : ∀ (h' : Heap) (tk c : Nat), Filled w s.heap h' ns c → Q (.ref s.heap.objs.size) { s with heap := h', toks := tk }) : wpAny (model P w) A (call (.type "set") [.ref l]) Q E s := by
  have size : its.size = ns.length := by
    rw [← Array.length_toList]
    exact IntsAre.length hi
  obtain ⟨_, _, mro⟩ := F.called_set.mro
  have m1 := F.called_set.made
  have m2 := F.called_set.sub
  refine wpAny_call (codeAny_of_tree ?_)
  show wpAny _ _ (callAny (.type "set") _) _ _ _
  refine wpAny_pure ⟨Code.quiet_builtin _ (by decide +kernel), codeAny_builtin F.entry_type_call ?_⟩
  rw [Around.under_plain (weight_type_call_type "set" [.ref l] []) rfl]
  have m3 := F.called_set.notType
  have m4 := F.called_set.canCreate
  have m5 := F.typeCall_set_1 (.ref l)
  repeat (any_goals (first | assumption | wp_step))
  refine codeAny_mono (code_set_led1 (.ref l) (E := E) (Q₁ := fun x s1 => x = .ref s.heap.objs.size ∧ s1 = { s with heap := s.heap.push (mtS w) }) ⟨rfl, rfl⟩) fun r s1 hr => ?_
  match r, hr with
  | .error e, hr => exact hr
  | .ok (.ret x), hr =>
    obtain ⟨rfl, rfl⟩ := hr
    have at0 : (s.heap.push (mtS w)).get? s.heap.objs.size = some (mtS w) := Heap.get?_push_size _ rfl
    have ty0 : Shared.TypeIs { s with heap := s.heap.push (mtS w) } (.ref s.heap.objs.size) "set" := ⟨_, at0, rfl⟩
    have n1 := F.called_set.init.lookup
    have n2 := F.called_set.init.bind (.ref s.heap.objs.size)
    repeat (any_goals (first | assumption | wp_step))
    refine codeAny_mono (codeAny_call_builtin (R := wants (fun r2 s2 => r2 = .none ∧ ∃ h' tk c, s2 = { s with heap := h', toks := tk } ∧ Filled w s.heap h' ns c) E) F.called_set.init.plain F.entry_set_init (check_set_init_1 ty0 ?_)) fun r2 s2 hr2 => ?_
    · obtain ⟨⟨oc, od, oo, os⟩, ho, hc, k, hd⟩ := hl
      simp only at hc hd
      subst hc hd
      have old : l < s.heap.objs.size := Heap.lt_size ho
      have ho2 : (s.heap.push (mtS w)).get? l = some { cls := .type "list", dict := od, data := .seq its k, slots := os } := Heap.get?_push_of_some _ ho
      have l2 : (s.heap.push (mtS w)).IsList l its := ⟨_, ho2, rfl, k, rfl⟩
      have w1 := F.sub_list_set
      have w2 := F.sub_list_frozenset
      have w3 : (Value.type "list" == Value.type "dict") = false := by decide
      unfold Builtin.«set.__init__» noKeywords Builtin.Frozenset.updateFrom
      generalize hPI : pyIter = PI
      wp_walk
      subst hPI
      refine wpAny_pyIter_list l2 (wpAny_bind (wpAny_runValue ?_))
      have grown : (s.heap.push (mtS w)).objs.size = s.heap.objs.size + 1 := Heap.size_push ..
      have neI : l ≠ (s.heap.push (mtS w)).objs.size := by
        rw [grown]
        exact Nat.ne_of_lt (Nat.lt_succ_of_lt old)
      have out : s.heap.objs.size ∉ [(s.heap.push (mtS w)).objs.size, l] := by
        rw [grown]
        simp only [List.mem_cons, List.not_mem_nil, or_false, not_or]
        exact ⟨Nat.ne_of_lt (Nat.lt_succ_self _), Nat.ne_of_gt old⟩
      have val : ∀ (i : Nat) (v : Value), its[i]? = some v → ∃ j t, ns[i]? = some j ∧ v = .int j t := fun i v hv => by
        have lt : i < ns.length := size ▸ (Array.getElem?_eq_some_iff.mp hv).1
        obtain ⟨t, e⟩ := IntsAre.int_at hi i v (by rw [Array.getElem?_toList]; exact hv)
        refine ⟨ns[i], t, List.getElem?_eq_getElem lt, ?_⟩
        rw [e, List.getD_eq_getElem?_getD, List.getElem?_eq_getElem lt] <;> rfl
      refine set_update_ints ((Walks.list (show A.in1.in1.in1.handled = none by simp [free]) _ l neI its).toS) s.heap.objs.size out ns size few val (its.size - 0) 0 _ (by omega) (Nat.zero_le _)
        ⟨⟨_, Heap.get?_push_size _ rfl, rfl, rfl⟩, l2.push _⟩ ⟨0, Nat.le_refl 0, setR_new_at (Heap.get?_push_of_some _ at0)⟩ ?fin
      case fin =>
        rintro ⟨h', g', d', tk, os'⟩ c mm cl sR
        obtain rfl : g' = s.gens := mm.gens
        obtain rfl : d' = s.drawn := mm.drawn
        obtain rfl : os' = s.os := mm.os
        show wpAny _ _ _ _ _ _
        refine wpAny_pure ?_
        show wpAny _ _ (ret Value.none) _ _ _
        refine wpAny_pure ⟨rfl, h', tk, c, rfl, sR, by omega, fun b o e => ?_⟩
        have lt : b < s.heap.objs.size := Heap.lt_size e
        refine mm.heap b o ?_ (Heap.get?_push_of_some _ (Heap.get?_push_of_some _ e))
        rw [grown]
        simp only [List.mem_cons, List.not_mem_nil, or_false, not_or]
        exact ⟨Nat.ne_of_lt lt, Nat.ne_of_lt (Nat.lt_succ_of_lt lt)⟩
    · match r2, hr2 with
      | .error e, hr2 => exact hr2
      | .ok (.ret r), hr2 =>
        obtain ⟨rfl, h', tk, c, rfl, fl⟩ := hr2
        repeat (any_goals (first | assumption | wp_step))
        exact h h' tk c fl
def rSetLI (K : PySem.W.Frag) (w : World) : List V → Hp → VK → Prop := fun xs H Q => ∃ (l : Addr) (ns : List Int), xs = [.ref l] ∧ SqL K H l (ns.map V.int) ∧ ns.length ≤ 1000 ∧ ∀ (p : Addr) (c : Nat), H p = none → c ≤ ns.length → Q (.ref p) (upd H p (SetO w p (fun j => decide (j ∈ ns)) c))
theorem cr_setLI {X : Cx} (hc : X.calm = true) : CallR X (.type "set") (rSetLI X.K X.w) := by
  intro pins s σ H vs us Q I r h
  obtain ⟨l, ns, rfl, hq, few, q⟩ := h
  rw [Vals.ref1 r]
  obtain ⟨its, r2, pl, hz⟩ := I.list hq
  refine set_listI (I.ok.hd hc) pl.isList (ns := ns) (by simpa using RZ.intsAre_vals r2) (by unfold scanBound; omega) fun h' tk c ⟨sR, cl, keep⟩ => ?_
  have hn : H s.heap.objs.size = none := I.hok.fresh (Nat.le_refl _)
  have J : Inv X pins σ (upd H s.heap.objs.size (SetO X.w s.heap.objs.size (fun j => decide (j ∈ ns)) c)) { s with heap := h', toks := tk } := I.laid (t' := tk) keep (Nat.le_refl _) (setO_new sR)
  exact ⟨.ref _, _, J, rfl, q _ c hn cl⟩
/-- len(found) -/
def rLenSet (w : World) : List V → Hp → VK → Prop := fun vs H Q => ∃ (a : Addr) (M : Int → Bool) (n : Nat), vs = [V.ref a] ∧ H a = some (SetO w a M n) ∧ n ≤ 4000 ∧ Q (.int (n : Nat)) H
theorem call_lenSet {X : Cx} : CallR X (.builtin "len") (rLenSet X.w) := by
  intro pins s σ H vs us Q I r h
  obtain ⟨a, M, n, rfl, ha, n4, q⟩ := h
  obtain ⟨o, es, ep, t, ho, hex, hd, _, _, _, _, hf, hn⟩ := (setO_get I ha)
  rw [Vals.ref1 r]
  exact call_len_set ho hex hd hf (by rw [hn.1]; omega) ⟨.int n, H, I.tok _, ⟨_, by rw [hn.1]⟩, q⟩
end L2.Tb
set_option Elab.async false
set_option linter.all false
set_option maxRecDepth 100000
set_option maxHeartbeats 4000000
/-! d.setdefault(k, v), the keys tuples -/
namespace L2.Tb
open PySem PySem.Spec PyProof.Rows
section
variable {X : Cx} {o e f : Expr} {td ty tx : TE} {apos cpos : Pos}
def tDSetdT (td ty tx : TE) : TE := fun σ H Q => td σ H fun x H1 => ∃ a, x = .ref a ∧ IsD H1 a ∧ ty σ H1 fun y H2 => tx σ H2 fun z H3 => ∃ (kvs : List (List Key × V)) (k : List Key) (b : Addr), H3 a = some (.dT kvs) ∧ y = .ref b ∧ H3 b = some (.tup (k.map kV)) ∧ kvs.length < sizeLine ∧
  (∀ v, valV kvs k = some v → Q v H3) ∧ (valV kvs k = none → Q z (upd H3 a (.dT (putK kvs k z))))
theorem d_setdT {pins : List (Addr × Obj)} {σ : L2.St} {H : Hp} {s : Shared} {A : Around} {E : Value → Shared → Prop} {a b : Addr} {kvs : List (List Key × V)} {k : List Key} {d : V} {r : Value} {Q : Value → Shared → Prop} (hu : A.units + 1 < cLine) (I : Inv X pins σ H s) (ea : H a = some (.dT kvs)) (eb : H b = some (.tup (k.map kV))) (rd : RelV d r) (few : kvs.length < sizeLine)
    (h1 : ∀ v, valV kvs k = some v → ∀ (u : Value) (s' : Shared), Inv X pins σ H s' → RelV v u → Q u s') (h2 : valV kvs k = none → ∀ s', Inv X pins σ (upd H a (.dT (putK kvs k d))) s' → Q r s') : wpAny (model X.prog X.w) A (call (.builtin "dict.setdefault") [.ref a, .ref b, r]) Q E s := by
  obtain ⟨_, ns, xs, rel, dd⟩ := dt_of I.hok ea
  have len := Paired.length rel
  have got := rel.val k
  refine call_setdefault_heap (tupleKind_room_in1 hu) (key_of I.hok eb) ns dd (fun q hq => ?_) (fun hq h' dd' sb => ?_) (by omega)
  · rw [hq] at got
    cases c : valV kvs k with
    | none =>
      rw [c] at got
      exact got.elim
    | some v =>
      rw [c] at got
      exact h1 v c _ _ (I.tok _) got
  · rw [hq] at got
    cases c : valV kvs k with
    | some v =>
      rw [c] at got
      exact got.elim
    | none =>
      obtain ⟨o', es, ep, ho, d2, d3, d4, d5, d6⟩ := dd'
      refine h2 c _ (d_write I (by rw [ea]; exact True.intro) sb ⟨o', ho⟩ ⟨?_, ns, _, (rel.put k eb rd).keeps fun c ys ec => ?_, o', es, ep, ho, d2, d3, d4, d6⟩)
      · have := length_putK kvs k d
        omega
      · rw [upd_ne (ne_of ec ea (fun z => nomatch z))]
        exact ec
theorem pe_dsetdT (hu : X.A.units + 1 < cLine) (ho : PE X o td) (he : PE X e ty) (hf : PE X f tx) (m : M2 X o "setdefault" apos e f cpos) : PE X (.Call (.Attribute o "setdefault" apos) [e, f] [] cpos) (tDSetdT td ty tx) :=
  ⟨fun pins s σ H Q I h => by
    refine wpAny_Call_method m.base m.few m.line PySem.F.plainAttrs_dict PySem.F.slot_dict_setdefault PySem.F.type_dict_setdefault (thn (ho.run pins s σ H _ I h) fun u s1 ⟨x, H1, I1, rx, a, ex, isd, q1⟩ => ?_)
    subst ex
    cases (show u = Value.ref a from rx)
    have at1 := isD_at I1 isd
    refine ⟨at1.1, at1.2.1, ?_⟩
    rw [m.trees]
    refine Calls.callWith_builtin rfl (Calls.evalArgs_plain (Calls.spliced_cons (thn (he.run pins s1 σ H1 _ I1 q1) fun iv s2 ⟨y, H2, I2, ry, q2⟩ => Calls.spliced_cons (thn (hf.run pins s2 σ H2 _ I2 q2) fun fv s3 ⟨z, H3, I3, rz, kvs, k, b, ea, ey, eb, few, q3, q4⟩ => Calls.spliced_nil ?_))))
    subst ey
    cases (show iv = Value.ref b from ry)
    exact d_setdT hu I3 ea eb rz few (fun v hv u s4 I4 ru => ⟨v, _, I4, ru, q3 v hv⟩) fun hn s4 I4 => ⟨z, _, I4, rz, q4 hn⟩⟩
end
end L2.Tb
set_option Elab.async false
set_option linter.all false
set_option maxRecDepth 100000
set_option maxHeartbeats 8000000
namespace L2.K19
open PySem PySem.Spec PyProof.Rows L2.Tb
open SX (S)
def TrpAt (H : Hp) (q : Addr) (t : Trp) : Prop := H q = some (.tup (tV t))
def okU (u : Turn) : Bool := [(0 : Int), 1, 2].contains u.1 && ([(0 : Int), 1, 2].contains u.2.1 && [(0 : Int), 1, 2].contains u.2.2)
theorem lots_okU : ∀ z ∈ wordsD, (lotOf z).all okU = true := by decide +kernel
theorem lots_len6 : ∀ z ∈ wordsD, (lotOf z).length ≤ 6 := by decide +kernel
theorem pl_at {t : Trp} {i : Int} (h : [(0 : Int), 1, 2].contains i = true) : atI (tV t) i = some (.int ((pl t i : Nat) : Int)) := by
  have h : i = 0 ∨ i = 1 ∨ i = 2 := by simpa using h
  rcases h with rfl | rfl | rfl
  · exact atI_nat (j := 0) rfl
  · exact atI_nat (j := 1) rfl
  · exact atI_nat (j := 2) rfl
def TrpsAt (H : Hp) (l : Addr) (ts : List Trp) : Prop := ∃ qs : List Addr, H l = some (.lst (qs.map V.ref)) ∧ Paired (TrpAt H) qs ts
theorem TrpsAt.same {H H' : Hp} {l : Addr} {ts : List Trp} (h : TrpsAt H l ts) (s : Same H H') : TrpsAt H' l ts := let ⟨qs, a, b⟩ := h; ⟨qs, s _ _ a, paired_imp (fun _ _ e => s _ _ e) b⟩
/-! ### parts of formulas, numbered -/
abbrev s_striple : Stmt := top 26
abbrev N_striple : List Str := ["sign", "left", "right", "made"]
theorem sc_striple : FnScope N_striple ["sign", "left", "right", "made"] (defScope s_striple) := ⟨rfl, rfl, rfl, by decide +kernel, rfl, by decide +kernel, by decide +kernel⟩
abbrev s_all_parts : Stmt := top 45
abbrev N_all_parts : List Str := ["formulas", "formula", "part", "found", "text", "order", "_"]
theorem sc_all_parts : FnScope N_all_parts ["formulas"] (defScope s_all_parts) := ⟨rfl, rfl, rfl, by decide +kernel, rfl, by decide +kernel, by decide +kernel⟩
abbrev s_part_numbers : Stmt := top 46
abbrev N_part_numbers : List Str := ["parts", "number", "part"]
theorem sc_part_numbers : FnScope N_part_numbers ["parts"] (defScope s_part_numbers) := ⟨rfl, rfl, rfl, by decide +kernel, rfl, by decide +kernel, by decide +kernel⟩
abbrev s_op_triples : Stmt := top 47
abbrev N_op_triples : List Str := ["parts", "numbers", "part"]
theorem sc_op_triples : FnScope N_op_triples ["parts"] (defScope s_op_triples) := ⟨rfl, rfl, rfl, by decide +kernel, rfl, by decide +kernel, by decide +kernel⟩
/-- all but the object at p, a dict -/
theorem FmAt.D {FC : Addr} {H H' : Hp} {a p : Addr} {f : Fm} (h : FmAt FC H a f) (s : ∀ b o, b ≠ p → H b = some o → H' b = some o) (hp : ∃ l, H p = some (.dK l)) : FmAt FC H' a f := by
  obtain ⟨l, ep⟩ := hp
  refine h.mono fun b o n e => s b o (fun z => ?_) e
  rw [z, ep] at e
  cases e
  rcases n with ⟨_, _, _, z, _⟩ | ⟨_, z⟩ <;> cases z
/-- all but the object at p, a locked dict -/
theorem FmAt.F {FC : Addr} {H H' : Hp} {a p : Addr} {f : Fm} (h : FmAt FC H a f) (s : ∀ b o, b ≠ p → H b = some o → H' b = some o) (hp : ∃ od l, H p = some (.frz od l)) : FmAt FC H' a f := by
  obtain ⟨od, l, ep⟩ := hp
  refine h.mono fun b o n e => s b o (fun z => ?_) e
  rw [z, ep] at e
  cases e
  rcases n with ⟨_, _, _, z, _⟩ | ⟨_, z⟩ <;> cases z
theorem subs_ops : ∀ (f g : Fm), g ∈ subsF f → g.ops ≤ f.ops
  | .lt n, g, hg => by
    simp only [subsF, List.mem_singleton] at hg
    rw [hg]
    exact Nat.le_refl _
  | .op s l r, g, hg => by
    simp only [subsF, List.mem_append, List.mem_singleton] at hg
    rcases hg with (hg | hg) | hg
    · rw [hg]
      exact Nat.le_refl _
    · have := subs_ops l g hg
      simp only [Fm.ops]
      omega
    · have := subs_ops r g hg
      simp only [Fm.ops]
      omega
theorem parts_ops {f g : Fm} (h : g ∈ partsF f) : g.ops ≤ f.ops := subs_ops f g (partsF_subs f g h)
/-- the triple of an operation -/
def trS (s a b c : Nat) : Trp := match s with
  | 0 => (a, b, c)
  | 1 => (c, b, a)
  | _ => (a, c, b)
/-- where a text stands first -/
def ixX (fs : List Fm) (t : List Nat) : Nat := fs.findIdx fun f => decide (f.txt = t)
/-- all operations' triples -/
def tripO (all : List Fm) : Fm → Option Trp
  | .lt _ => none
  | .op s l r => some (trS s (ixX all l.txt) (ixX all r.txt) (ixX all (Fm.op s l r).txt))
def tripsG (all fs : List Fm) : List Trp := fs.filterMap (tripO all)
def tripsF (fs : List Fm) : List Trp := tripsG fs fs
def numK (fs : List Fm) : List (Key × V) := (List.range fs.length).map fun i => (Sum.inr (S ((fs.map Fm.txt).getD i [])), V.int (i : Int))
/-- the parts of the parts are among them -/
def ClosedF (fs : List Fm) : Prop := ∀ s l r, Fm.op s l r ∈ fs → l.txt ∈ fs.map Fm.txt ∧ r.txt ∈ fs.map Fm.txt
def spStrip4 : Sp := fun vs H Q _ => ∃ s a b c : Nat, vs = [.str (S (sgL s)), .int (a : Int), .int (b : Int), .int (c : Int)] ∧ s < 3 ∧ ∀ (q : Addr) H', Same H H' → TrpAt H' q (trS s a b c) → Q (.ref q) H'
def spAllParts (FC : Addr) : Sp := fun vs H Q _ => ∃ (L : Addr) (as : List Addr) (fs : List Fm), vs = [.ref L] ∧ H L = some (.lst (as.map V.ref)) ∧ Paired (FmAt FC H) as fs ∧ (∀ f ∈ fs, f.ops ≤ 100) ∧ (fs.flatMap partsF).length ≤ 1000 ∧
  ∀ (R : Addr) (qs : List Addr) (H' : Hp), Same H H' → H' R = some (.lst (qs.map V.ref)) → Paired (FmAt FC H') qs (ordF (fs.flatMap partsF)) → Q (.ref R) H'
def spPartNums (FC : Addr) : Sp := fun vs H Q _ => ∃ (L : Addr) (as : List Addr) (fs : List Fm), vs = [.ref L] ∧ H L = some (.lst (as.map V.ref)) ∧ Paired (FmAt FC H) as fs ∧ fs.length ≤ 1000 ∧ (fs.map Fm.txt).Nodup ∧
  ∀ (D : Addr) (H' : Hp), Same H H' → H' D = some (.dK (numK fs)) → Q (.ref D) H'
def spOpTriples (FC : Addr) : Sp := fun vs H Q _ => ∃ (L : Addr) (as : List Addr) (fs : List Fm), vs = [.ref L] ∧ H L = some (.lst (as.map V.ref)) ∧ Paired (FmAt FC H) as fs ∧ (∀ f ∈ fs, f.ok = true) ∧ fs.length ≤ 1000 ∧ (fs.map Fm.txt).Nodup ∧ ClosedF fs ∧
  ∀ (R : Addr) (H' : Hp), Same H H' → TrpsAt H' R (tripsF fs) → Q (.ref R) H'
section
variable {P : Program} {w : World} {K : PySem.W.Frag} {mg : Str → Option Value} {base : Heap} {f : Addr} {fd : FuncData} {FC : Addr}
theorem c_striple (F : FnP K "signed_triple" s_striple f fd) (hm : mg "signed_triple" = some (.ref f)) : Cal P w K mg base 1 "signed_triple" spStrip4 := by
  have hnd := sc_striple.nd
  refine cal_mk F hm sc_striple (fun _ _ _ _ _ _ us hl => match us, hl with | [_, _, _, _], _ => rfl) (fun vs H Q E h => ?_) (fun cdv A outer s H vs Q E hr h => ?_)
  · obtain ⟨s0, a, b, c, rfl, _⟩ := h
    rfl
  · obtain ⟨s0, a, b, c, rfl, hs, q⟩ := h
    refine ⟨_, (pss_cons (ps_if (pt_cmpR op_eq (pv 0) pe_str (nomark _))
      (pss_one (ps_ret (pe_tup (pa_cons (pv 1) (pa_cons (pv 2) (pa_cons (pv 3) pa_nil))))))
      pss_nil)
      (pss_cons (ps_if (pt_cmpR op_eq (pv 0) pe_str (nomark _))
      (pss_one (ps_ret (pe_tup (pa_cons (pv 3) (pa_cons (pv 2) (pa_cons (pv 1) pa_nil))))))
      pss_nil)
      (pss_one (ps_ret (pe_tup (pa_cons (pv 1) (pa_cons (pv 3) (pa_cons (pv 2) pa_nil)))))))), ?_⟩
    rcases (show s0 = 0 ∨ s0 = 1 ∨ s0 = 2 by omega) with rfl | rfl | rfl
    · refine ⟨_, rfl, rfl, _, rfl, iteT2 (by decide +kernel) ⟨_, rfl, _, rfl, _, rfl, Nat.le_of_ble_eq_true rfl, fun R nR => q R _ (same_new nR) upd_same⟩⟩
    · refine ⟨_, rfl, rfl, _, rfl, iteN2 (by decide +kernel) ?_⟩
      refine ⟨_, rfl, rfl, _, rfl, iteT2 (by decide +kernel) ⟨_, rfl, _, rfl, _, rfl, Nat.le_of_ble_eq_true rfl, fun R nR => q R _ (same_new nR) upd_same⟩⟩
    · refine ⟨_, rfl, rfl, _, rfl, iteN2 (by decide +kernel) ?_⟩
      refine ⟨_, rfl, rfl, _, rfl, iteN2 (by decide +kernel) ?_⟩
      exact ⟨_, rfl, _, rfl, _, rfl, Nat.le_of_ble_eq_true rfl, fun R nR => q R _ (same_new nR) upd_same⟩
theorem c_all_parts (T : Bt mg) (mstr : mg "str" = none) (FF : FoF K mg FC) (PP : PrpM P w K mg base FC "parts" 1 (spFparts FC)) (SS : SpcM P w K mg base L2.CX0 FC "__str__" ["self"] 1 (spFstr FC)) (LL : SpcM P w K mg base L2.CX0 FC "__len__" ["self"] 1 (spFlen FC)) (F : FnP K "all_parts" s_all_parts f fd) (hm : mg "all_parts" = some (.ref f)) : Cal P w K mg base 4 "all_parts" (spAllParts FC) := by
  have hnd := sc_all_parts.nd
  obtain ⟨p9, g9, fd9, PP9, FP9, BP9⟩ := PP
  obtain ⟨fs_, fds, hs, hsf, Fs, Bs⟩ := SS
  obtain ⟨fl_, fdl, hl, hlf, Fl, Bl⟩ := LL
  refine cal_mk F hm sc_all_parts (fun _ _ _ _ _ _ us hl => match us, hl with | [_], _ => rfl) (fun vs H Q E h => ?_) (fun cdv A outer s H vs Q E hr h => ?_)
  · obtain ⟨L, as, fs, rfl, _⟩ := h
    rfl
  · obtain ⟨L0, as, fs, rfl, eL, pp, ops9, few, q⟩ := h
    refine ⟨_, (pss_cons (ps_set (i := 3) hnd rfl (by first | exact Or.inl rfl | exact Or.inr rfl) (pe_dc2 (own := [("formula", 1), ("part", 2)]) (vs1 := [2]) (tt := tYes) (tt1 := tYes) (g := (gName 1)) (g1 := (gName 2)) (wi1 := iTup K _) (by rfl) hnd (pi_list (pv 0)) (blkOk_by (own := [("formula", 1), ("part", 2)]) (N := N_all_parts) (sc := defScope s_all_parts) (by decide +kernel)) (by decide) (fun _ _ _ _ _ => (pg_name (i := 1) hnd rfl (by first | exact Or.inl rfl | exact Or.inr rfl))) (fun _ _ _ _ _ => pts_nil) (fun _ _ _ _ _ => (pi_tup (pe_prop (E := L2.E0) (pv 1) FF.cls PP9 FP9 (hr.mono (by omega)) BP9 .nil (fun _ _ _ _ _ _ _ h => h.elim) (by rfl)))) (fun _ _ _ _ _ => (pg_name (i := 2) hnd rfl (by first | exact Or.inl rfl | exact Or.inr rfl))) (fun _ _ _ _ _ => pts_nil) (fun _ _ _ _ _ => (pe_callTy (show CallR _ (.type "str") (rStrOwn FC (spFstr FC)) from call_strOwn Fs (hr.mono (by omega)) hs hsf Bs) (by rfl) mstr (by decide +kernel) (pa_cons (pv 2) pa_nil))) (fun _ _ _ _ _ => (pv 2))))
      (pss_cons (ps_set (i := 5) hnd rfl (by first | exact Or.inl rfl | exact Or.inr rfl) (pe_callB (show CallR _ (.builtin "sorted") (rSortIS K) from call_sortIS (Nat.lt_of_le_of_lt (Nat.add_le_add_left (by decide) _) hr.units)) (by rfl) T.m_sorted (by decide +kernel) (pa_cons (pe_lock (pe_lc (own := [("text", 4), ("part", 2)]) (tt := tYes) (g := (gTup K 2 (gCons (gName 4) (gCons (gName 2) gNil)))) (by rfl) hnd (pi_items (pv 3)) (blkOk_by (own := [("text", 4), ("part", 2)]) (N := N_all_parts) (sc := defScope s_all_parts) (by decide +kernel)) (fun _ _ _ _ _ => (pg_tup (by rfl) (pgs_cons (pg_name (i := 4) hnd rfl (by first | exact Or.inl rfl | exact Or.inr rfl)) (pgs_cons (pg_name (i := 2) hnd rfl (by first | exact Or.inl rfl | exact Or.inr rfl)) pgs_nil)))) (fun _ _ _ _ _ => pts_nil) (fun _ _ _ _ _ => (pe_tup (pa_cons (pe_callB (show CallR _ (.builtin "len") (rLenOwn FC (spFlen FC)) from call_lenOwn Fl (hr.mono (by omega)) hl hlf Bl) (by rfl) T.m_len (by decide +kernel) (pa_cons (pv 2) pa_nil)) (pa_cons (pv 4) pa_nil)))))) pa_nil)))
      (pss_one (ps_ret (pe_lc (own := [("_", 6), ("text", 4)]) (tt := tYes) (g := (gTup K 2 (gCons (gName 6) (gCons (gName 4) gNil)))) (by rfl) hnd (pi_list (pv 5)) (blkOk_by (own := [("_", 6), ("text", 4)]) (N := N_all_parts) (sc := defScope s_all_parts) (by decide +kernel)) (fun _ _ _ _ _ => (pg_tup (by rfl) (pgs_cons (pg_name (i := 6) hnd rfl (by first | exact Or.inl rfl | exact Or.inr rfl)) (pgs_cons (pg_name (i := 4) hnd rfl (by first | exact Or.inl rfl | exact Or.inr rfl)) pgs_nil)))) (fun _ _ _ _ _ => pts_nil) (fun _ _ _ _ _ => (pe_dget (Nat.lt_of_le_of_lt (Nat.add_le_add_left (by decide) _) hr.units) (pv 3) (pv 4) (fun _ _ => rfl)))))))), ?_⟩
    refine ⟨_, rfl, L0, rfl, ⟨_, SqL.of eL⟩, fun D nD => it_go (walk_list (K := K) (a := L0) (xs := as.map V.ref)) (fun i G => ∃ z : List (Addr × Fm), Same H G ∧ G D = some (.dK ((ddK qtx z).map entK)) ∧ (∀ q ∈ z, FmAt FC G q.1 q.2) ∧ z.map (·.2) = (fs.take i).flatMap partsF)
      ⟨[], same_new nD, upd_same, fun _ h => (by cases h), rfl⟩ (fun i G _ ⟨z, sG, _⟩ => SqL.of (sG _ _ eL)) ?_ ?_⟩
    · rintro i x G G' hi ⟨z, sG, eG, zG, z2⟩ ⟨rfl, hx⟩
      rw [List.length_map] at hi
      have li : i < fs.length := by rw [← pp.length]; exact hi
      have h1 : as[i]? = some as[i] := List.getElem?_eq_getElem hi
      have h2 : fs[i]? = some fs[i] := List.getElem?_eq_getElem li
      have mf : fs[i] ∈ fs := List.getElem_mem li
      have hf := (paired_get2 pp i _ _ h1 h2).same sG
      rw [List.getElem?_map, h1] at hx
      obtain rfl := Option.some.inj hx
      generalize as[i] = a0 at h1 hf
      generalize fs[i] = f0 at h2 mf hf
      obtain ⟨dx, fs1, e1⟩ := hf.ins
      have bd : ((fs.take i).flatMap partsF).length + (partsF f0).length ≤ 1000 := by
        have e : fs.flatMap partsF = (fs.take (i + 1)).flatMap partsF ++ (fs.drop (i + 1)).flatMap partsF := by rw [← List.flatMap_append, List.take_append_drop]
        rw [e, get_take h2, List.flatMap_append] at few
        simp only [List.length_append, List.flatMap_cons, List.flatMap_nil, List.append_nil] at few ⊢
        omega
      refine ⟨rfl, ?_⟩
      unfold tYes
      dsimp only
      rw [if_pos rfl]
      refine ⟨_, rfl, a0, dx, fs1, rfl, e1, a0, f0, rfl, hf, ops9 f0 mf, fun T9 ps G1 s1 eT pt => ?_⟩
      obtain ⟨yR, y1, y2, yl⟩ := paired_zipQ pt
      have lps := pt.length
      generalize hzz : ps.zip (partsF f0) = zz at yR y1 y2 yl
      refine ⟨T9, rfl, ⟨_, SqT.of eT⟩, it_go (walk_tup (K := K) (a := T9) (xs := ps.map V.ref)) (fun j G' => Same H G' ∧ G' T9 = some (.tup (ps.map V.ref)) ∧ G' D = some (.dK ((ddK qtx (z ++ zz.take j)).map entK)) ∧ (∀ q ∈ z ++ zz, FmAt FC G' q.1 q.2))
        ⟨sG.trans s1, eT, by rw [List.take_zero, List.append_nil]; exact s1 _ _ eG, fun q hq => (List.mem_append.mp hq).elim (fun h => (zG q h).same s1) (yR q)⟩ (fun j G' _ h => SqT.of h.2.1) ?_ ?_⟩
      · rintro j x G2 G2' hj ⟨sG2, eT2, eD2, zG2⟩ ⟨rfl, hx⟩
        rw [← y1, List.map_map, List.getElem?_map] at hx
        obtain ⟨qq, hq, rfl⟩ : ∃ qq, zz[j]? = some qq ∧ V.ref qq.1 = x := by
          cases e : zz[j]? with
          | none => rw [e] at hx; cases hx
          | some qq => rw [e] at hx; exact ⟨qq, rfl, Option.some.inj hx⟩
        have hfq := zG2 qq (List.mem_append_right _ (List.mem_of_getElem? hq))
        obtain ⟨dx2, fs2, e2⟩ := hfq.ins
        refine ⟨rfl, ?_⟩
        rw [if_pos rfl]
        refine ⟨_, rfl, qq.1, dx2, fs2, rfl, e2, qq.1, qq.2, rfl, hfq, _, rfl, ?_⟩
        refine ⟨_, rfl, _, Sum.inr (S qq.2.txt), rfl, eD2, ?_, same_pt nD sG2, ?_, ?_, fun q hq => ?_⟩
        · rw [List.length_map, sizeLine_eq]
          have h1 := ddK_len qtx (z ++ zz.take j)
          have h3 : z.length = ((fs.take i).flatMap partsF).length := by rw [← z2, List.length_map]
          have h4 : zz.length = (partsF f0).length := by rw [← y2, List.length_map]
          rw [List.length_append, List.length_take] at h1
          omega
        · rw [upd_ne (ne_of eT2 eD2 (by intro z; cases z))]
          exact eT2
        · rw [upd_same, putK_ent, get_take hq, ← List.append_assoc, ddK_snoc]
        · exact (zG2 q hq).D (fun b o n e => by rw [upd_ne n]; exact e) ⟨_, eD2⟩
      · rintro G2 ⟨sG2, eT2, eD2, zG2⟩
        refine ⟨z ++ zz, sG2, ?_, zG2, ?_⟩
        · rw [List.length_map, show ps.length = zz.length by omega, List.take_length] at eD2
          exact eD2
        · rw [List.map_append, z2, y2, get_take h2, List.flatMap_append, List.flatMap_cons, List.flatMap_nil, List.append_nil]
    · rintro H1 ⟨z, s1, e1, zH, z2⟩
      rw [List.length_map, pp.length, List.take_length] at z2
      have lz : z.length ≤ 1000 := by
        have := congrArg List.length z2
        rw [List.length_map] at this
        omega
      have ndd := ddK_nd qtx z
      have memd : ∀ q' ∈ ddK qtx z, q' ∈ z := fun q' h => ddK_mem h
      have ldd : (ddK qtx z).length ≤ 1000 := Nat.le_trans (ddK_len _ _) lz
      have hmap : (ddK qtx z).map (·.2) = ddK Fm.txt (fs.flatMap partsF) := by
        rw [← z2]
        exact ddK_map (t := Fm.txt) (g := fun q : Addr × Fm => q.2) z
      have opz : ∀ q ∈ z, q.2.ops ≤ 1000 := fun q hq => by
        have : q.2 ∈ fs.flatMap partsF := by rw [← z2]; exact List.mem_map.mpr ⟨q, hq, rfl⟩
        obtain ⟨f0, hf0, hp⟩ := List.mem_flatMap.mp this
        exact Nat.le_trans (parts_ops hp) (Nat.le_trans (ops9 f0 hf0) (by decide))
      generalize hd : ddK qtx z = dd at e1 ndd memd ldd hmap
      refine gname_go ?_
      try dsimp only
      refine ⟨D, _, e1, trivial, fun od => ?_⟩
      have eF : (upd H1 D (.frz od (.dK (dd.map entK)))) D = some (.frz od (.dK (dd.map entK))) := upd_same
      have sF : ∀ b o, b ≠ D → H1 b = some o → (upd H1 D (.frz od (.dK (dd.map entK)))) b = some o := fun b o n e => by rw [upd_ne n]; exact e
      have zF : ∀ q ∈ z, FmAt FC (upd H1 D (.frz od (.dK (dd.map entK)))) q.1 q.2 := fun q hq => (zH q hq).D sF ⟨_, e1⟩
      have nHD : ∀ b o, H b = some o → b ≠ D := fun b o e => ne_of_none e nD
      generalize upd H1 D (.frz od (.dK (dd.map entK))) = H2 at eF sF zF
      refine ⟨_, rfl, D, od, _, rfl, eF, fun L nL => ?_⟩
      have nLD : D ≠ L := ne_of_none eF nL
      refine lc_it (walk_items (d := D) (o := od) (kvs := dd.map entK)) (fun i G => ∃ ts : List Addr, Same H2 G ∧ G L = some (.lst (ts.map V.ref)) ∧ Paired (fun t (q' : Addr × Fm) => G t = some (.tup [.int (q'.2.ops : Nat), .str (S q'.2.txt)])) ts (dd.take i))
        ⟨[], same_new nL, upd_same, .nil⟩ (fun i G _ ⟨ts, sG, _, _⟩ => sG _ _ eF) ?_ ?_
      · rintro i x G1 G2 hi ⟨ts, sG, eL9, pt⟩ ⟨T', u, v, rfl, nT, rfl, hu, hv⟩
        rw [List.length_map] at hi
        have hq : dd[i]? = some dd[i] := List.getElem?_eq_getElem hi
        generalize dd[i] = q' at hq
        dsimp only at hu hv
        rw [List.getElem?_map, hq] at hu hv
        obtain rfl : V.str (S q'.2.txt) = u := Option.some.inj hu
        obtain rfl : V.ref q'.1 = v := Option.some.inj hv
        have sT := same_new (o := .tup [V.str (S q'.2.txt), V.ref q'.1]) nT
        have hz' := memd q' (List.mem_of_getElem? hq)
        have hf : FmAt FC (upd G1 T' (.tup [V.str (S q'.2.txt), V.ref q'.1])) q'.1 q'.2 := (zF q' hz').same (sG.trans sT)
        obtain ⟨dx, fs2, e2⟩ := hf.ins
        refine ⟨T', _, rfl, SqT.of upd_same, rfl, _, _, rfl, _, _, rfl, rfl, rfl, ?_⟩
        unfold tYes
        dsimp only
        rw [if_pos rfl]
        refine ⟨_, rfl, q'.1, dx, fs2, rfl, e2, q'.1, q'.2, rfl, hf, (q'.2.ops : Nat), rfl, Int.natCast_nonneg _, ?_, _, rfl, by show 2 ≤ sizeLine; decide, fun T2 nT2 => ?_⟩
        · have := opz q' hz'
          omega
        · have sT2 := sT.trans (same_new (o := .tup [.int (q'.2.ops : Nat), .str (S q'.2.txt)]) nT2)
          have nTL : T2 ≠ L := fun z => by
            rw [z, sT _ _ eL9] at nT2
            cases nT2
          refine ⟨_, sT2 _ _ eL9, by rw [List.length_map, pt.length, List.length_take, sizeLine_eq]; omega, ts ++ [T2], same_pt nL (sG.trans sT2), by rw [upd_same, List.map_append]; rfl, ?_⟩
          rw [get_take hq]
          refine paired_app (paired_imp (fun t q2 e => ?_) pt) (.cons (by rw [upd_ne nTL]; exact upd_same) .nil)
          rw [upd_ne (ne_of e eL9 (by intro z; cases z))]
          exact sT2 _ _ e
      · rintro G ⟨ts, sG, eL9, pt⟩
        rw [List.length_map, List.take_length] at pt
        refine ⟨sG _ _ eF, ?_⟩
        have lts : ts.length = dd.length := pt.length
        obtain ⟨yR, y1, y2, yl⟩ := paired_zipQ pt
        generalize ts.zip dd = zs at yR y1 y2 yl
        have sH : Same H (upd G D (.dK (dd.map entK))) := fun b o e => by
          rw [upd_ne (nHD _ _ e)]
          exact sG _ _ (sF _ _ (nHD _ _ e) (s1 _ _ e))
        have zG2 : ∀ q ∈ z, FmAt FC (upd G D (.dK (dd.map entK))) q.1 q.2 := fun q hq => (zF q hq).F (fun b o n e => by rw [upd_ne n]; exact sG _ _ e) ⟨_, _, eF⟩
        have eL2 : (upd G D (.dK (dd.map entK))) L = some (.lst (ts.map V.ref)) := by
          rw [upd_ne (Ne.symm nLD)]
          exact eL9
        have eT2 : ∀ p ∈ zs, (upd G D (.dK (dd.map entK))) p.1 = some (.tup [.int (p.2.2.ops : Nat), .str (S p.2.2.txt)]) := fun p hp => by
          rw [upd_ne (ne_of (yR p hp) (sG _ _ eF) (by intro z; cases z))]
          exact yR p hp
        have eD2 : (upd G D (.dK (dd.map entK))) D = some (.dK (dd.map entK)) := upd_same
        generalize upd G D (.dK (dd.map entK)) = G2 at sH eL2 eT2 eD2 zG2
        have kse : (zs.map fun p => (p.1, p.2.2.key)).map (fun p => V.ref p.1) = ts.map V.ref := by rw [List.map_map, ← y1, List.map_map]; rfl
        refine ⟨L, zs.map fun p => (p.1, p.2.2.key), rfl, ?_, ?_, fun p hp => ?_, fun R0 nR0 => gname_go ?_⟩
        · rw [kse]
          exact SqL.of eL2
        · rw [List.length_map, yl, lts, sizeLine_eq]
          omega
        · obtain ⟨p', hp', rfl⟩ := List.mem_map.mp hp
          exact SqT.of (eT2 p' hp')
        try dsimp only
        have srt : (zs.map fun p => (p.1, p.2.2.key)).mergeSort isLe = (zs.mergeSort fun a b => fmLe a.2.2 b.2.2).map fun p => (p.1, p.2.2.key) := (List.map_mergeSort (r := fun a b => fmLe a.2.2 b.2.2) (s := isLe) (f := fun p : Addr × Addr × Fm => (p.1, p.2.2.key)) fun a _ b _ => rfl).symm
        rw [srt, List.map_map]
        have srt2 : (zs.mergeSort fun a b => fmLe a.2.2 b.2.2).map (·.2.2) = ordF (fs.flatMap partsF) := by
          rw [List.map_mergeSort (s := fmLe) (fun a _ b _ => rfl)]
          unfold ordF
          rw [← hmap, ← y2, List.map_map]
          rfl
        have mw : ∀ p ∈ zs.mergeSort (fun a b => fmLe a.2.2 b.2.2), p ∈ zs := fun p hp => (List.mergeSort_perm _ _).mem_iff.mp hp
        have lw : (zs.mergeSort fun a b => fmLe a.2.2 b.2.2).length = zs.length := List.length_mergeSort _
        generalize zs.mergeSort (fun a b => fmLe a.2.2 b.2.2) = W at srt2 mw lw
        have sR := same_new (o := .lst (W.map ((fun q => V.ref q.1) ∘ fun p => (p.1, p.2.2.key)))) nR0
        have eR := upd_same (H := G2) (a := R0) (o := .lst (W.map ((fun q => V.ref q.1) ∘ fun p => (p.1, p.2.2.key))))
        generalize upd G2 R0 (.lst (W.map ((fun q => V.ref q.1) ∘ fun p => (p.1, p.2.2.key)))) = G3 at sR eR
        refine ⟨_, rfl, R0, rfl, ⟨_, SqL.of eR⟩, fun L2 nL2 => ?_⟩
        refine lc_it (walk_list (K := K) (a := R0) (xs := W.map ((fun q => V.ref q.1) ∘ fun p => (p.1, p.2.2.key)))) (fun i X => Same G3 X ∧ X L2 = some (.lst ((W.take i).map fun p => V.ref p.2.1))) ⟨same_new nL2, upd_same⟩ (fun i X _ h => SqL.of (h.1 _ _ eR)) ?_ ?_
        · rintro i x X1 X2 hi ⟨sX, eX⟩ ⟨rfl, hx⟩
          rw [List.length_map] at hi
          have hq : W[i]? = some W[i] := List.getElem?_eq_getElem hi
          generalize W[i] = p at hq
          rw [List.getElem?_map, hq] at hx
          obtain rfl : V.ref p.1 = x := Option.some.inj hx
          have hp := mw p (List.mem_of_getElem? hq)
          have pd : p.2 ∈ dd := by rw [← y2]; exact List.mem_map.mpr ⟨p, hp, rfl⟩
          refine ⟨p.1, _, rfl, SqT.of (sX _ _ (sR _ _ (eT2 p hp))), rfl, _, _, rfl, _, _, rfl, rfl, rfl, ?_⟩
          unfold tYes
          dsimp only
          rw [if_pos rfl]
          refine ⟨_, rfl, _, rfl, D, .ref p.2.1, rfl, ?_, ?_⟩
          · have := DGet.k (k := Sum.inr (S p.2.2.txt)) (sX _ _ (sR _ _ eD2))
            rw [val_ent ndd p.2 pd] at this
            exact this
          · exact ⟨_, eX, by rw [List.length_map, List.length_take, sizeLine_eq]; omega, same_pt nL2 sX, by rw [upd_same, get_take hq, List.map_append]; rfl⟩
        · rintro X ⟨sX, eX⟩
          rw [List.length_map, List.take_length] at eX
          have sE := (sH.trans sR).trans sX
          refine q L2 (W.map (·.2.1)) _ sE (by rw [eX, List.map_map]; rfl) ?_
          rw [← srt2]
          have go : ∀ l : List (Addr × Addr × Fm), (∀ p ∈ l, p ∈ W) → Paired (FmAt FC X) (l.map (·.2.1)) (l.map (·.2.2)) := fun l => by
            induction l with
            | nil => exact fun _ => .nil
            | cons p l ih =>
              intro hl
              refine .cons ?_ (ih fun p hp => hl p (List.mem_cons_of_mem _ hp))
              have hp := mw p (hl p List.mem_cons_self)
              have pd : p.2 ∈ dd := by rw [← y2]; exact List.mem_map.mpr ⟨p, hp, rfl⟩
              exact (zG2 p.2 (memd p.2 pd)).same (sR.trans sX)
          exact go W fun _ h => h
end
section
variable {P : Program} {w : World} {K : PySem.W.Frag} {mg : Str → Option Value} {base : Heap} {f : Addr} {fd : FuncData} {FC : Addr}
def numT (ts : List (List Nat)) (i : Nat) : List (Key × V) := (List.range i).map fun j => (Sum.inr (S (ts.getD j [])), V.int (j : Int))
theorem numT_succ (ts : List (List Nat)) (i : Nat) : numT ts (i + 1) = numT ts i ++ [(Sum.inr (S (ts.getD i [])), V.int (i : Int))] := by
  unfold numT
  rw [List.range_succ, List.map_append]
  rfl
theorem numT_none {ts : List (List Nat)} (nd : ts.Nodup) {i : Nat} (hi : i < ts.length) : valV (numT ts i) (Sum.inr (S (ts.getD i [])) : Key) = none := by
  unfold valV
  rw [Option.map_eq_none_iff, List.find?_eq_none]
  intro p hp
  obtain ⟨j, hj, rfl⟩ := List.mem_map.mp hp
  have hj := List.mem_range.mp hj
  intro e
  have e : ts.getD j [] = ts.getD i [] := of_decide_eq_true ((key_dec ..).symm.trans e)
  rw [List.getD_eq_getElem?_getD, List.getD_eq_getElem?_getD, List.getElem?_eq_getElem hi, List.getElem?_eq_getElem (by omega)] at e
  have := (List.getElem_inj nd).mp e
  omega
theorem numT_val {ts : List (List Nat)} (nd : ts.Nodup) {n i : Nat} (hi : i < n) (hn : n ≤ ts.length) : valV (numT ts n) (Sum.inr (S (ts.getD i [])) : Key) = some (V.int (i : Int)) := by
  induction n with
  | zero => omega
  | succ n ih =>
    rw [numT_succ, valV_snoc _ _ _ _ (numT_none nd (by omega))]
    by_cases e : i = n
    · rw [if_pos (by rw [e]), e]
    · rw [if_neg, ih (by omega) (by omega)]
      intro z
      injection z with z
      have z := SX.S_inj z
      rw [List.getD_eq_getElem?_getD, List.getD_eq_getElem?_getD, List.getElem?_eq_getElem (show i < ts.length by omega), List.getElem?_eq_getElem (show n < ts.length by omega)] at z
      exact e ((List.getElem_inj nd).mp z)
theorem numK_val {fs : List Fm} (nd : (fs.map Fm.txt).Nodup) {t : List Nat} (ht : t ∈ fs.map Fm.txt) : valV (numK fs) (Sum.inr (S t) : Key) = some (V.int (ixX fs t : Int)) ∧ ixX fs t < fs.length := by
  obtain ⟨g, hg, rfl⟩ := List.mem_map.mp ht
  have lt : ixX fs g.txt < fs.length := List.findIdx_lt_length_of_exists ⟨g, hg, decide_eq_true rfl⟩
  have e : (fs[ixX fs g.txt]'lt).txt = g.txt := of_decide_eq_true (List.findIdx_getElem (w := lt) (p := fun f : Fm => decide (f.txt = g.txt)))
  refine ⟨?_, lt⟩
  have := numT_val nd (n := fs.length) (i := ixX fs g.txt) lt (by rw [List.length_map]; exact Nat.le_refl _)
  rw [List.getD_eq_getElem?_getD, List.getElem?_map, List.getElem?_eq_getElem lt] at this
  rw [show ((some fs[ixX fs g.txt]).map Fm.txt).getD [] = g.txt from e] at this
  exact this
theorem c_part_numbers (T : Bt mg) (mstr : mg "str" = none) (FF : FoF K mg FC) (SS : SpcM P w K mg base L2.CX0 FC "__str__" ["self"] 1 (spFstr FC)) (F : FnP K "part_numbers" s_part_numbers f fd) (hm : mg "part_numbers" = some (.ref f)) : Cal P w K mg base 4 "part_numbers" (spPartNums FC) := by
  have hnd := sc_part_numbers.nd
  obtain ⟨fs_, fds, hs, hsf, Fs, Bs⟩ := SS
  refine cal_mk F hm sc_part_numbers (fun _ _ _ _ _ _ us hl => match us, hl with | [_], _ => rfl) (fun vs H Q E h => ?_) (fun cdv A outer s H vs Q E hr h => ?_)
  · obtain ⟨L, as, fs, rfl, _⟩ := h
    rfl
  · obtain ⟨L0, as, fs, rfl, eL, pp, few, nd, q⟩ := h
    have la := pp.length
    refine ⟨_, (pss_one (ps_ret (pe_dc (own := [("number", 1), ("part", 2)]) (tt := tYes) (g := (gTup K 2 (gCons (gName 1) (gCons (gName 2) gNil)))) (by rfl) hnd (pi_enum (by rfl) T.m_enumerate (pa_cons (pv 0) pa_nil)) (blkOk_by (own := [("number", 1), ("part", 2)]) (N := N_part_numbers) (sc := defScope s_part_numbers) (by decide +kernel)) (fun _ _ _ _ _ => (pg_tup (by rfl) (pgs_cons (pg_name (i := 1) hnd rfl (by first | exact Or.inl rfl | exact Or.inr rfl)) (pgs_cons (pg_name (i := 2) hnd rfl (by first | exact Or.inl rfl | exact Or.inr rfl)) pgs_nil)))) (fun _ _ _ _ _ => pts_nil) (fun _ _ _ _ _ => (pe_callTy (show CallR _ (.type "str") (rStrOwn FC (spFstr FC)) from call_strOwn Fs (hr.mono (by omega)) hs hsf Bs) (by rfl) mstr (by decide +kernel) (pa_cons (pv 2) pa_nil))) (fun _ _ _ _ _ => (pv 1))))), ?_⟩
    refine ⟨_, rfl, L0, _, rfl, SqL.of eL, fun D nD => it_go (walk_enum (K := K) (a := L0) (xs := as.map V.ref)) (fun i G => Same H G ∧ G D = some (.dK (numT (fs.map Fm.txt) i))) ⟨same_new nD, upd_same⟩ (fun i G _ h => SqL.of (h.1 _ _ eL)) ?_ ?_⟩
    · rintro i x G G' hi ⟨sG, eG⟩ ⟨T', u, v, rfl, nT, rfl, hu, hv⟩
      rw [List.length_map] at hi
      have li : i < fs.length := by omega
      have h1 : as[i]? = some as[i] := List.getElem?_eq_getElem hi
      have h2 : fs[i]? = some fs[i] := List.getElem?_eq_getElem li
      generalize as[i] = a0 at h1
      generalize fs[i] = f0 at h2
      dsimp only at hu hv
      rw [List.getElem?_map, h1] at hv
      obtain rfl := Option.some.inj hv
      obtain rfl := Option.some.inj hu
      have sT := same_new (o := .tup [V.int (i : Int), V.ref a0]) nT
      have hf := (paired_get2 pp i _ _ h1 h2).same (sG.trans sT)
      have et : (fs.map Fm.txt).getD i [] = f0.txt := by rw [List.getD_eq_getElem?_getD, List.getElem?_map, h2]; rfl
      obtain ⟨dx, fs1, e1⟩ := hf.ins
      refine ⟨T', _, rfl, SqT.of upd_same, rfl, _, _, rfl, _, _, rfl, rfl, rfl, ?_⟩
      unfold tYes
      dsimp only
      rw [if_pos rfl]
      refine ⟨_, rfl, a0, dx, fs1, rfl, e1, a0, f0, rfl, hf, _, rfl, ?_⟩
      refine ⟨_, rfl, _, Sum.inr (S f0.txt), rfl, sT _ _ eG, ?_, same_pt nD (sG.trans sT), ?_⟩
      · unfold numT
        rw [List.length_map, List.length_range, sizeLine_eq]
        omega
      · rw [upd_same, ← et, putK_new _ (numT_none nd (by rw [List.length_map]; exact li)), numT_succ]
    · rintro G ⟨sG, eG⟩
      refine q D G sG ?_
      rw [List.length_map, la] at eG
      exact eG
theorem c_op_triples (T : Bt mg) (mstr : mg "str" = none) (FF : FoF K mg FC) (NN : PrpM P w K mg base FC "name" 1 (spFname FC)) (GG : PrpM P w K mg base FC "sign" 1 (spFsign FC)) (LF : PrpM P w K mg base FC "left" 1 (spFleft FC)) (RF : PrpM P w K mg base FC "right" 1 (spFright FC)) (SS : SpcM P w K mg base L2.CX0 FC "__str__" ["self"] 1 (spFstr FC))
    (k_striple : Cal P w K mg base 1 "signed_triple" spStrip4) (k_part_numbers : Cal P w K mg base 4 "part_numbers" (spPartNums FC)) (F : FnP K "operation_triples" s_op_triples f fd) (hm : mg "operation_triples" = some (.ref f)) : Cal P w K mg base 6 "operation_triples" (spOpTriples FC) := by
  have hnd := sc_op_triples.nd
  obtain ⟨pn9, gn9, fdn9, PN9, FN9, BN9⟩ := NN
  obtain ⟨pg9, gg9, fdg9, PG9, FG9, BG9⟩ := GG
  obtain ⟨pl9, gl9, fdl9, PL9, FL9, BL9⟩ := LF
  obtain ⟨pr9, gr9, fdr9, PR9, FR9, BR9⟩ := RF
  obtain ⟨fs_, fds, hs, hsf, Fs, Bs⟩ := SS
  refine cal_mk F hm sc_op_triples (fun _ _ _ _ _ _ us hl => match us, hl with | [_], _ => rfl) (fun vs H Q E h => ?_) (fun cdv A outer s H vs Q E hr h => ?_)
  · obtain ⟨L, as, fs, rfl, _⟩ := h
    rfl
  · obtain ⟨L0, as, fs, rfl, eL, pp, okf, few, nd, cl, q⟩ := h
    have la := pp.length
    refine ⟨_, (pss_cons (ps_set (i := 1) hnd rfl (by first | exact Or.inl rfl | exact Or.inr rfl) (pe_cal k_part_numbers hr (by omega) (by rfl) (pa_cons (pv 0) pa_nil)))
      (pss_one (ps_ret (pe_lc (own := [("part", 2)]) (by rfl) hnd (pi_list (pv 0)) (blkOk_by (own := [("part", 2)]) (N := N_op_triples) (sc := defScope s_op_triples) (by decide +kernel)) (fun _ _ _ _ _ => (pg_name (i := 2) hnd rfl (by first | exact Or.inl rfl | exact Or.inr rfl))) (fun _ _ _ _ _ => (pts_one (pt_cmpR op_isN (pe_prop (E := L2.E0) (pv 2) FF.cls PN9 FN9 (hr.mono (by omega)) BN9 .nil (fun _ _ _ _ _ _ _ h => h.elim) (by rfl)) pe_non (nomark _)))) (fun _ _ _ _ _ => (pe_cal k_striple hr (by omega) (by rfl) (pa_cons (pe_prop (E := L2.E0) (pv 2) FF.cls PG9 FG9 (hr.mono (by omega)) BG9 .nil (fun _ _ _ _ _ _ _ h => h.elim) (by rfl)) (pa_cons (pe_dget (Nat.lt_of_le_of_lt (Nat.add_le_add_left (by decide) _) hr.units) (pv 1) (pe_callTy (show CallR _ (.type "str") (rStrOwn FC (spFstr FC)) from call_strOwn Fs (hr.mono (by omega)) hs hsf Bs) (by rfl) mstr (by decide +kernel) (pa_cons (pe_prop (E := L2.E0) (pv 2) FF.cls PL9 FL9 (hr.mono (by omega)) BL9 .nil (fun _ _ _ _ _ _ _ h => h.elim) (by rfl)) pa_nil)) (fun _ _ => rfl)) (pa_cons (pe_dget (Nat.lt_of_le_of_lt (Nat.add_le_add_left (by decide) _) hr.units) (pv 1) (pe_callTy (show CallR _ (.type "str") (rStrOwn FC (spFstr FC)) from call_strOwn Fs (hr.mono (by omega)) hs hsf Bs) (by rfl) mstr (by decide +kernel) (pa_cons (pe_prop (E := L2.E0) (pv 2) FF.cls PR9 FR9 (hr.mono (by omega)) BR9 .nil (fun _ _ _ _ _ _ _ h => h.elim) (by rfl)) pa_nil)) (fun _ _ => rfl)) (pa_cons (pe_dget (Nat.lt_of_le_of_lt (Nat.add_le_add_left (by decide) _) hr.units) (pv 1) (pe_callTy (show CallR _ (.type "str") (rStrOwn FC (spFstr FC)) from call_strOwn Fs (hr.mono (by omega)) hs hsf Bs) (by rfl) mstr (by decide +kernel) (pa_cons (pv 2) pa_nil)) (fun _ _ => rfl)) pa_nil)))))))))), ?_⟩
    refine ⟨_, rfl, L0, as, fs, rfl, eL, pp, few, nd, fun D H1 s1 eD => gname_go ?_⟩
    try dsimp only
    refine ⟨_, rfl, L0, rfl, ⟨_, SqL.of (s1 _ _ eL)⟩, fun R nR => ?_⟩
    refine lc_it (walk_list (K := K) (a := L0) (xs := as.map V.ref)) (fun i G => Same H1 G ∧ TrpsAt G R (tripsG fs (fs.take i))) ⟨same_new nR, ⟨[], upd_same, .nil⟩⟩ (fun i G _ h => SqL.of (h.1 _ _ (s1 _ _ eL))) ?_ ?_
    · rintro i x G G' hi ⟨sG, as9, eR, pR⟩ ⟨rfl, hx⟩
      rw [List.length_map] at hi
      have li : i < fs.length := by omega
      have h1 : as[i]? = some as[i] := List.getElem?_eq_getElem hi
      have h2 : fs[i]? = some fs[i] := List.getElem?_eq_getElem li
      generalize as[i] = a0 at h1
      generalize fs[i] = f0 at h2
      rw [List.getElem?_map, h1] at hx
      obtain rfl := Option.some.inj hx
      have mf := List.mem_of_getElem? h2
      have hf := (paired_get2 pp i _ _ h1 h2).same (s1.trans sG)
      obtain ⟨dx, fs1, e1⟩ := hf.ins
      have snoc : tripsG fs (fs.take (i + 1)) = tripsG fs (fs.take i) ++ (tripO fs f0).toList := by
        rw [get_take h2]
        unfold tripsG
        rw [List.filterMap_append]
        cases h : tripO fs f0 <;> simp [h]
      refine ⟨rfl, ?_⟩
      cases f0 with
      | lt n =>
        refine ⟨_, rfl, a0, dx, fs1, rfl, e1, a0, .lt n, rfl, hf, rfl, false, congrArg V.bl (decide_eq_false (fun z : V.str (S n) = V.non => by cases z)), ?_⟩
        dsimp only
        rw [if_neg (by decide)]
        exact ⟨sG, as9, eR, by rw [snoc]; exact (List.append_nil (tripsG fs (fs.take i))).symm ▸ pR⟩
      | op s0 l r =>
        obtain ⟨hs0, okl, okr⟩ := Fm.ok_op (okf _ mf)
        obtain ⟨ml, mr⟩ := cl _ _ _ mf
        obtain ⟨vl, bl⟩ := numK_val nd ml
        obtain ⟨vr, br⟩ := numK_val nd mr
        obtain ⟨vo, bo⟩ := numK_val nd (List.mem_map.mpr ⟨_, mf, rfl⟩)
        have gD := sG _ _ eD
        refine ⟨_, rfl, a0, dx, fs1, rfl, e1, a0, .op s0 l r, rfl, hf, rfl, true, rfl, ?_⟩
        dsimp only
        rw [if_pos rfl]
        refine ⟨_, rfl, a0, dx, fs1, rfl, e1, a0, .op s0 l r, rfl, hf, ?_⟩
        refine ⟨_, rfl, _, rfl, a0, dx, fs1, rfl, e1, a0, .op s0 l r, rfl, hf, fun la hla => ?_⟩
        obtain ⟨dl, fl, el⟩ := hla.ins
        refine ⟨la, dl, fl, rfl, el, la, l, rfl, hla, _, rfl, D, _, rfl, vl ▸ DGet.k (k := Sum.inr (S l.txt)) gD, ?_⟩
        refine ⟨_, rfl, _, rfl, a0, dx, fs1, rfl, e1, a0, .op s0 l r, rfl, hf, fun ra hra => ?_⟩
        obtain ⟨dr, fr, er⟩ := hra.ins
        refine ⟨ra, dr, fr, rfl, er, ra, r, rfl, hra, _, rfl, D, _, rfl, vr ▸ DGet.k (k := Sum.inr (S r.txt)) gD, ?_⟩
        refine ⟨_, rfl, _, rfl, a0, dx, fs1, rfl, e1, a0, .op s0 l r, rfl, hf, _, rfl, D, _, rfl, vo ▸ DGet.k (k := Sum.inr (S (Fm.op s0 l r).txt)) gD, ?_⟩
        refine ⟨s0, ixX fs l.txt, ixX fs r.txt, ixX fs (Fm.op s0 l r).txt, rfl, hs0, fun q9 G9 s9 e9 => ?_⟩
        have eR9 := s9 _ _ eR
        have nq : q9 ≠ R := ne_of e9 eR9 (by intro z; cases z)
        refine ⟨_, eR9, ?_, same_pt nR (sG.trans s9), as9 ++ [q9], by rw [upd_same, List.map_append]; rfl, ?_⟩
        · have h3 : (tripsG fs (fs.take i)).length ≤ (fs.take i).length := List.length_filterMap_le _ _
          rw [List.length_map, pR.length, sizeLine_eq]
          rw [List.length_take] at h3
          omega
        · rw [snoc]
          refine paired_app (paired_imp (fun t T9 e => ?_) pR) (.cons (by unfold TrpAt; rw [upd_ne nq]; exact e9) .nil)
          unfold TrpAt
          rw [upd_ne (ne_of (s9 _ _ e) eR9 (by intro z; cases z))]
          exact s9 _ _ e
    · rintro G ⟨sG, tG⟩
      rw [List.length_map, la, List.take_length] at tG
      exact q R G (s1.trans sG) tG
end
end L2.K19
set_option Elab.async false
set_option linter.all false
set_option maxRecDepth 100000
set_option maxHeartbeats 8000000
namespace L2.K19
open PySem PySem.Spec PyProof.Rows L2.Tb
open SX (S)
theorem asg_cut {te : TE} {g : TG} {u : TS} {D : Ends} {σ : St} {H : Hp} (Pv : V → Hp → Prop) (hQ : ∀ v H', Pv v H' → g v σ H' (u D)) (h : (∀ v H', Pv v H' → g v σ H' (u D)) → te σ H fun v H' => g v σ H' (u D)) : tSeq (tAsg te g) u D σ H := h hQ
/-! ### the closing of the program -/
abbrev s_turned : Stmt := top 48
abbrev N_turned : List Str := ["triple", "turn"]
theorem sc_turned : FnScope N_turned ["triple", "turn"] (defScope s_turned) := ⟨rfl, rfl, rfl, by decide +kernel, rfl, by decide +kernel, by decide +kernel⟩
abbrev s_in_classes : Stmt := top 49
abbrev N_in_classes : List Str := ["triples", "classes", "first", "second", "mixed"]
theorem sc_in_classes : FnScope N_in_classes ["triples", "classes"] (defScope s_in_classes) := ⟨rfl, rfl, rfl, by decide +kernel, rfl, by decide +kernel, by decide +kernel⟩
abbrev s_merged : Stmt := top 51
abbrev N_merged : List Str := ["classes", "one", "other", "new", "old", "name"]
theorem sc_merged : FnScope N_merged ["classes", "one", "other"] (defScope s_merged) := ⟨rfl, rfl, rfl, by decide +kernel, rfl, by decide +kernel, by decide +kernel⟩
abbrev s_merged_once : Stmt := top 52
abbrev N_merged_once : List Str := ["classes", "images", "mergings", "seen", "image", "index", "turn", "things", "place", "one", "other", "key", "old_index", "old_turn", "old_things"]
theorem sc_merged_once : FnScope N_merged_once ["classes", "images", "mergings"] (defScope s_merged_once) := ⟨rfl, rfl, rfl, by decide +kernel, rfl, by decide +kernel, by decide +kernel⟩
def intsV (cs : List Nat) : List V := cs.map fun n : Nat => V.int (n : Int)
theorem at_ints {cs : List Nat} {i : Nat} (h : i < cs.length) : atI (intsV cs) (i : Int) = some (.int (g0 cs i : Nat)) := by
  refine atI_nat ?_
  unfold intsV g0
  rw [List.getElem?_map, List.getD_eq_getElem?_getD, List.getElem?_eq_getElem h]
  rfl
def thC (cs : List Nat) (t : Trp) : Trp := (g0 cs t.1, g0 cs t.2.1, g0 cs t.2.2)
def spTurned (K : PySem.W.Frag) : Sp := fun vs H Q _ => ∃ (a b : Addr) (t : Trp) (u : Turn), vs = [.ref a, .ref b] ∧ SqT K H a (tV t) ∧ SqT K H b (turnV u) ∧ okU u = true ∧ ∀ (R : Addr) (H' : Hp), Same H H' → TrpAt H' R (imgT t u) → Q (.ref R) H'
def spInClasses : Sp := fun vs H Q _ => ∃ (L C : Addr) (ts : List Trp) (cs : List Nat), vs = [.ref L, .ref C] ∧ TrpsAt H L ts ∧ H C = some (.lst (intsV cs)) ∧ (∀ t ∈ ts, thB cs.length t) ∧ ts.length ≤ 100000 ∧ ∀ (R : Addr) (H' : Hp), Same H H' → TrpsAt H' R (ts.map (thC cs)) → Q (.ref R) H'
def spMerged : Sp := fun vs H Q _ => ∃ (C : Addr) (cs : List Nat) (a b : Nat), vs = [.ref C, .int (a : Int), .int (b : Int)] ∧ H C = some (.lst (intsV cs)) ∧ a < cs.length ∧ b < cs.length ∧ cs.length ≤ 100000 ∧ ∀ (R : Addr) (H' : Hp), Same H H' → H R = none → H' R = some (.lst (intsV (mergeC cs a b))) → Q (.ref R) H'
/-- an image: where it is from, and the triple -/
def ImgAt (H : Hp) (q : Addr) (t : Trp) : Prop := ∃ (iv tv : V) (a : Addr), H q = some (.tup [iv, tv, .ref a]) ∧ TrpAt H a t
def keyL (k : Nat × Nat × Nat) : List Key := [.inl (k.1 : Int), .inl (k.2.1 : Int), .inl (k.2.2 : Int)]
def SeenAt (H0 H : Hp) (D : Addr) (S : Seen) : Prop := ∃ kvs : List (List Key × V), H D = some (.dT kvs) ∧ Paired (fun kv e => kv.1 = keyL e.1 ∧ ∃ q, kv.2 = .ref q ∧ ImgAt H0 q e.2) kvs S
def OthK (K : PySem.W.Frag) (mg : Str → Option Value) : Prop := ∃ (a b0 b1 b2 : Addr), mg "OTHERS" = some (.ref a) ∧ (∀ H, SqT K H a [.ref b0, .ref b1, .ref b2]) ∧ (∀ H, SqT K H b0 [.int 1, .int 2]) ∧ (∀ H, SqT K H b1 [.int 0, .int 2]) ∧ ∀ H, SqT K H b2 [.int 0, .int 1]
theorem keyL_inj {a b : Nat × Nat × Nat} : decide (keyL a = keyL b) = decide (a = b) := by
  refine decide_eq_decide.mpr ⟨fun h => ?_, fun h => by rw [h]⟩
  obtain ⟨a1, a2, a3⟩ := a
  obtain ⟨b1, b2, b3⟩ := b
  unfold keyL at h
  simp only [List.cons.injEq, Sum.inl.injEq, and_true] at h
  obtain ⟨h1, h2, h3⟩ := h
  simp only [Prod.mk.injEq]
  omega
theorem seen_look {H0 : Hp} {k : Nat × Nat × Nat} : ∀ {kvs : List (List Key × V)} {S : Seen}, Paired (fun kv e => kv.1 = keyL e.1 ∧ ∃ q, kv.2 = .ref q ∧ ImgAt H0 q e.2) kvs S →
    (∀ t, lookK S k = some t → ∃ q, valV kvs (keyL k) = some (.ref q) ∧ ImgAt H0 q t) ∧ (lookK S k = none → valV kvs (keyL k) = none)
  | _, _, .nil => ⟨fun t h => (by cases h), fun _ => rfl⟩
  | kv :: kvs, e :: S, .cons ⟨h1, q, h2, h3⟩ r => by
    obtain ⟨i1, i2⟩ := seen_look (k := k) r
    by_cases c : e.1 = k
    · have e1 : lookK (e :: S) k = some e.2 := by unfold lookK; simp [List.find?_cons, c]
      have e2 : valV (kv :: kvs) (keyL k) = some (.ref q) := by rw [valV_pos (h1.trans (congrArg keyL c)), h2]
      rw [e1, e2]
      exact ⟨fun t h => by cases h; exact ⟨q, rfl, h3⟩, fun h => by cases h⟩
    · have e1 : lookK (e :: S) k = lookK S k := by unfold lookK; simp [List.find?_cons, c]
      have e2 : valV (kv :: kvs) (keyL k) = valV kvs (keyL k) := valV_neg (fun z => c (of_decide_eq_true (keyL_inj.symm.trans (decide_eq_true (h1.symm.trans z)))))
      rw [e1, e2]
      exact ⟨i1, i2⟩
section
variable {P : Program} {w : World} {K : PySem.W.Frag} {mg : Str → Option Value} {base : Heap} {f : Addr} {fd : FuncData}
theorem c_turned (F : FnP K "turned" s_turned f fd) (hm : mg "turned" = some (.ref f)) : Cal P w K mg base 1 "turned" (spTurned K) := by
  have hnd := sc_turned.nd
  refine cal_mk F hm sc_turned (fun _ _ _ _ _ _ us hl => match us, hl with | [_, _], _ => rfl) (fun vs H Q E h => ?_) (fun cdv A outer s H vs Q E hr h => ?_)
  · obtain ⟨a, b, t, u, rfl, _⟩ := h
    rfl
  · obtain ⟨a, b, t, u, rfl, sa, sb, ou, q⟩ := h
    unfold okU at ou
    have o1 := (He.ba ou).1
    have o2 := (He.ba (He.ba ou).2).1
    have o3 := (He.ba (He.ba ou).2).2
    refine ⟨_, (pss_one (ps_ret (pe_tup (pa_cons (pe_ix (show IxR _ (rIxT K) from ix_tup) (pv 0) (pe_ix (show IxR _ (rIxT K) from ix_tup) (pv 1) pe_int (fun _ _ => rfl)) (fun _ _ => rfl)) (pa_cons (pe_ix (show IxR _ (rIxT K) from ix_tup) (pv 0) (pe_ix (show IxR _ (rIxT K) from ix_tup) (pv 1) pe_int (fun _ _ => rfl)) (fun _ _ => rfl)) (pa_cons (pe_ix (show IxR _ (rIxT K) from ix_tup) (pv 0) (pe_ix (show IxR _ (rIxT K) from ix_tup) (pv 1) pe_int (fun _ _ => rfl)) (fun _ _ => rfl)) pa_nil)))))), ?_⟩
    exact ⟨_, rfl, _, rfl, b, _, _, _, rfl, rfl, sb, atI_nat (j := 0) rfl, a, _, _, _, rfl, rfl, sa, pl_at o1, _, rfl, _, rfl, b, _, _, _, rfl, rfl, sb, atI_nat (j := 1) rfl, a, _, _, _, rfl, rfl, sa, pl_at o2, _, rfl, _, rfl, b, _, _, _, rfl, rfl, sb, atI_nat (j := 2) rfl, a, _, _, _, rfl, rfl, sa, pl_at o3, Nat.le_of_ble_eq_true rfl, fun R nR => q R _ (same_new nR) upd_same⟩
theorem c_in_classes (F : FnP K "in_classes" s_in_classes f fd) (hm : mg "in_classes" = some (.ref f)) : Cal P w K mg base 2 "in_classes" spInClasses := by
  have hnd := sc_in_classes.nd
  refine cal_mk F hm sc_in_classes (fun _ _ _ _ _ _ us hl => match us, hl with | [_, _], _ => rfl) (fun vs H Q E h => ?_) (fun cdv A outer s H vs Q E hr h => ?_)
  · obtain ⟨L, C, ts, cs, rfl, _⟩ := h
    rfl
  · obtain ⟨L, C, ts, cs, rfl, ⟨qs, eL, pL⟩, eC, bd, few, q⟩ := h
    have lq := pL.length
    refine ⟨_, (pss_one (ps_ret (pe_lc (own := [("first", 2), ("second", 3), ("mixed", 4)]) (tt := tYes) (g := (gTup K 3 (gCons (gName 2) (gCons (gName 3) (gCons (gName 4) gNil))))) (by rfl) hnd (pi_list (pv 0)) (blkOk_by (own := [("first", 2), ("second", 3), ("mixed", 4)]) (N := N_in_classes) (sc := defScope s_in_classes) (by decide +kernel)) (fun _ _ _ _ _ => (pg_tup (by rfl) (pgs_cons (pg_name (i := 2) hnd rfl (by first | exact Or.inl rfl | exact Or.inr rfl)) (pgs_cons (pg_name (i := 3) hnd rfl (by first | exact Or.inl rfl | exact Or.inr rfl)) (pgs_cons (pg_name (i := 4) hnd rfl (by first | exact Or.inl rfl | exact Or.inr rfl)) pgs_nil))))) (fun _ _ _ _ _ => pts_nil) (fun _ _ _ _ _ => (pe_tup (pa_cons (pe_ix (show IxR _ (rIxL K) from ix_list) (pv 1) (pv 2) (fun _ _ => rfl)) (pa_cons (pe_ix (show IxR _ (rIxL K) from ix_list) (pv 1) (pv 3) (fun _ _ => rfl)) (pa_cons (pe_ix (show IxR _ (rIxL K) from ix_list) (pv 1) (pv 4) (fun _ _ => rfl)) pa_nil)))))))), ?_⟩
    refine ⟨_, rfl, L, rfl, ⟨_, SqL.of eL⟩, fun R nR => ?_⟩
    refine lc_it (walk_list (K := K) (a := L) (xs := qs.map V.ref)) (fun i G => Same H G ∧ TrpsAt G R ((ts.take i).map (thC cs))) ⟨same_new nR, ⟨[], upd_same, .nil⟩⟩ (fun i G _ h => SqL.of (h.1 _ _ eL)) ?_ ?_
    · rintro i x G G' hi ⟨sG, as9, eR, pR⟩ ⟨rfl, hx⟩
      rw [List.length_map] at hi
      have li : i < ts.length := by omega
      have h1 : qs[i]? = some qs[i] := List.getElem?_eq_getElem hi
      have h2 : ts[i]? = some ts[i] := List.getElem?_eq_getElem li
      generalize qs[i] = a0 at h1
      generalize ts[i] = t at h2
      rw [List.getElem?_map, h1] at hx
      obtain rfl := Option.some.inj hx
      have ht : TrpAt H a0 t := paired_get2 pL i _ _ h1 h2
      obtain ⟨b1, b2, b3⟩ := bd t (List.mem_of_getElem? h2)
      have sC := SqL.of (K := K) (sG _ _ eC)
      refine ⟨a0, _, rfl, SqT.of (sG _ _ ht), rfl, _, _, rfl, _, _, rfl, _, _, rfl, rfl, rfl, ?_⟩
      unfold tYes
      dsimp only
      rw [if_pos rfl]
      refine ⟨_, rfl, _, rfl, C, _, _, _, rfl, rfl, sC, at_ints b1, _, rfl, _, rfl, C, _, _, _, rfl, rfl, sC, at_ints b2, _, rfl, _, rfl, C, _, _, _, rfl, rfl, sC, at_ints b3, Nat.le_of_ble_eq_true rfl, fun q9 n9 => ?_⟩
      have s9 := same_new (o := .tup [.int (g0 cs t.1 : Nat), .int (g0 cs t.2.1 : Nat), .int (g0 cs t.2.2 : Nat)]) n9
      have e9 : TrpAt (upd _ q9 (.tup [.int (g0 cs t.1 : Nat), .int (g0 cs t.2.1 : Nat), .int (g0 cs t.2.2 : Nat)])) q9 (thC cs t) := upd_same (H := G')
      have eR9 := s9 _ _ eR
      generalize upd G' q9 (.tup [.int (g0 cs t.1 : Nat), .int (g0 cs t.2.1 : Nat), .int (g0 cs t.2.2 : Nat)]) = G9 at s9 e9 eR9 ⊢
      refine ⟨_, eR9, ?_, same_pt nR (sG.trans s9), as9 ++ [q9], by rw [upd_same, List.map_append]; rfl, ?_⟩
      · have h3 := pR.length
        rw [List.length_map, List.length_take] at h3
        rw [List.length_map, sizeLine_eq]
        omega
      · rw [get_take h2, List.map_append]
        refine paired_app (paired_imp (fun t T9 e => ?_) pR) (.cons (by unfold TrpAt; rw [upd_ne (ne_of e9 eR9 (by intro z; cases z))]; exact e9) .nil)
        unfold TrpAt
        rw [upd_ne (ne_of (s9 _ _ e) eR9 (by intro z; cases z))]
        exact s9 _ _ e
    · rintro G ⟨sG, tG⟩
      rw [List.length_map, lq, List.take_length] at tG
      exact q R G sG tG
theorem c_merged (F : FnP K "merged" s_merged f fd) (hm : mg "merged" = some (.ref f)) : Cal P w K mg base 2 "merged" spMerged := by
  have hnd := sc_merged.nd
  refine cal_mk F hm sc_merged (fun _ _ _ _ _ _ us hl => match us, hl with | [_, _, _], _ => rfl) (fun vs H Q E h => ?_) (fun cdv A outer s H vs Q E hr h => ?_)
  · obtain ⟨C, cs, a, b, rfl, _⟩ := h
    rfl
  · obtain ⟨C, cs, a, b, rfl, eC, ha, hb, few, q⟩ := h
    have sC := SqL.of (K := K) eC
    refine ⟨_, (pss_cons (ps_pairL rfl (pa_cons (pe_ix (show IxR _ (rIxL K) from ix_list) (pv 0) (pv 1) (fun _ _ => rfl)) (pa_cons (pe_ix (show IxR _ (rIxL K) from ix_list) (pv 0) (pv 2) (fun _ _ => rfl)) pa_nil)) (pgs_cons (pg_name (i := 3) hnd rfl (by first | exact Or.inl rfl | exact Or.inr rfl)) (pgs_cons (pg_name (i := 4) hnd rfl (by first | exact Or.inl rfl | exact Or.inr rfl)) pgs_nil)) (by rfl) (by rfl) (by rfl))
      (pss_one (ps_ret (pe_lc (own := [("name", 5)]) (tt := tYes) (by rfl) hnd (pi_list (pv 0)) (blkOk_by (own := [("name", 5)]) (N := N_merged) (sc := defScope s_merged) (by decide +kernel)) (fun _ _ _ _ _ => (pg_name (i := 5) hnd rfl (by first | exact Or.inl rfl | exact Or.inr rfl))) (fun _ _ _ _ _ => pts_nil) (fun _ _ _ _ _ => (pe_ifExp (pt_cmpR op_eq (pv 5) (pv 4) (nomark _)) (pv 3) (pv 5))))))), ?_⟩
    refine ⟨_, rfl, _, rfl, C, _, _, _, rfl, rfl, sC, at_ints ha, _, rfl, _, rfl, C, _, _, _, rfl, rfl, sC, at_ints hb, rfl, _, _, rfl, _, _, rfl, rfl, ?_⟩
    try dsimp only
    refine ⟨_, rfl, C, rfl, ⟨_, sC⟩, fun R nR => ?_⟩
    refine lc_it (walk_list (K := K) (a := C) (xs := intsV cs)) (fun i G => Same H G ∧ G R = some (.lst (intsV ((mergeC cs a b).take i)))) ⟨same_new nR, upd_same⟩ (fun i G _ h => SqL.of (h.1 _ _ eC)) ?_ ?_
    · rintro i x G G' hi ⟨sG, eR⟩ ⟨rfl, hx⟩
      unfold intsV at hi hx
      rw [List.length_map] at hi
      have h1 : cs[i]? = some cs[i] := List.getElem?_eq_getElem hi
      generalize cs[i] = n at h1
      rw [List.getElem?_map, h1] at hx
      obtain rfl := Option.some.inj hx
      have e2 : (mergeC cs a b)[i]? = some (if n = g0 cs b then g0 cs a else n) := by unfold mergeC; rw [List.getElem?_map, h1]; rfl
      have lb : (mergeC cs a b).length ≤ 100000 := by rw [mergeC_len]; exact few
      have eqd : decide (V.int (n : Int) = V.int (g0 cs b : Nat)) = decide (n = g0 cs b) := decide_eq_decide.mpr ⟨fun h => by injection h with h; omega, fun h => by rw [h]⟩
      refine ⟨rfl, ?_⟩
      unfold tYes
      dsimp only
      rw [if_pos rfl]
      have ln : (intsV ((mergeC cs a b).take i)).length < sizeLine := by
        unfold intsV
        rw [List.length_map, List.length_take, sizeLine_eq]
        omega
      have fin : ∀ m : Nat, (mergeC cs a b)[i]? = some m → upd G' R (.lst (intsV ((mergeC cs a b).take i) ++ [.int (m : Nat)])) R = some (.lst (intsV ((mergeC cs a b).take (i + 1)))) := fun m hm => by
        rw [upd_same, get_take hm]
        unfold intsV
        rw [List.map_append]
        rfl
      refine ⟨_, rfl, _, rfl, rfl, _, rfl, ?_⟩
      by_cases c : n = g0 cs b
      · rw [if_pos c] at e2
        exact iteT2 (eqd.trans (decide_eq_true c)) ⟨_, rfl, _, eR, ln, same_pt nR sG, fin _ e2⟩
      · rw [if_neg c] at e2
        exact iteN2 (eqd.trans (decide_eq_false c)) ⟨_, rfl, _, eR, ln, same_pt nR sG, fin _ e2⟩
    · rintro G ⟨sG, eG⟩
      rw [show (intsV cs).length = (mergeC cs a b).length by rw [mergeC_len]; exact List.length_map _, List.take_length] at eG
      exact q R G sG nR eG
end
theorem walk_enumT {K : PySem.W.Frag} {a : Addr} {xs : List V} : Walk (IteT K a) xs.length (fun H => SqT K H a xs) (YPair (fun i => some (.int (i : Nat))) (fun i => xs[i]?)) := by
  refine ⟨fun i _ hi q => ⟨xs, xs[i], q, by simp [hi]⟩, fun _ q => ⟨xs, q, rfl⟩, fun i H v H' _ q y => ?_⟩
  obtain ⟨T, x, h1, h2, h3, h4⟩ := y
  exact ⟨T, .int (i : Nat), x, h1, h2, h3, rfl, h4 xs q⟩
theorem oth_at {K : PySem.W.Frag} {b0 b1 b2 : Addr} (e0 : ∀ H, SqT K H b0 [.int 1, .int 2]) (e1 : ∀ H, SqT K H b1 [.int 0, .int 2]) (e2 : ∀ H, SqT K H b2 [.int 0, .int 1]) {j : Nat} (hj : j < 3) :
    ∃ (b : Addr) (o1 o2 : Int), [V.ref b0, V.ref b1, V.ref b2][j]? = some (.ref b) ∧ (∀ H, SqT K H b [.int o1, .int o2]) ∧ (∀ t, atI (tV t) o1 = some (.int (ot1 j t : Nat))) ∧ (∀ t, atI (tV t) o2 = some (.int (ot2 j t : Nat))) ∧ ∀ t, atI (tV t) (j : Int) = some (.int (thg j t : Nat)) := by
  rcases (show j = 0 ∨ j = 1 ∨ j = 2 by omega) with rfl | rfl | rfl
  · exact ⟨b0, 1, 2, rfl, e0, fun t => atI_nat (j := 1) rfl, fun t => atI_nat (j := 2) rfl, fun t => atI_nat (j := 0) rfl⟩
  · exact ⟨b1, 0, 2, rfl, e1, fun t => atI_nat (j := 0) rfl, fun t => atI_nat (j := 2) rfl, fun t => atI_nat (j := 1) rfl⟩
  · exact ⟨b2, 0, 1, rfl, e2, fun t => atI_nat (j := 0) rfl, fun t => atI_nat (j := 1) rfl, fun t => atI_nat (j := 2) rfl⟩
theorem ImgAt.tup {H G : Hp} {q : Addr} {t : Trp} (h : ImgAt H q t) (k : ∀ b xs, H b = some (.tup xs) → G b = some (.tup xs)) : ImgAt G q t := let ⟨iv, tv, a, e1, e2⟩ := h; ⟨iv, tv, a, k _ _ e1, k _ _ e2⟩
/-- so far: the classes, and what has been seen -/
def preF (ims : List Trp) (cs : List Nat) (i j : Nat) : List Nat × Seen := ((work (ims.take i)) ++ (work ((ims.drop i).take 1)).take j).foldl stp (cs, [])
theorem preF_next {ims : List Trp} {cs : List Nat} {i j : Nat} {t : Trp} (ht : ims[i]? = some t) (hj : j < 3) : preF ims cs i (j + 1) = stp (preF ims cs i j) (t, j) := by
  have e : (ims.drop i).take 1 = [t] := by
    rw [List.drop_eq_getElem_cons (List.getElem?_eq_some_iff.mp ht).1, (List.getElem?_eq_some_iff.mp ht).2]
    rfl
  unfold preF
  rw [e]
  have e2 : work [t] = [(t, 0), (t, 1), (t, 2)] := rfl
  rw [e2, get_take (show ([(t, 0), (t, 1), (t, 2)] : List (Trp × Nat))[j]? = some (t, j) from by
    rcases (show j = 0 ∨ j = 1 ∨ j = 2 by omega) with rfl | rfl | rfl <;> rfl), ← List.append_assoc, List.foldl_append]
  rfl
theorem preF_done {ims : List Trp} {cs : List Nat} {i : Nat} {t : Trp} (ht : ims[i]? = some t) : preF ims cs i 3 = preF ims cs (i + 1) 0 := by
  have e : (ims.drop i).take 1 = [t] := by
    rw [List.drop_eq_getElem_cons (List.getElem?_eq_some_iff.mp ht).1, (List.getElem?_eq_some_iff.mp ht).2]
    rfl
  unfold preF
  rw [e, get_take ht]
  have e2 : work (ims.take i ++ [t]) = work (ims.take i) ++ work [t] := by unfold work; rw [List.flatMap_append]
  rw [e2, List.take_zero, List.append_nil]
  rfl
theorem preF_end {ims : List Trp} {cs : List Nat} : (preF ims cs ims.length 0).1 = passF ims cs := by
  unfold preF passF
  rw [List.take_length, List.take_zero, List.append_nil]
theorem fold_ok {ims : List Trp} : ∀ (l : List (Trp × Nat)) (x : List Nat × Seen), (∀ q ∈ l, q.1 ∈ ims) → (l.foldl stp x).1.length = x.1.length ∧ (l.foldl stp x).2.length ≤ x.2.length + l.length ∧ ((∀ e ∈ x.2, e.2 ∈ ims) → ∀ e ∈ (l.foldl stp x).2, e.2 ∈ ims)
  | [], x, _ => ⟨rfl, Nat.le_refl _, id⟩
  | q :: l, x, h => by
    obtain ⟨h1, h2, h3⟩ := fold_ok l (stp x q) fun y hy => h y (List.mem_cons_of_mem _ hy)
    have e1 : (stp x q).1.length = x.1.length := by
      unfold stp stpC
      dsimp only
      split
      · rfl
      · exact mergeC_len ..
    have e2 : (stp x q).2.length ≤ x.2.length + 1 ∧ ((∀ e ∈ x.2, e.2 ∈ ims) → ∀ e ∈ (stp x q).2, e.2 ∈ ims) := by
      unfold stp seenP
      dsimp only
      split
      · exact ⟨Nat.le_succ _, id⟩
      · refine ⟨by simp, fun hx e he => ?_⟩
        rcases List.mem_append.mp he with he | he
        · exact hx e he
        · rw [List.mem_singleton.mp he]
          exact h q List.mem_cons_self
    rw [List.foldl_cons]
    exact ⟨h1.trans e1, by rw [List.length_cons]; omega, fun hx => h3 (e2.2 hx)⟩
theorem work_len (ims : List Trp) : (work ims).length = 3 * ims.length := by
  induction ims with
  | nil => rfl
  | cons t r ih =>
    have : work (t :: r) = [(t, 0), (t, 1), (t, 2)] ++ work r := rfl
    rw [this, List.length_append, ih, List.length_cons]
    simp
    omega
theorem preF_ok (ims : List Trp) (cs : List Nat) (i j : Nat) : (preF ims cs i j).1.length = cs.length ∧ (preF ims cs i j).2.length ≤ 3 * i + j ∧ ∀ e ∈ (preF ims cs i j).2, e.2 ∈ ims := by
  have mw : ∀ q ∈ work (ims.take i) ++ (work ((ims.drop i).take 1)).take j, q.1 ∈ ims := fun q hq => by
    rcases List.mem_append.mp hq with h | h
    · exact List.mem_of_mem_take (work_mem q h).1
    · exact List.mem_of_mem_drop (List.mem_of_mem_take (work_mem q (List.mem_of_mem_take h)).1)
  obtain ⟨h1, h2, h3⟩ := fold_ok (ims := ims) _ (cs, []) mw
  refine ⟨h1, Nat.le_trans h2 ?_, h3 fun _ h => by cases h⟩
  rw [List.length_append, work_len, List.length_take, List.length_take]
  simp only [List.length_nil]
  omega
def ImgsAt (H : Hp) (I : Addr) (ims : List Trp) : Prop := ∃ qs : List Addr, H I = some (.lst (qs.map V.ref)) ∧ Paired (ImgAt H) qs ims
def spMergedOnce : Sp := fun vs H Q _ => ∃ (C I M : Addr) (cs : List Nat) (ims : List Trp) (ms : List V), vs = [.ref C, .ref I, .ref M] ∧ H C = some (.lst (intsV cs)) ∧ ImgsAt H I ims ∧ H M = some (.lst ms) ∧ C ≠ M ∧ I ≠ M ∧ (∀ t ∈ ims, thB cs.length t) ∧ ims.length ≤ 10000 ∧ cs.length ≤ 10000 ∧ ms.length + 3 * ims.length ≤ 1000000 ∧
  ∀ (R : Addr) (ms' : List V) (H' : Hp), SameB M H H' → (R = C ∨ H R = none) → H' R = some (.lst (intsV (passF ims cs))) → H' M = some (.lst ms') → ms'.length ≤ ms.length + 3 * ims.length → Q (.ref R) H'
/-- between two turns -/
structure MO (H : Hp) (C M D : Addr) (ims : List Trp) (cs : List Nat) (ms : List V) (G : Hp) (Cc : Addr) (ms' : List V) (i j : Nat) : Prop where
  sb : SameB M H G
  cl : G Cc = some (.lst (intsV (preF ims cs i j).1))
  sn : SeenAt H G D (preF ims cs i j).2
  mm : G M = some (.lst ms')
  ml : ms'.length ≤ ms.length + 3 * i + j
  nm : Cc ≠ M
  old : Cc = C ∨ H Cc = none
theorem MO.same {H : Hp} {C M D : Addr} {ims : List Trp} {cs : List Nat} {ms : List V} {G G' : Hp} {Cc : Addr} {ms' : List V} {i j : Nat} (h : MO H C M D ims cs ms G Cc ms' i j) (s : Same G G') : MO H C M D ims cs ms G' Cc ms' i j :=
  ⟨fun b o n e => s _ _ (h.sb b o n e), s _ _ h.cl, let ⟨k, a, b⟩ := h.sn; ⟨k, s _ _ a, b⟩, s _ _ h.mm, h.ml, h.nm, h.old⟩
theorem MO.next {H : Hp} {C M D : Addr} {ims : List Trp} {cs : List Nat} {ms : List V} {G : Hp} {Cc : Addr} {ms' : List V} {i : Nat} {t : Trp} (ht : ims[i]? = some t) (h : MO H C M D ims cs ms G Cc ms' i 3) : MO H C M D ims cs ms G Cc ms' (i + 1) 0 :=
  ⟨h.sb, (preF_done ht) ▸ h.cl, (preF_done ht) ▸ h.sn, h.mm, by have := h.ml; omega, h.nm, h.old⟩
section
variable {P : Program} {w : World} {K : PySem.W.Frag} {mg : Str → Option Value} {base : Heap} {f : Addr} {fd : FuncData}
theorem c_merged_once (T : Bt mg) (BO : OthK K mg) (k_merged : Cal P w K mg base 2 "merged" spMerged) (F : FnP K "_merged_once" s_merged_once f fd) (hm : mg "_merged_once" = some (.ref f)) : Cal P w K mg base 3 "_merged_once" spMergedOnce := by
  have hnd := sc_merged_once.nd
  obtain ⟨aO, b0, b1, b2, hot, eO, e0, e1, e2⟩ := BO
  refine cal_mk F hm sc_merged_once (fun _ _ _ _ _ _ us hl => match us, hl with | [_, _, _], _ => rfl) (fun vs H Q E h => ?_) (fun cdv A outer s H vs Q E hr h => ?_)
  · obtain ⟨C, I, M, cs, ims, ms, rfl, _⟩ := h
    rfl
  · obtain ⟨C, I, M, cs, ims, ms, rfl, eC, ⟨qs, eI, pI⟩, eM, nCM, nIM, bd, fewI, fewC, fewM, q⟩ := h
    have lq := pI.length
    refine ⟨_, (pss_cons (ps_set (i := 3) hnd rfl (by first | exact Or.inl rfl | exact Or.inr rfl) pe_dnewT)
      (pss_cons (ps_for PassesOwn.never (by rfl) (pi_list (pv 1)) (pg_name (i := 4) hnd rfl (by first | exact Or.inl rfl | exact Or.inr rfl))
      (pss_cons (ps_asg (pv 4) (pg_tup (by rfl) (pgs_cons (pg_name (i := 5) hnd rfl (by first | exact Or.inl rfl | exact Or.inr rfl)) (pgs_cons (pg_name (i := 6) hnd rfl (by first | exact Or.inl rfl | exact Or.inr rfl)) (pgs_cons (pg_name (i := 7) hnd rfl (by first | exact Or.inl rfl | exact Or.inr rfl)) pgs_nil)))))
      (pss_one (ps_for PassesOwn.never (by rfl) (pi_enumT (by rfl) T.m_enumerate (pa_cons (pe_glob (v := .ref aO) (by rfl) hot rfl) pa_nil)) (pg_tup (by rfl) (pgs_cons (pg_name (i := 8) hnd rfl (by first | exact Or.inl rfl | exact Or.inr rfl)) (pgs_cons (pg_tup (by rfl) (pgs_cons (pg_name (i := 9) hnd rfl (by first | exact Or.inl rfl | exact Or.inr rfl)) (pgs_cons (pg_name (i := 10) hnd rfl (by first | exact Or.inl rfl | exact Or.inr rfl)) pgs_nil))) pgs_nil)))
      (pss_cons (ps_set (i := 11) hnd rfl (by first | exact Or.inl rfl | exact Or.inr rfl) (pe_tup (pa_cons (pv 8) (pa_cons (pe_ix (show IxR _ (rIxL K) from ix_list) (pv 0) (pe_ix (show IxR _ (rIxT K) from ix_tup) (pv 7) (pv 9) (fun _ _ => rfl)) (fun _ _ => rfl)) (pa_cons (pe_ix (show IxR _ (rIxL K) from ix_list) (pv 0) (pe_ix (show IxR _ (rIxT K) from ix_tup) (pv 7) (pv 10) (fun _ _ => rfl)) (fun _ _ => rfl)) pa_nil)))))
      (pss_cons (ps_asg (pe_dsetdT (Nat.lt_of_le_of_lt (Nat.add_le_add_left (by decide) _) hr.units) (pv 3) (pv 11) (pv 4) ⟨by rfl, by rfl, by rfl, by rfl⟩) (pg_tup (by rfl) (pgs_cons (pg_name (i := 12) hnd rfl (by first | exact Or.inl rfl | exact Or.inr rfl)) (pgs_cons (pg_name (i := 13) hnd rfl (by first | exact Or.inl rfl | exact Or.inr rfl)) (pgs_cons (pg_name (i := 14) hnd rfl (by first | exact Or.inl rfl | exact Or.inr rfl)) pgs_nil)))))
      (pss_one (ps_if (pt_cmpR op_ne (pe_ix (show IxR _ (rIxL K) from ix_list) (pv 0) (pe_ix (show IxR _ (rIxT K) from ix_tup) (pv 14) (pv 8) (fun _ _ => rfl)) (fun _ _ => rfl)) (pe_ix (show IxR _ (rIxL K) from ix_list) (pv 0) (pe_ix (show IxR _ (rIxT K) from ix_tup) (pv 7) (pv 8) (fun _ _ => rfl)) (fun _ _ => rfl)) (nomark _))
      (pss_cons (ps_set (i := 0) hnd rfl (by first | exact Or.inl rfl | exact Or.inr rfl) (pe_cal k_merged hr (by omega) (by rfl) (pa_cons (pv 0) (pa_cons (pe_ix (show IxR _ (rIxT K) from ix_tup) (pv 14) (pv 8) (fun _ _ => rfl)) (pa_cons (pe_ix (show IxR _ (rIxT K) from ix_tup) (pv 7) (pv 8) (fun _ _ => rfl)) pa_nil)))))
      (pss_one (ps_expr (pe_bm PySem.F.plainAttrs_list PySem.F.slot_list_append PySem.F.type_list_append mt_append (pv 2) (pa_cons (pe_tup (pa_cons (pv 5) (pa_cons (pv 6) (pa_cons (pv 12) (pa_cons (pv 13) (pa_cons (pv 8) pa_nil)))))) pa_nil)))))
      pss_nil))))))))
      (pss_one (ps_ret (pv 0))))), ?_⟩
    refine fun D nD => gname_go ?_
    try dsimp only
    have nMD : M ≠ D := ne_of_none eM nD
    refine ⟨_, rfl, I, rfl, ⟨_, SqL.of (same_new nD _ _ eI)⟩, ?_⟩
    refine for_it (walk_list (K := K) (a := I) (xs := qs.map V.ref)) (fun i σ' G => ∃ (Cc : Addr) (x4 x5 x6 x7 x8 x9 x10 x11 x12 x13 x14 : Option V) (ms' : List V), σ' = [some (.ref Cc), some (.ref I), some (.ref M), some (.ref D), x4, x5, x6, x7, x8, x9, x10, x11, x12, x13, x14] ∧
      MO H C M D ims cs ms G Cc ms' i 0) ⟨C, _, _, _, _, _, _, _, _, _, _, _, ms, rfl, fun b o _ e => same_new nD _ _ e, same_new nD _ _ eC, ⟨[], upd_same, .nil⟩, same_new nD _ _ eM, Nat.le_refl _, nCM, .inl rfl⟩
      (fun i σ' G _ h => by obtain ⟨_, _, _, _, _, _, _, _, _, _, _, _, _, _, s1, _⟩ := h; exact SqL.of (s1 _ _ nIM eI)) ?_ ?_
    · rintro i x σ' G G' hi ⟨Cc, x4, x5, x6, x7, x8, x9, x10, x11, x12, x13, x14, ms', rfl, mo⟩ ⟨rfl, hx⟩
      rw [List.length_map] at hi
      have li : i < ims.length := by omega
      have h1 : qs[i]? = some qs[i] := List.getElem?_eq_getElem hi
      have h2 : ims[i]? = some ims[i] := List.getElem?_eq_getElem li
      generalize qs[i] = q0 at h1
      generalize ims[i] = t at h2
      rw [List.getElem?_map, h1] at hx
      obtain rfl := Option.some.inj hx
      have hI : ImgAt H q0 t := paired_get2 pI i _ _ h1 h2
      have bt := bd t (List.mem_of_getElem? h2)
      obtain ⟨iv, tv, a0, eq0, ea0⟩ := hI
      have keepT : ∀ {G1 : Hp}, SameB M H G1 → ∀ b xs, H b = some (.tup xs) → G1 b = some (.tup xs) := fun s b xs e => s b _ (ne_of e eM (by intro z; cases z)) e
      refine gname_go ?_
      refine ⟨_, rfl, q0, _, rfl, SqT.of (keepT mo.sb _ _ eq0), rfl, _, _, rfl, _, _, rfl, _, _, rfl, rfl, ?_⟩
      refine ⟨aO, _, rfl, eO _, ?_⟩
      refine for_it (walk_enumT (K := K) (a := aO) (xs := [V.ref b0, V.ref b1, V.ref b2])) (fun j σ' G => ∃ (Cc : Addr) (x8 x9 x10 x11 x12 x13 x14 : Option V) (ms' : List V), σ' = [some (.ref Cc), some (.ref I), some (.ref M), some (.ref D), some (.ref q0), some iv, some tv, some (.ref a0), x8, x9, x10, x11, x12, x13, x14] ∧
        MO H C M D ims cs ms G Cc ms' i j) ⟨Cc, _, _, _, _, _, _, _, ms', rfl, mo⟩ (fun _ _ _ _ _ => eO _) ?_ ?_
      · rintro j x σ' G1 G1' hj ⟨Cc, x8, x9, x10, x11, x12, x13, x14, ms', rfl, mo⟩ ⟨T', u, v, rfl, nT, rfl, hu, hv⟩
        have hj : j < 3 := hj
        obtain ⟨b, o1, o2, hb, eb, ho1, ho2, hoj⟩ := oth_at e0 e1 e2 hj
        dsimp only at hu hv
        rw [hb] at hv
        obtain rfl := Option.some.inj hu
        obtain rfl := Option.some.inj hv
        obtain ⟨pl, ps9, pm⟩ := preF_ok ims cs i j
        have nx := preF_next (cs := cs) h2 hj
        have sT := same_new (o := .tup [V.int (j : Int), V.ref b]) nT
        have mo := mo.same sT
        have eT : (upd G1 T' (.tup [V.int (j : Int), V.ref b])) T' = some (.tup [V.int (j : Int), V.ref b]) := upd_same
        generalize upd G1 T' (.tup [V.int (j : Int), V.ref b]) = G2 at mo eT ⊢
        have sA : SqT K G2 a0 (tV t) := SqT.of (keepT mo.sb _ _ ea0)
        have sC : SqL K G2 Cc (intsV (preF ims cs i j).1) := SqL.of mo.cl
        have b1' : ot1 j t < (preF ims cs i j).1.length := by rw [pl]; exact ot1_lt bt
        have b2' : ot2 j t < (preF ims cs i j).1.length := by rw [pl]; exact ot2_lt bt
        refine ⟨T', _, rfl, SqT.of eT, rfl, _, _, rfl, _, _, rfl, b, _, rfl, eb _, rfl, _, _, rfl, _, _, rfl, rfl, rfl, ?_⟩
        refine ⟨_, rfl, _, rfl, _, rfl, _, rfl, a0, _, _, _, rfl, rfl, sA, ho1 t, Cc, _, _, _, rfl, rfl, sC, at_ints b1', _, rfl, _, rfl, _, rfl, a0, _, _, _, rfl, rfl, sA, ho2 t, Cc, _, _, _, rfl, rfl, sC, at_ints b2', Nat.le_of_ble_eq_true rfl, fun q9 n9 => gname_go ?_⟩
        try dsimp only
        have s9 := same_new (o := .tup [V.int (j : Int), V.int (g0 (preF ims cs i j).1 (ot1 j t) : Nat), V.int (g0 (preF ims cs i j).1 (ot2 j t) : Nat)]) n9
        have mo := mo.same s9
        have e9 : (upd G2 q9 (.tup [V.int (j : Int), V.int (g0 (preF ims cs i j).1 (ot1 j t) : Nat), V.int (g0 (preF ims cs i j).1 (ot2 j t) : Nat)])) q9 = some (.tup ((keyL (keyP (preF ims cs i j).1 t j)).map kV)) := upd_same
        generalize upd G2 q9 (.tup [V.int (j : Int), V.int (g0 (preF ims cs i j).1 (ot1 j t) : Nat), V.int (g0 (preF ims cs i j).1 (ot2 j t) : Nat)]) = G3 at mo e9 ⊢
        obtain ⟨mb, mc, ⟨kvs, eD, pS⟩, mm, ml, nm, mold⟩ := mo
        have e1' : (preF ims cs i (j + 1)).1 = stpC (preF ims cs i j).2 (preF ims cs i j).1 t j := by rw [nx]; rfl
        have e2' : (preF ims cs i (j + 1)).2 = seenP (preF ims cs i j).2 (preF ims cs i j).1 t j := by rw [nx]; rfl
        have lp1 := pl
        generalize (preF ims cs i j).1 = cs1 at *
        generalize (preF ims cs i j).2 = S1 at *
        obtain ⟨sl1, sl2⟩ := seen_look (k := keyP cs1 t j) pS
        refine asg_cut (fun v G4 => ∃ qm m, v = .ref qm ∧ ImgAt H qm m ∧ m = mateP S1 cs1 t j ∧ m ∈ ims ∧ SameB M H G4 ∧ G4 Cc = some (.lst (intsV cs1)) ∧ SeenAt H G4 D (seenP S1 cs1 t j) ∧ G4 M = some (.lst ms')) ?_ fun hQ => ?_
        · rintro v G4 ⟨qm, m, rfl, ⟨im, tm, am, eqm, eam⟩, em, mi, mb4, mc4, sn4, mm4⟩
          have sM : SqT K G4 am (tV m) := SqT.of (keepT mb4 _ _ eam)
          have sA4 : SqT K G4 a0 (tV t) := SqT.of (keepT mb4 _ _ ea0)
          have sC4 : SqL K G4 Cc (intsV cs1) := SqL.of mc4
          have bm1 : thg j m < cs1.length := by rw [pl]; exact thg_lt (bd m mi)
          have bt1 : thg j t < cs1.length := by rw [pl]; exact thg_lt bt
          refine ⟨qm, _, rfl, SqT.of (keepT mb4 _ _ eqm), rfl, _, _, rfl, _, _, rfl, _, _, rfl, rfl, ?_⟩
          try dsimp only
          refine ⟨_, rfl, _, rfl, _, rfl, am, _, _, _, rfl, rfl, sM, hoj m, Cc, _, _, _, rfl, rfl, sC4, at_ints bm1, _, rfl, _, rfl, _, rfl, a0, _, _, _, rfl, rfl, sA4, hoj t, Cc, _, _, _, rfl, rfl, sC4, at_ints bt1, rfl, ?_⟩
          have ed : decide (V.int (g0 cs1 (thg j m) : Nat) = V.int (g0 cs1 (thg j t) : Nat)) = decide (g0 cs1 (thg j m) = g0 cs1 (thg j t)) := decide_eq_decide.mpr ⟨fun h => by injection h with h; omega, fun h => by rw [h]⟩
          refine ⟨_, rfl, ?_⟩
          by_cases c : g0 cs1 (thg j m) = g0 cs1 (thg j t)
          · refine iteN2 (by rw [ed, decide_eq_true c]; rfl) ?_
            have e3 : (preF ims cs i (j + 1)).1 = cs1 := by rw [e1']; unfold stpC; rw [← em, if_pos c]
            exact ⟨Cc, _, _, _, _, _, _, _, ms', rfl, mb4, by rw [e3]; exact mc4, by rw [e2']; exact sn4, mm4, by omega, nm, mold⟩
          · refine iteT2 (by rw [ed, decide_eq_false c]; rfl) ?_
            have e3 : (preF ims cs i (j + 1)).1 = mergeC cs1 (thg j m) (thg j t) := by rw [e1']; unfold stpC; rw [← em, if_neg c]
            refine ⟨_, rfl, _, rfl, _, rfl, am, _, _, _, rfl, rfl, sM, hoj m, _, rfl, _, rfl, a0, _, _, _, rfl, rfl, sA4, hoj t, Cc, cs1, thg j m, thg j t, rfl, mc4, bm1, bt1, by omega, fun R G5 s5 nR eR => gname_go ?_⟩
            try dsimp only
            have eM5 := s5 _ _ mm4
            refine ⟨_, rfl, .inl ⟨rfl, _, SqL.of eM5⟩, _, rfl, _, rfl, _, rfl, _, rfl, _, rfl, Nat.le_of_ble_eq_true rfl, fun q8 n8 => ?_⟩
            have s8 := same_new (o := .tup [iv, tv, im, tm, V.int (j : Int)]) n8
            have eM8 := s8 _ _ eM5
            have nRM : R ≠ M := fun z => by rw [z, mm4] at nR; cases nR
            have eR8 := s8 _ _ eR
            obtain ⟨kv4, eD4, pS4⟩ := sn4
            have eD8 := s8 _ _ (s5 _ _ eD4)
            generalize upd G5 q8 (.tup [iv, tv, im, tm, V.int (j : Int)]) = G6 at s8 eM8 eR8 eD8 ⊢
            refine ⟨M, ms', _, rfl, rfl, eM8, by rw [sizeLine_eq]; omega, ?_⟩
            refine ⟨R, _, _, _, _, _, _, _, ms' ++ [.ref q8], rfl, fun b o nb e => by rw [upd_ne nb]; exact s8 _ _ (s5 _ _ (mb4 _ _ nb e)), by rw [e3, upd_ne nRM]; exact eR8, by rw [e2']; exact ⟨kv4, by rw [upd_ne (Ne.symm nMD)]; exact eD8, pS4⟩, upd_same, by rw [List.length_append, List.length_singleton]; omega, nRM, .inr ?_⟩
            cases e : H R with
            | none => rfl
            | some o =>
              exfalso
              rw [mb4 R o nRM e] at nR
              cases nR
        · have lk : kvs.length < sizeLine := by
            rw [pS.length, sizeLine_eq]
            omega
          refine ⟨_, rfl, D, rfl, .inr ⟨kvs, .inl eD⟩, _, rfl, _, rfl, kvs, _, q9, eD, rfl, e9, lk, fun v hv => hQ _ _ ?_, fun hn => hQ _ _ ?_⟩
          · cases hl : lookK S1 (keyP cs1 t j) with
            | none =>
              rw [sl2 hl] at hv
              cases hv
            | some m =>
              obtain ⟨qm, h3, h4⟩ := sl1 m hl
              rw [h3] at hv
              cases hv
              exact ⟨qm, m, rfl, h4, by unfold mateP; rw [hl]; rfl, pm _ (lookK_mem hl), mb, mc, by unfold seenP; rw [hl]; exact ⟨kvs, eD, pS⟩, mm⟩
          · cases hl : lookK S1 (keyP cs1 t j) with
            | some m =>
              obtain ⟨qm, h3, _⟩ := sl1 m hl
              rw [h3] at hn
              cases hn
            | none =>
              have nDC : Cc ≠ D := ne_of mc eD (by intro z; cases z)
              refine ⟨q0, t, rfl, ⟨iv, tv, a0, eq0, ea0⟩, by unfold mateP; rw [hl]; rfl, List.mem_of_getElem? h2, fun b o nb e => by rw [upd_ne (ne_of_none e nD)]; exact mb b o nb e, by rw [upd_ne nDC]; exact mc, ?_, by rw [upd_ne nMD]; exact mm⟩
              unfold seenP
              rw [hl]
              exact ⟨_, upd_same, by rw [putK_new _ hn]; exact paired_app pS (.cons ⟨rfl, q0, rfl, iv, tv, a0, eq0, ea0⟩ .nil)⟩
      · rintro σ' G1 ⟨Cc, x8, x9, x10, x11, x12, x13, x14, ms', rfl, mo⟩
        exact ⟨Cc, _, _, _, _, _, _, _, _, _, _, _, ms', rfl, MO.next h2 mo⟩
    · rintro σ' G ⟨Cc, x4, x5, x6, x7, x8, x9, x10, x11, x12, x13, x14, ms', rfl, mo⟩
      rw [List.length_map, lq] at mo
      exact ⟨_, rfl, q Cc ms' G mo.sb mo.old (by rw [mo.cl, preF_end]) mo.mm mo.ml⟩
end
end L2.K19
set_option Elab.async false
set_option linter.all false
set_option maxRecDepth 100000
set_option maxHeartbeats 8000000
namespace L2.K19
open PySem PySem.Spec PyProof.Rows L2.Tb
open SX (S)
/-! ### closed -/
abbrev s_tclosed : Stmt := top 50
abbrev N_tclosed : List Str := ["kind", "size", "triples", "equal", "classes", "one", "other", "thing", "images", "index", "triple", "turn", "mergings", "before", "number", "name", "numbers"]
theorem sc_tclosed : FnScope N_tclosed ["kind", "size", "triples", "equal"] (defScope s_tclosed) := ⟨rfl, rfl, rfl, by decide +kernel, rfl, by decide +kernel, by decide +kernel⟩
/-- all images: those of a calm kind first -/
def imsF (z : Str) (b : Bool) (n : Nat) (ts : List Trp) : List Trp := (if b = true then (List.range n).map fun i => (i, i, i) else []) ++ ts.flatMap fun t => (lotOf z).map (imgT t)
def PairsI (H : Hp) (E : Addr) (eqs : List (Nat × Nat)) : Prop := ∃ as : List Addr, H E = some (.lst (as.map V.ref)) ∧ Paired (fun a e => H a = some (.tup [.int (e.1 : Nat), .int (e.2 : Nat)])) as eqs
/-- the numbers of the classes: each below m, each of them taken, alike just what follows -/
structure ClOut (eqs : List (Nat × Nat)) (im : List Trp) (n : Nat) (out : List Nat) (m : Nat) : Prop where
  len : out.length = n
  lt : ∀ i, i < n → g0 out i < m
  onto : ∀ k, k < m → ∃ i, i < n ∧ g0 out i = k
  iff : ∀ i j, i < n → j < n → (g0 out i = g0 out j ↔ ClI eqs im i j)
def spTclosed (C : Addr) : Sp := fun vs H Q _ => ∃ (k T E : Addr) (n : Nat) (z : Str) (b : Bool) (ts : List Trp) (eqs : List (Nat × Nat)), vs = [.ref k, .int (n : Nat), .ref T, .ref E] ∧ KindAt C H k z b ∧ wordsD.contains z = true ∧ 0 < n ∧ n < 64 ∧ TrpsAt H T ts ∧ (∀ t ∈ ts, thB n t) ∧ ts.length ≤ 500 ∧
  PairsI H E eqs ∧ (∀ e ∈ eqs, e.1 < n ∧ e.2 < n) ∧ ∀ (W R M : Addr) (out : List Nat) (m : Nat) (ms : List V) (H' : Hp), Same H H' → H' W = some (.tup [.ref R, .ref M]) → H' R = some (.lst (intsV out)) → H' M = some (.lst ms) → ClOut eqs (imsF z b n ts) n out m → Q (.ref W) H'
def intsD (cs : List Nat) : PyData := .list (cs.map fun n : Nat => PyData.int (n : Int))
theorem dp_intsV {K : PySem.W.Frag} {H : Hp} : ∀ cs : List Nat, DpAll K H (intsV cs) (cs.map fun n : Nat => PyData.int (n : Int))
  | [] => .nil
  | n :: ns => .cons (.int n) (dp_intsV ns)
theorem dp_intsL {K : PySem.W.Frag} {H : Hp} {l : Addr} {cs : List Nat} (h : H l = some (.lst (intsV cs))) : Dp K H (.ref l) (intsD cs) := .lst (SqL.of h) (dp_intsV cs)
theorem nats_eqv : ∀ a b : List Nat, PyData.eqvAll (a.map fun n : Nat => PyData.int (n : Int)) (b.map fun n : Nat => PyData.int (n : Int)) = decide (a = b)
  | [], [] => by simp [PyData.eqvAll]
  | [], _ :: _ => by simp [PyData.eqvAll]
  | _ :: _, [] => by simp [PyData.eqvAll]
  | x :: a, y :: b => by
    simp only [List.map_cons, PyData.eqvAll, PyData.eqv, nats_eqv a b]
    by_cases h : x = y
    · subst h
      simp
    · simp [h]
      exact fun e => absurd (by omega) h
theorem intsD_eqv (a b : List Nat) : PyData.eqv (intsD a) (intsD b) = decide (a = b) := by
  simp only [intsD, PyData.eqv]
  exact nats_eqv a b
theorem nats_lay : ∀ ns : List Nat, PyData.canLayAll0 (ns.map fun n : Nat => PyData.int (n : Int)) = true
  | [] => by simp [PyData.canLayAll0]
  | n :: ns => by
    rw [List.map_cons]
    simp only [PyData.canLayAll0, PyData.canLay0, Bool.and_eq_true]
    exact ⟨by simp, nats_lay ns⟩
theorem nats_depth : ∀ ns : List Nat, PyData.depthAll (ns.map fun n : Nat => PyData.int (n : Int)) = 0
  | [] => by simp [PyData.depthAll]
  | n :: ns => by
    have h := nats_depth ns
    simp only [List.map_cons, PyData.depthAll, PyData.depth, h]
    rfl
theorem shaped_ints (cs : List Nat) : SeqAt.shaped (intsD cs) = true := by
  show (PyData.canLay0 (.list (cs.map fun n : Nat => PyData.int (n : Int))) && decide (PyData.depth (.list (cs.map fun n : Nat => PyData.int (n : Int))) ≤ 64)) = true
  rw [Bool.and_eq_true]
  exact ⟨by simp only [PyData.canLay0]; exact nats_lay cs, decide_eq_true (by simp only [PyData.depth, nats_depth]; omega)⟩
theorem rg_ints (n : Nat) : rgV 0 (n : Int) = intsV (List.range n) := by
  unfold rgV intsV
  rw [show ((n : Int) - 0).toNat = n by omega]
  refine List.map_congr_left fun i _ => ?_
  rw [Int.zero_add]
def eqF (eqs : List (Nat × Nat)) (n i : Nat) : List Nat := initF n (eqs.take i)
theorem eqF_next {eqs : List (Nat × Nat)} {n i : Nat} {e : Nat × Nat} (h : eqs[i]? = some e) : eqF eqs n (i + 1) = mergeC (eqF eqs n i) e.1 e.2 := by
  unfold eqF initF
  rw [get_take h, List.foldl_append]
  rfl
theorem eqF_len (eqs : List (Nat × Nat)) (n i : Nat) : (eqF eqs n i).length = n := by
  unfold eqF initF
  generalize eqs.take i = l
  have go : ∀ (l : List (Nat × Nat)) (cs : List Nat), (l.foldl (fun cs e => mergeC cs e.1 e.2) cs).length = cs.length := fun l => by
    induction l with
    | nil => exact fun cs => rfl
    | cons e l ih => exact fun cs => by rw [List.foldl_cons, ih, mergeC_len]
  rw [go, List.length_range]
theorem ims_bd {z : Str} {b : Bool} {n : Nat} {ts : List Trp} (h : ∀ t ∈ ts, thB n t) : ∀ t ∈ imsF z b n ts, thB n t := fun t ht => by
  unfold imsF at ht
  rcases List.mem_append.mp ht with ht | ht
  · cases b with
    | false => cases ht
    | true =>
      obtain ⟨i, hi, rfl⟩ := List.mem_map.mp ht
      have := List.mem_range.mp hi
      exact ⟨this, this, this⟩
  · obtain ⟨s, hs, ht⟩ := List.mem_flatMap.mp ht
    obtain ⟨u, _, rfl⟩ := List.mem_map.mp ht
    exact imgT_bd (h s hs) u
theorem ims_len {z : Str} (hz : wordsD.contains z = true) {b : Bool} {n : Nat} {ts : List Trp} : (imsF z b n ts).length ≤ n + 6 * ts.length := by
  have h6 := lots_len6 z (List.contains_iff_mem.mp hz)
  unfold imsF
  rw [List.length_append]
  have h1 : (if b = true then (List.range n).map fun i => ((i, i, i) : Trp) else []).length ≤ n := by
    split
    · rw [List.length_map, List.length_range]
      exact Nat.le_refl _
    · exact Nat.zero_le _
  have h2 : ∀ ts : List Trp, (ts.flatMap fun t => (lotOf z).map (imgT t)).length ≤ 6 * ts.length := fun ts => by
    induction ts with
    | nil => exact Nat.le_refl _
    | cons t ts ih =>
      rw [List.flatMap_cons, List.length_append, List.length_map, List.length_cons]
      omega
  have := h2 ts
  omega
/-- the first images -/
def calmP (b : Bool) (i : Nat) : List Trp := if b = true then (List.range i).map fun i => (i, i, i) else []
theorem calmP_next (b : Bool) (i : Nat) : calmP b (i + 1) = calmP b i ++ (if b = true then [(i, i, i)] else []) := by
  unfold calmP
  cases b
  · rfl
  · rw [if_pos rfl, if_pos rfl, if_pos rfl, List.range_succ, List.map_append]
    rfl
theorem calmP_len (b : Bool) (i : Nat) : (calmP b i).length ≤ i := by
  unfold calmP
  split
  · rw [List.length_map, List.length_range]
    exact Nat.le_refl _
  · exact Nat.zero_le _
theorem ImgsAt.same {H G : Hp} {I : Addr} {ims : List Trp} (h : ImgsAt H I ims) (s : Same H G) : ImgsAt G I ims := let ⟨qs, a, b⟩ := h; ⟨qs, s _ _ a, paired_imp (fun _ _ e => ImgAt.tup e fun b xs e => s _ _ e) b⟩
/-- a list of images grows by one at its end -/
theorem ImgsAt.snoc {H G : Hp} {R : Addr} {ims : List Trp} {qs : List Addr} {q : Addr} {t : Trp} (p : Paired (ImgAt H) qs ims) (h : ImgAt G q t) (k : ∀ b xs, H b = some (.tup xs) → G b = some (.tup xs)) (eR : ∃ xs, G R = some (.lst xs)) : ImgsAt (upd G R (.lst (qs.map V.ref ++ [.ref q]))) R (ims ++ [t]) := by
  obtain ⟨xs, eR⟩ := eR
  have k2 : ∀ b ys, G b = some (.tup ys) → (upd G R (.lst (qs.map V.ref ++ [.ref q]))) b = some (.tup ys) := fun b ys e => by
    rw [upd_ne (ne_of e eR (by intro z; cases z))]
    exact e
  exact ⟨qs ++ [q], by rw [upd_same, List.map_append]; rfl, paired_app (paired_imp (fun _ _ e => (ImgAt.tup e k).tup k2) p) (.cons (h.tup k2) .nil)⟩
/-- numbered keys -/
def numG (ks : List Key) (i : Nat) : List (Key × V) := (List.range i).map fun j => (ks.getD j (Sum.inl 0), V.int (j : Int))
theorem numG_succ (ks : List Key) (i : Nat) : numG ks (i + 1) = numG ks i ++ [(ks.getD i (Sum.inl 0), V.int (i : Int))] := by
  unfold numG
  rw [List.range_succ, List.map_append]
  rfl
theorem getD_at {ks : List Key} {i : Nat} (hi : i < ks.length) : ks.getD i (Sum.inl 0) = ks[i] := by
  rw [List.getD_eq_getElem?_getD, List.getElem?_eq_getElem hi]
  rfl
theorem numG_none {ks : List Key} (nd : ks.Nodup) {i : Nat} (hi : i < ks.length) : valV (numG ks i) (ks.getD i (Sum.inl 0)) = none := by
  unfold valV
  rw [Option.map_eq_none_iff, List.find?_eq_none]
  intro p hp
  obtain ⟨j, hj, rfl⟩ := List.mem_map.mp hp
  have hj := List.mem_range.mp hj
  intro e
  have e := of_decide_eq_true e
  dsimp only at e
  rw [getD_at hi, getD_at (by omega)] at e
  have := (List.getElem_inj nd).mp e
  omega
theorem numG_val {ks : List Key} (nd : ks.Nodup) {n i : Nat} (hi : i < n) (hn : n ≤ ks.length) : valV (numG ks n) (ks.getD i (Sum.inl 0)) = some (V.int (i : Int)) := by
  induction n with
  | zero => omega
  | succ n ih =>
    rw [numG_succ, valV_snoc _ _ _ _ (numG_none nd (by omega))]
    by_cases e : i = n
    · rw [if_pos (by rw [e]), e]
    · rw [if_neg, ih (by omega) (by omega)]
      intro z
      rw [getD_at (by omega), getD_at (by omega)] at z
      exact e ((List.getElem_inj nd).mp z)
def rankF (ns : List Int) (c : Nat) : Nat := ns.findIdx fun x => decide (x = (c : Int))
theorem rank_at {ns : List Int} {c : Nat} (h : (c : Int) ∈ ns) : ∃ hl : rankF ns c < ns.length, ns[rankF ns c] = (c : Int) := by
  have lt : rankF ns c < ns.length := List.findIdx_lt_length_of_exists ⟨_, h, decide_eq_true rfl⟩
  exact ⟨lt, of_decide_eq_true (List.findIdx_getElem (w := lt) (p := fun x : Int => decide (x = (c : Int))))⟩
theorem g0_mem {cs : List Nat} {i : Nat} (h : i < cs.length) : g0 cs i ∈ cs := by
  unfold g0
  rw [List.getD_eq_getElem?_getD, List.getElem?_eq_getElem h]
  exact List.getElem_mem h
theorem g0_map {cs : List Nat} {f : Nat → Nat} {i : Nat} (h : i < cs.length) : g0 (cs.map f) i = f (g0 cs i) := by
  unfold g0
  rw [List.getD_eq_getElem?_getD, List.getD_eq_getElem?_getD, List.getElem?_map, List.getElem?_eq_getElem h]
  rfl
theorem clout {eqs : List (Nat × Nat)} {im : List Trp} {n : Nat} {cs : List Nat} (he : ∀ e ∈ eqs, e.1 < n ∧ e.2 < n) (bd : ∀ t ∈ im, thB n t) (h : Clo eqs im n cs) (hf : passF im cs = cs) {ns : List Int} (nd : ns.Nodup) (mem : ∀ k : Int, k ∈ ns ↔ k ∈ cs.map fun c : Nat => (c : Int)) :
    ClOut eqs im n (cs.map (rankF ns)) ns.length := by
  have L := h.cls.len
  have inn : ∀ i, i < n → ((g0 cs i : Nat) : Int) ∈ ns := fun i hi => (mem _).mpr (List.mem_map.mpr ⟨_, g0_mem (by omega), rfl⟩)
  refine ⟨by rw [List.length_map]; exact L, fun i hi => ?_, fun k hk => ?_, fun i j hi hj => ?_⟩
  · rw [g0_map (by omega)]
    exact (rank_at (inn i hi)).1
  · obtain ⟨c, hc, e⟩ := List.mem_map.mp ((mem _).mp (List.getElem_mem hk))
    obtain ⟨i, hi, rfl⟩ := List.getElem_of_mem hc
    have eg : g0 cs i = cs[i] := by unfold g0; rw [List.getD_eq_getElem?_getD, List.getElem?_eq_getElem hi]; rfl
    refine ⟨i, by omega, ?_⟩
    rw [g0_map hi, eg]
    obtain ⟨hl, e2⟩ := rank_at (ns := ns) (c := cs[i]) (by rw [e]; exact List.getElem_mem hk)
    exact (List.getElem_inj nd).mp (e2.trans e)
  · rw [g0_map (by omega), g0_map (by omega), ← h.iff he bd hf hi hj]
    constructor
    · intro e
      obtain ⟨h1, e1⟩ := rank_at (inn i hi)
      obtain ⟨h2, e2⟩ := rank_at (inn j hj)
      have e3 : ns[rankF ns (g0 cs i)] = ns[rankF ns (g0 cs j)] := by simp only [e]
      rw [e1, e2] at e3
      omega
    · intro e
      rw [e]
/-- between two turns of the closing -/
structure WhI (H : Hp) (M I : Addr) (ims : List Trp) (eqs : List (Nat × Nat)) (n : Nat) (G : Hp) (Cc Bc : Addr) (cs bs : List Nat) (ms : List V) (m : Nat) : Prop where
  sH : Same H G
  eC : G Cc = some (.lst (intsV cs))
  eB : G Bc = some (.lst (intsV bs))
  im : ImgsAt G I ims
  eM : G M = some (.lst ms)
  nCM : Cc ≠ M
  clo : Clo eqs ims n cs
  bk : bs = [] ∨ passF ims bs = cs
  mm : m = if cs = bs then 0 else mu n cs + 1
  ml : ms.length + 3 * ims.length * m ≤ 3 * ims.length * (n + 1)
theorem WhI.next {H G G' : Hp} {M I Cc Bc R : Addr} {ims : List Trp} {eqs : List (Nat × Nat)} {n : Nat} {cs bs : List Nat} {ms ms' : List V} {m : Nat} (h : WhI H M I ims eqs n G Cc Bc cs bs ms m) (bd : ∀ t ∈ ims, thB n t) (nMH : H M = none) (nIM : I ≠ M) (c : ¬ cs = bs) (sb : SameB M G G') (hR : R = Cc ∨ G R = none) (eR : G' R = some (.lst (intsV (passF ims cs)))) (eM' : G' M = some (.lst ms')) (lm : ms'.length ≤ ms.length + 3 * ims.length) :
    ∃ m', m' < m ∧ WhI H M I ims eqs n G' R Cc (passF ims cs) cs ms' m' := by
  obtain ⟨c1, c2⟩ := h.clo.pass bd
  have em : m = mu n cs + 1 := by rw [h.mm, if_neg c]
  have lt : (if passF ims cs = cs then 0 else mu n (passF ims cs) + 1) < m := by
    rw [em]
    split
    · omega
    · rename_i ne
      rcases c2 with e | e
      · exact absurd e ne
      · omega
  refine ⟨_, lt, fun b o e => sb b o (ne_of_none e nMH) (h.sH _ _ e), eR, sb _ _ h.nCM h.eC, ?_, eM', ?_, c1, .inr rfl, rfl, ?_⟩
  · obtain ⟨qs, a, b⟩ := h.im
    exact ⟨qs, sb _ _ nIM a, paired_imp (fun _ _ e => ImgAt.tup e fun x xs ex => sb _ _ (ne_of ex h.eM (by intro z; cases z)) ex) b⟩
  · rcases hR with rfl | hR
    · exact h.nCM
    · intro z
      rw [z, h.eM] at hR
      cases hR
  · have ml := h.ml
    have key : 3 * ims.length * ((if passF ims cs = cs then 0 else mu n (passF ims cs) + 1) + 1) ≤ 3 * ims.length * m := Nat.mul_le_mul_left _ lt
    rw [Nat.mul_add, Nat.mul_one] at key
    omega
section
variable {P : Program} {w : World} {K : PySem.W.Frag} {mg : Str → Option Value} {base : Heap} {f : Addr} {fd : FuncData} {C dL CT CF : Addr} {es : Array DictEntry} {n9 : Nat}
theorem c_tclosed (T : Bt mg) (mset : mg "set" = none) (KF : KiF P w K mg base C dL CT CF es n9) (PK : PrpM P w K mg base C "calm" 1 (spKcalm C)) (PL9 : PrpM P w K mg base C "lot" 1 (spKlot K C)) (k_merged : Cal P w K mg base 2 "merged" spMerged) (k_turned : Cal P w K mg base 1 "turned" (spTurned K)) (k_merged_once : Cal P w K mg base 3 "_merged_once" spMergedOnce)
    (F : FnP K "closed" s_tclosed f fd) (hm : mg "closed" = some (.ref f)) : Cal P w K mg base 6 "closed" (spTclosed C) := by
  have hnd := sc_tclosed.nd
  obtain ⟨pc, gc, fdc, PC9, FC9, BC9⟩ := PK
  obtain ⟨pl, gl, fdl, PL, FL, BL⟩ := PL9
  refine cal_mk F hm sc_tclosed (fun _ _ _ _ _ _ us hl => match us, hl with | [_, _, _, _], _ => rfl) (fun vs H Q E h => ?_) (fun cdv A outer s H vs Q E hr h => ?_)
  · obtain ⟨k, T9, E9, n, z, b, ts, eqs, rfl, _⟩ := h
    rfl
  · obtain ⟨k, T9, E9, n, z, b, ts, eqs, rfl, hk, hz, n0, n64, ⟨tq, eT, pT⟩, bT, fewT, ⟨ea, eE, pE⟩, bE, q⟩ := h
    refine ⟨_, (pss_cons (ps_set (i := 4) hnd rfl (by first | exact Or.inl rfl | exact Or.inr rfl) (pe_listRg (by rfl) (by rfl) T.m_list (prg_1 (by rfl) T.m_range (pv 1))))
      (pss_cons (ps_for PassesOwn.never (by rfl) (pi_list (pv 3)) (pg_tup (by rfl) (pgs_cons (pg_name (i := 5) hnd rfl (by first | exact Or.inl rfl | exact Or.inr rfl)) (pgs_cons (pg_name (i := 6) hnd rfl (by first | exact Or.inl rfl | exact Or.inr rfl)) pgs_nil)))
      (pss_one (ps_set (i := 4) hnd rfl (by first | exact Or.inl rfl | exact Or.inr rfl) (pe_cal k_merged hr (by omega) (by rfl) (pa_cons (pv 4) (pa_cons (pv 5) (pa_cons (pv 6) pa_nil)))))))
      (pss_cons (ps_setLc (i := 8) (own := [("thing", 7)]) (by rfl) hnd rfl (by rfl) (sw_true rfl rfl rfl (by decide +kernel)) (pi_range1 (by rfl) T.m_range (pa_cons (pv 1) pa_nil)) (blkOk_by (own := [("thing", 7)]) (N := N_tclosed) (sc := defScope s_tclosed) (by decide +kernel)) (fun _ _ _ _ _ => (pg_name (i := 7) hnd rfl (by first | exact Or.inl rfl | exact Or.inr rfl))) (fun _ _ _ _ _ => (pts_one (pt_val (pe_prop (E := L2.E0) (pv 0) KF.cls PC9 FC9 (hr.mono (by omega)) BC9 .nil (fun _ _ _ _ _ _ _ h => h.elim) (by rfl))))) (fun _ _ _ _ _ => (pe_tup (pa_cons pe_non (pa_cons pe_non (pa_cons (pe_tup (pa_cons (pv 7) (pa_cons (pv 7) (pa_cons (pv 7) pa_nil)))) pa_nil))))))
      (pss_cons (ps_set (i := 8) hnd rfl (by first | exact Or.inl rfl | exact Or.inr rfl) (pe_op op_cat (pv 8) (pe_lc2 (own := [("index", 9), ("triple", 10), ("turn", 11)]) (vs1 := [11]) (tt := tYes) (tt1 := tYes) (g := (gTup K 2 (gCons (gName 9) (gCons (gName 10) gNil)))) (g1 := (gName 11)) (wi1 := iTup K _) (by rfl) hnd (pi_enum (by rfl) T.m_enumerate (pa_cons (pv 2) pa_nil)) (blkOk_by (own := [("index", 9), ("triple", 10), ("turn", 11)]) (N := N_tclosed) (sc := defScope s_tclosed) (by decide +kernel)) (by decide) (fun _ _ _ _ _ => (pg_tup (by rfl) (pgs_cons (pg_name (i := 9) hnd rfl (by first | exact Or.inl rfl | exact Or.inr rfl)) (pgs_cons (pg_name (i := 10) hnd rfl (by first | exact Or.inl rfl | exact Or.inr rfl)) pgs_nil)))) (fun _ _ _ _ _ => pts_nil) (fun _ _ _ _ _ => (pi_tup (pe_prop (E := L2.E0) (pv 0) KF.cls PL FL (hr.mono (by omega)) BL .nil (fun _ _ _ _ _ _ _ h => h.elim) (by rfl)))) (fun _ _ _ _ _ => (pg_name (i := 11) hnd rfl (by first | exact Or.inl rfl | exact Or.inr rfl))) (fun _ _ _ _ _ => pts_nil) (fun _ _ _ _ _ => (pe_tup (pa_cons (pv 9) (pa_cons (pv 11) (pa_cons (pe_cal k_turned hr (by omega) (by rfl) (pa_cons (pv 10) (pa_cons (pv 11) pa_nil))) pa_nil))))))))
      (pss_cons (ps_set (i := 12) hnd rfl (by first | exact Or.inl rfl | exact Or.inr rfl) (pe_lst pa_nil))
      (pss_cons (ps_set (i := 13) hnd rfl (by first | exact Or.inl rfl | exact Or.inr rfl) (pe_lst pa_nil))
      (pss_cons (ps_while PassesOwn.never (pt_cmpR (show OpR _ (compareOp .NotEq) (rNeD K) from op_neD hr.units) (pv 4) (pv 13) (nomark _))
      (pss_cons (ps_set (i := 13) hnd rfl (by first | exact Or.inl rfl | exact Or.inr rfl) (pv 4))
      (pss_one (ps_set (i := 4) hnd rfl (by first | exact Or.inl rfl | exact Or.inr rfl) (pe_cal k_merged_once hr (by omega) (by rfl) (pa_cons (pv 4) (pa_cons (pv 8) (pa_cons (pv 12) pa_nil))))))))
      (pss_cons (ps_set (i := 16) hnd rfl (by first | exact Or.inl rfl | exact Or.inr rfl) (pe_dc (own := [("number", 14), ("name", 15)]) (tt := tYes) (g := (gTup K 2 (gCons (gName 14) (gCons (gName 15) gNil)))) (by rfl) hnd (pi_enum (by rfl) T.m_enumerate (pa_cons (pe_callB (show CallR _ (.builtin "sorted") (rSortedSet w) from cr_sortedSet (by rfl)) (by rfl) T.m_sorted (by decide +kernel) (pa_cons (pe_callTy (show CallR _ (.type "set") (rSetLI K w) from cr_setLI (by rfl)) (by rfl) mset (by decide +kernel) (pa_cons (pv 4) pa_nil)) pa_nil)) pa_nil)) (blkOk_by (own := [("number", 14), ("name", 15)]) (N := N_tclosed) (sc := defScope s_tclosed) (by decide +kernel)) (fun _ _ _ _ _ => (pg_tup (by rfl) (pgs_cons (pg_name (i := 14) hnd rfl (by first | exact Or.inl rfl | exact Or.inr rfl)) (pgs_cons (pg_name (i := 15) hnd rfl (by first | exact Or.inl rfl | exact Or.inr rfl)) pgs_nil)))) (fun _ _ _ _ _ => pts_nil) (fun _ _ _ _ _ => (pv 15)) (fun _ _ _ _ _ => (pv 14))))
      (pss_one (ps_ret (pe_tup (pa_cons (pe_lc (own := [("name", 15)]) (tt := tYes) (by rfl) hnd (pi_list (pv 4)) (blkOk_by (own := [("name", 15)]) (N := N_tclosed) (sc := defScope s_tclosed) (by decide +kernel)) (fun _ _ _ _ _ => (pg_name (i := 15) hnd rfl (by first | exact Or.inl rfl | exact Or.inr rfl))) (fun _ _ _ _ _ => pts_nil) (fun _ _ _ _ _ => (pe_dget (Nat.lt_of_le_of_lt (Nat.add_le_add_left (by decide) _) hr.units) (pv 16) (pv 15) (fun _ _ => rfl)))) (pa_cons (pv 12) pa_nil))))))))))))), ?_⟩
    refine ⟨_, rfl, _, rfl, RgOk.of_le (by omega) (by omega) (by omega) (by omega), fun C0 nC0 => gname_go ?_⟩
    rw [rg_ints]
    have s0 := same_new (o := .lst (intsV (List.range n))) nC0
    have eC0 : (upd H C0 (.lst (intsV (List.range n)))) C0 = some (.lst (intsV (eqF eqs n 0))) := upd_same
    generalize upd H C0 (.lst (intsV (List.range n))) = G0 at s0 eC0 ⊢
    refine ⟨_, rfl, E9, rfl, ⟨_, SqL.of (s0 _ _ eE)⟩, ?_⟩
    have lea := pE.length
    refine for_it (walk_list (K := K) (a := E9) (xs := ea.map V.ref)) (fun i σ' G => ∃ (Cc : Addr) (x5 x6 : Option V), σ' = [some (.ref k), some (.int (n : Nat)), some (.ref T9), some (.ref E9), some (.ref Cc), x5, x6, none, none, none, none, none, none, none, none, none, none] ∧ Same H G ∧ G Cc = some (.lst (intsV (eqF eqs n i))))
      ⟨C0, _, _, rfl, s0, eC0⟩ (fun i σ' G _ h => by obtain ⟨_, _, _, _, s1, _⟩ := h; exact SqL.of (s1 _ _ eE)) ?_ ?_
    · rintro i x σ' G G' hi ⟨Cc, x5, x6, rfl, sG, eC⟩ ⟨rfl, hx⟩
      rw [List.length_map] at hi
      have h1 : ea[i]? = some ea[i] := List.getElem?_eq_getElem hi
      have h2 : eqs[i]? = some (eqs[i]'(by omega)) := List.getElem?_eq_getElem (by omega)
      generalize ea[i] = a0 at h1
      generalize (eqs[i]'(by omega)) = e0 at h2
      rw [List.getElem?_map, h1] at hx
      obtain rfl := Option.some.inj hx
      have ha : H a0 = some (.tup [.int (e0.1 : Nat), .int (e0.2 : Nat)]) := paired_get2 pE i _ _ h1 h2
      obtain ⟨b1, b2⟩ := bE e0 (List.mem_of_getElem? h2)
      have le := eqF_len eqs n i
      refine ⟨a0, _, rfl, SqT.of (sG _ _ ha), rfl, _, _, rfl, _, _, rfl, rfl, ?_⟩
      refine ⟨_, rfl, _, rfl, _, rfl, Cc, _, e0.1, e0.2, rfl, eC, by omega, by omega, by omega, fun R G1 s1 nR eR => gname_go ⟨R, _, _, rfl, sG.trans s1, by rw [eqF_next h2]; exact eR⟩⟩
    · rintro σ' G ⟨Cc, x5, x6, rfl, sG, eC⟩
      rw [List.length_map, lea, show eqF eqs n eqs.length = initF n eqs from by unfold eqF; rw [List.take_length]] at eC
      -- the calm images
      have nJ : (((n : Nat) : Int)).toNat = n := by omega
      refine ⟨_, rfl, _, rfl, by omega, by omega, fun I1 nI1 => ?_⟩
      refine lc_it (walk_range (lo := 0) (n := ((n : Nat) : Int).toNat)) (fun i G1 => Same G G1 ∧ ImgsAt G1 I1 (calmP b i)) ⟨same_new nI1, ⟨[], upd_same, by unfold calmP; cases b <;> exact .nil⟩⟩ (fun _ _ _ _ => trivial) ?_ ?_
      · rintro i x G1 G1' hi ⟨sG1, qs1, eI1, pI1⟩ ⟨rfl, rfl⟩
        rw [nJ] at hi
        refine ⟨rfl, ?_⟩
        dsimp only
        rw [Int.zero_add]
        obtain ⟨dx, ek⟩ := hk
        have ek1 := sG1 _ _ (sG _ _ ek)
        refine ⟨_, rfl, k, dx, _, rfl, ek1, k, z, b, rfl, ⟨dx, ek1⟩, b, rfl, ?_⟩
        have nxt := calmP_next b i
        have cl := calmP_len b i
        have lq1 := pI1.length
        cases b with
        | false =>
          dsimp only
          rw [if_neg (by decide)]
          exact ⟨sG1, by rw [nxt]; exact ⟨qs1, eI1, (List.append_nil (calmP false i)).symm ▸ pI1⟩⟩
        | true =>
          dsimp only
          rw [if_pos rfl] at nxt ⊢
          refine ⟨_, rfl, _, rfl, _, rfl, Nat.le_of_ble_eq_true rfl, fun q1 n1 => ⟨Nat.le_of_ble_eq_true rfl, fun q2 n2 => ?_⟩⟩
          have y1 := same_new (o := .tup [.int (i : Nat), .int (i : Nat), .int (i : Nat)]) n1
          have f1 : TrpAt (upd G1' q1 (.tup [.int (i : Nat), .int (i : Nat), .int (i : Nat)])) q1 (i, i, i) := upd_same
          generalize upd G1' q1 (.tup [.int (i : Nat), .int (i : Nat), .int (i : Nat)]) = G2 at y1 f1 n2 ⊢
          have y2 := same_new (o := .tup [V.non, V.non, .ref q1]) n2
          have f2 : ImgAt (upd G2 q2 (.tup [V.non, V.non, .ref q1])) q2 (i, i, i) := ⟨_, _, q1, upd_same, y2 _ _ f1⟩
          generalize upd G2 q2 (.tup [V.non, V.non, .ref q1]) = G3 at y2 f2 ⊢
          have y := y1.trans y2
          refine ⟨_, y _ _ eI1, by rw [List.length_map, lq1, sizeLine_eq]; omega, same_pt nI1 (sG1.trans y), ?_⟩
          rw [nxt]
          exact ImgsAt.snoc pI1 f2 (fun b xs e => y _ _ e) ⟨_, y _ _ eI1⟩
      · rintro G1 ⟨sG1, qs1, eI1, pI1⟩
        rw [nJ] at pI1
        have sA := sG.trans sG1
        have eC1 := sG1 _ _ eC
        have l1 : qs1.length ≤ n := by rw [pI1.length]; exact calmP_len b n
        refine gname_go ?_
        try dsimp only
        -- the images of the triples
        refine ⟨_, rfl, _, rfl, T9, _, rfl, SqL.of (sA _ _ eT), fun I2 nI2 => ?_⟩
        have ltq := pT.length
        obtain ⟨dx, ek⟩ := hk
        refine it_go (walk_enum (K := K) (a := T9) (xs := tq.map V.ref)) (fun i G2 => Same G1 G2 ∧ ImgsAt G2 I2 ((ts.take i).flatMap fun t => (lotOf z).map (imgT t))) ⟨same_new nI2, ⟨[], upd_same, .nil⟩⟩ (fun i G2 _ h => SqL.of (h.1 _ _ (sA _ _ eT))) ?_ ?_
        · rintro i x G2 G2' hi ⟨sG2, qs2, eI2, pI2⟩ ⟨T', u, v, rfl, nT, rfl, hu, hv⟩
          rw [List.length_map] at hi
          have h1 : tq[i]? = some tq[i] := List.getElem?_eq_getElem hi
          have h2 : ts[i]? = some (ts[i]'(by omega)) := List.getElem?_eq_getElem (by omega)
          generalize tq[i] = a0 at h1
          generalize (ts[i]'(by omega)) = t0 at h2
          dsimp only at hu hv
          rw [List.getElem?_map, h1] at hv
          obtain rfl := Option.some.inj hv
          obtain rfl := Option.some.inj hu
          have y1 := same_new (o := .tup [V.int (i : Int), V.ref a0]) nT
          have f1 : (upd G2 T' (.tup [V.int (i : Int), V.ref a0])) T' = some (.tup [V.int (i : Int), V.ref a0]) := upd_same
          generalize upd G2 T' (.tup [V.int (i : Int), V.ref a0]) = G3 at y1 f1 ⊢
          have ek3 := y1 _ _ (sG2 _ _ (sA _ _ ek))
          refine ⟨T', _, rfl, SqT.of f1, rfl, _, _, rfl, _, _, rfl, rfl, rfl, ?_⟩
          unfold tYes
          dsimp only
          rw [if_pos rfl]
          refine ⟨_, rfl, k, dx, _, rfl, ek3, k, z, b, rfl, ⟨dx, ek3⟩, hz, fun lp hlp => ?_⟩
          obtain ⟨us, e2, p2⟩ := hlp
          have lus := p2.length
          have l6 := lots_len6 z (List.contains_iff_mem.mp hz)
          have okz := fun u hu => List.all_eq_true.mp (lots_okU z (List.contains_iff_mem.mp hz)) u hu
          have pfx : (ts.take (i + 1)).flatMap (fun t => (lotOf z).map (imgT t)) = (ts.take i).flatMap (fun t => (lotOf z).map (imgT t)) ++ (lotOf z).map (imgT t0) := by
            rw [get_take h2, List.flatMap_append, List.flatMap_cons, List.flatMap_nil, List.append_nil]
          have lpf : ((ts.take i).flatMap fun t => (lotOf z).map (imgT t)).length ≤ 3000 := by
            have h9 : ∀ l : List Trp, (l.flatMap fun t => (lotOf z).map (imgT t)).length ≤ 6 * l.length := fun l => by
              induction l with
              | nil => exact Nat.le_refl _
              | cons t l ih =>
                rw [List.flatMap_cons, List.length_append, List.length_map, List.length_cons]
                omega
            have := h9 (ts.take i)
            rw [List.length_take] at this
            omega
          rw [pfx]
          generalize (ts.take i).flatMap (fun t => (lotOf z).map (imgT t)) = pre at pI2 lpf
          refine ⟨lp, rfl, ⟨_, e2 _⟩, ?_⟩
          dsimp only
          refine it_go (walk_tup (K := K) (a := lp) (xs := us.map V.ref)) (fun j G4 => Same G1 G4 ∧ ImgsAt G4 I2 (pre ++ ((lotOf z).take j).map (imgT t0))) ⟨sG2.trans y1, qs2, y1 _ _ eI2, by rw [List.take_zero, List.map_nil, List.append_nil]; exact paired_imp (fun _ _ e => ImgAt.tup e fun b xs e => y1 _ _ e) pI2⟩ (fun _ _ _ _ => e2 _) ?_ ?_
          · rintro j x G4 G4' hj ⟨sG4, qs4, eI4, pI4⟩ ⟨rfl, hx⟩
            rw [List.length_map] at hj
            have h3 : us[j]? = some us[j] := List.getElem?_eq_getElem hj
            have h4 : (lotOf z)[j]? = some ((lotOf z)[j]'(by omega)) := List.getElem?_eq_getElem (by omega)
            generalize us[j] = ua at h3
            generalize ((lotOf z)[j]'(by omega)) = u at h4
            rw [List.getElem?_map, h3] at hx
            obtain rfl := Option.some.inj hx
            have hu := paired_get2 p2 j _ _ h3 h4
            have sA4 : SqT K G4' a0 (tV t0) := SqT.of (sG4 _ _ (sA _ _ (paired_get2 pT i _ _ h1 h2)))
            refine ⟨rfl, ?_⟩
            rw [if_pos rfl]
            refine ⟨_, rfl, _, rfl, _, rfl, _, rfl, a0, ua, t0, u, rfl, sA4, hu _, okz u (List.mem_of_getElem? h4), fun R G5 s5 tR => ⟨Nat.le_of_ble_eq_true rfl, fun q2 n2 => ?_⟩⟩
            have y2 := same_new (o := .tup [V.int (i : Int), V.ref ua, .ref R]) n2
            have f2 : ImgAt (upd G5 q2 (.tup [V.int (i : Int), V.ref ua, .ref R])) q2 (imgT t0 u) := ⟨_, _, R, upd_same, y2 _ _ tR⟩
            generalize upd G5 q2 (.tup [V.int (i : Int), V.ref ua, .ref R]) = G6 at y2 f2 ⊢
            have y := s5.trans y2
            have l4 := pI4.length
            rw [List.length_append, List.length_map, List.length_take] at l4
            refine ⟨_, y _ _ eI4, by rw [List.length_map, sizeLine_eq]; omega, same_pt nI2 (sG4.trans y), ?_⟩
            rw [get_take h4, List.map_append, ← List.append_assoc]
            exact ImgsAt.snoc pI4 f2 (fun b xs e => y _ _ e) ⟨_, y _ _ eI4⟩
          · rintro G4 ⟨sG4, iG4⟩
            rw [List.length_map, lus, List.take_length] at iG4
            exact ⟨sG4, iG4⟩
        · rintro G2 ⟨sG2, qs2, eI2, pI2⟩
          rw [List.length_map, ltq, List.take_length] at pI2
          have l2 : qs2.length ≤ 6 * ts.length := by
            have h9 := ims_len hz (b := false) (n := 0) (ts := ts)
            have l3 := pI2.length
            unfold imsF at h9
            rw [if_neg (by decide), List.nil_append] at h9
            omega
          have eI1' := sG2 _ _ eI1
          refine ⟨I1, I2, _, _, rfl, rfl, eI1', eI2, by rw [List.length_map, List.length_map, sizeLine_eq]; omega, fun I3 nI3 => gname_go ?_⟩
          have y3 := same_new (o := .lst (qs1.map V.ref ++ qs2.map V.ref)) nI3
          have hI : ImgsAt (upd G2 I3 (.lst (qs1.map V.ref ++ qs2.map V.ref))) I3 (imsF z b n ts) := ⟨qs1 ++ qs2, by rw [upd_same, List.map_append], paired_app (paired_imp (fun _ _ e => ImgAt.tup e fun b xs e => y3 _ _ (sG2 _ _ e)) pI1) (paired_imp (fun _ _ e => ImgAt.tup e fun b xs e => y3 _ _ e) pI2)⟩
          have eC3 := y3 _ _ (sG2 _ _ eC1)
          have sH3 := (sA.trans sG2).trans y3
          generalize upd G2 I3 (.lst (qs1.map V.ref ++ qs2.map V.ref)) = G3 at hI eC3 sH3 ⊢
          refine ⟨Nat.le_of_ble_eq_true rfl, fun M nM => gname_go ?_⟩
          have y4 := same_new (o := .lst []) nM
          have eM : (upd G3 M (.lst [])) M = some (.lst []) := upd_same
          have nMH : H M = none := none_back sH3 nM
          have nCM : Cc ≠ M := ne_of_none eC3 nM
          have nIM : I3 ≠ M := let ⟨_, e, _⟩ := hI; ne_of_none e nM
          have hI := hI.same y4
          have eC4 := y4 _ _ eC3
          have sH4 := sH3.trans y4
          generalize upd G3 M (.lst []) = G4 at eM hI eC4 sH4 ⊢
          refine ⟨Nat.le_of_ble_eq_true rfl, fun B nB => gname_go ?_⟩
          have y5 := same_new (o := .lst []) nB
          have eB : (upd G4 B (.lst [])) B = some (.lst (intsV [])) := upd_same
          have nBM : B ≠ M := Ne.symm (ne_of_none eM nB)
          have hI := hI.same y5
          have eC5 := y5 _ _ eC4
          have eM5 := y5 _ _ eM
          have sH5 := sH4.trans y5
          generalize upd G4 B (.lst []) = G5 at eB hI eC5 eM5 sH5 ⊢
          have bdI := ims_bd (z := z) (b := b) bT
          have lnI := ims_len hz (b := b) (n := n) (ts := ts)
          have c0 := Clo.start (im := imsF z b n ts) bE
          have cne : ∀ cs : List Nat, CsOk n cs → cs ≠ [] := fun cs h e => by
            have := h.len
            rw [e] at this
            simp only [List.length_nil] at this
            omega
          have mle := fun cs => mu_le n cs
          generalize imsF z b n ts = ims at hI bdI lnI c0 q
          refine ⟨fun m σ' G => ∃ (Cc Bc : Addr) (cs bs : List Nat) (ms : List V), σ' = [some (.ref k), some (.int (n : Nat)), some (.ref T9), some (.ref E9), some (.ref Cc), x5, x6, none, some (.ref I3), none, none, none, some (.ref M), some (.ref Bc), none, none, none] ∧ WhI H M I3 ims eqs n G Cc Bc cs bs ms m,
            ⟨_, Cc, B, initF n eqs, [], [], rfl, sH5, eC5, eB, hI, eM5, nCM, c0, .inl rfl, rfl, ?_⟩, ?_⟩
          · rw [List.length_nil, Nat.zero_add]
            refine Nat.mul_le_mul_left _ ?_
            split
            · omega
            · have := mle (initF n eqs)
              omega
          · rintro m σ' G ⟨Cc, Bc, cs, bs, ms, rfl, wi⟩
            have lcs := wi.clo.cls.len
            refine ⟨_, rfl, _, rfl, _, _, dp_intsL wi.eC, dp_intsL wi.eB, shaped_ints _, shaped_ints _, _, rfl, ?_⟩
            rw [intsD_eqv]
            by_cases c : cs = bs
            · rw [decide_eq_true c]
              dsimp only
              rw [if_neg (by decide)]
              have hf : passF ims cs = cs := by
                rcases wi.bk with e | e
                · exact absurd (c.trans e) (cne cs wi.clo.cls)
                · rw [← c] at e
                  exact e
              have eI : intsV cs = (cs.map fun c : Nat => (c : Int)).map V.int := by unfold intsV; rw [List.map_map]; rfl
              have eC9 := wi.eC
              rw [eI] at eC9
              try dsimp only
              refine ⟨_, rfl, Cc, cs.map fun c : Nat => (c : Int), rfl, SqL.of eC9, by rw [List.length_map]; omega, fun p c9 np hc9 => ?_⟩
              rw [List.length_map] at hc9
              have v1 := same_new (o := SetO w p (fun j => decide (j ∈ cs.map fun c : Nat => (c : Int))) c9) np
              have ep : (upd G p (SetO w p (fun j => decide (j ∈ cs.map fun c : Nat => (c : Int))) c9)) p = _ := upd_same
              generalize upd G p (SetO w p (fun j => decide (j ∈ cs.map fun c : Nat => (c : Int))) c9) = G6 at v1 ep ⊢
              refine ⟨p, _, c9, rfl, ep, by omega, fun ns L9 asc mem len nL9 => ?_⟩
              have mem : ∀ k : Int, k ∈ ns ↔ k ∈ cs.map fun c : Nat => (c : Int) := fun k => (mem k).trans (by rw [decide_eq_true_iff])
              have nd : ns.Nodup := asc.imp fun h => Int.ne_of_lt h
              have ndk : (ns.map fun x : Int => (Sum.inl x : Key)).Nodup := List.Pairwise.map _ (fun a b h z => h (by injection z)) nd
              have v2 := same_new (o := .lst (ns.map V.int)) nL9
              have eL9 : (upd G6 L9 (.lst (ns.map V.int))) L9 = _ := upd_same
              generalize upd G6 L9 (.lst (ns.map V.int)) = G7 at v2 eL9 ⊢
              refine ⟨L9, _, rfl, SqL.of eL9, fun D nD => ?_⟩
              refine it_go (walk_enum (K := K) (a := L9) (xs := ns.map V.int)) (fun i G8 => Same G7 G8 ∧ G8 D = some (.dK (numG (ns.map fun x : Int => (Sum.inl x : Key)) i))) ⟨same_new nD, upd_same⟩ (fun i G8 _ h => SqL.of (h.1 _ _ eL9)) ?_ ?_
              · rintro i x G8 G8' hi ⟨sG8, eD⟩ ⟨T', u, v, rfl, nT, rfl, hu, hv⟩
                rw [List.length_map] at hi
                have h1 : ns[i]? = some ns[i] := List.getElem?_eq_getElem hi
                have hi2 : i < (ns.map fun x : Int => (Sum.inl x : Key)).length := by rw [List.length_map]; exact hi
                have ek : (ns.map fun x : Int => (Sum.inl x : Key)).getD i (Sum.inl 0) = Sum.inl ns[i] := by rw [getD_at hi2, List.getElem_map]
                generalize ns[i] = y at h1 ek
                dsimp only at hu hv
                rw [List.getElem?_map, h1] at hv
                obtain rfl := Option.some.inj hu
                obtain rfl := Option.some.inj hv
                have sT := same_new (o := .tup [V.int (i : Int), V.int y]) nT
                refine ⟨T', _, rfl, SqT.of upd_same, rfl, _, _, rfl, _, _, rfl, rfl, rfl, ?_⟩
                unfold tYes
                dsimp only
                rw [if_pos rfl]
                refine ⟨_, rfl, _, rfl, _, Sum.inl y, rfl, sT _ _ eD, ?_, same_pt nD (sG8.trans sT), ?_⟩
                · unfold numG
                  rw [List.length_map, List.length_range, sizeLine_eq]
                  omega
                · rw [upd_same, ← ek, putK_new _ (numG_none ndk hi2), numG_succ]
              · rintro G8 ⟨sG8, eD⟩
                rw [List.length_map] at eD
                refine gname_go ?_
                try dsimp only
                have w1 := (v1.trans v2).trans sG8
                refine ⟨_, rfl, Cc, rfl, ⟨_, SqL.of (w1 _ _ wi.eC)⟩, fun R nR => ?_⟩
                refine lc_it (walk_list (K := K) (a := Cc) (xs := intsV cs)) (fun i X => Same G8 X ∧ X R = some (.lst (intsV ((cs.map (rankF ns)).take i)))) ⟨same_new nR, upd_same⟩ (fun i X _ h => SqL.of (h.1 _ _ (w1 _ _ wi.eC))) ?_ ?_
                · rintro i x X X' hi ⟨sX, eX⟩ ⟨rfl, hx⟩
                  unfold intsV at hi hx
                  rw [List.length_map] at hi
                  have h1 : cs[i]? = some cs[i] := List.getElem?_eq_getElem hi
                  have mc := List.getElem_mem hi
                  generalize cs[i] = y at h1 mc
                  rw [List.getElem?_map, h1] at hx
                  obtain rfl := Option.some.inj hx
                  obtain ⟨rl, re⟩ := rank_at (ns := ns) (c := y) ((mem _).mpr (List.mem_map.mpr ⟨y, mc, rfl⟩))
                  have gk := numG_val ndk (n := ns.length) rl (by rw [List.length_map]; exact Nat.le_refl _)
                  rw [getD_at (by rw [List.length_map]; exact rl), List.getElem_map, re] at gk
                  have e2 : (cs.map (rankF ns))[i]? = some (rankF ns y) := by rw [List.getElem?_map, h1]; rfl
                  refine ⟨rfl, ?_⟩
                  unfold tYes
                  dsimp only
                  rw [if_pos rfl]
                  refine ⟨_, rfl, _, rfl, D, _, rfl, gk ▸ DGet.k (k := Sum.inl (y : Int)) (sX _ _ eD), ?_⟩
                  refine ⟨_, eX, ?_, same_pt nR sX, ?_⟩
                  · unfold intsV
                    rw [List.length_map, List.length_take, List.length_map, sizeLine_eq]
                    omega
                  · rw [upd_same, get_take e2]
                    unfold intsV
                    rw [List.map_append]
                    rfl
                · rintro X ⟨sX, eX⟩
                  rw [show (intsV cs).length = (cs.map (rankF ns)).length from by unfold intsV; rw [List.length_map, List.length_map], List.take_length] at eX
                  refine ⟨_, rfl, Nat.le_of_ble_eq_true rfl, fun W nW => ?_⟩
                  have sW := same_new (o := .tup [V.ref R, V.ref M]) nW
                  have sF := (w1.trans sX).trans sW
                  exact q W R M _ ns.length ms _ (wi.sH.trans sF) upd_same (sW _ _ eX) (sF _ _ wi.eM) (clout bE bdI wi.clo hf nd mem)
            · rw [decide_eq_false c]
              dsimp only
              rw [if_pos (by decide)]
              refine ⟨fun σ' G => ∃ m', m' < m ∧ ∃ (Cc Bc : Addr) (cs bs : List Nat) (ms : List V), σ' = [some (.ref k), some (.int (n : Nat)), some (.ref T9), some (.ref E9), some (.ref Cc), x5, x6, none, some (.ref I3), none, none, none, some (.ref M), some (.ref Bc), none, none, none] ∧ WhI H M I3 ims eqs n G Cc Bc cs bs ms m', fun _ _ h => h, ?_⟩
              refine ⟨_, rfl, gname_go ?_⟩
              try dsimp only
              refine ⟨_, rfl, _, rfl, _, rfl, Cc, I3, M, cs, ims, ms, rfl, wi.eC, wi.im, wi.eM, wi.nCM, nIM, by rw [lcs]; exact bdI, by omega, by omega, ?_, fun R ms' G' sb hR eR eM' lm => gname_go ?_⟩
              · have h1 := wi.ml
                have h2 : 3 * ims.length * (n + 1) ≤ 3 * ims.length * 64 := Nat.mul_le_mul_left _ (by omega)
                omega
              · obtain ⟨m', lt, w2⟩ := wi.next bdI nMH nIM c sb hR eR eM' lm
                exact ⟨m', lt, R, Cc, _, _, ms', rfl, w2⟩
end
end L2.K19
set_option Elab.async false
set_option linter.all false
set_option maxRecDepth 100000
set_option maxHeartbeats 8000000
namespace L2.K19
open PySem PySem.Spec PyProof.Rows L2.Tb
open SX (S)
/-! ### the class Table -/
abbrev s_tinit : Stmt := inClass (top 44) 0
abbrev N_tinit : List Str := ["self", "kind", "facts", "formulas", "fact", "side", "parts", "numbers", "triples", "one", "other", "equal", "classes", "mergings", "part", "text", "number"]
theorem sc_tinit : FnScope N_tinit ["self", "kind", "facts", "formulas"] (defScope s_tinit) := ⟨rfl, rfl, rfl, by decide +kernel, rfl, by decide +kernel, by decide +kernel⟩
abbrev s_tthing : Stmt := inClass (top 44) 1
abbrev N_tthing : List Str := ["self", "formula"]
theorem sc_tthing : FnScope N_tthing ["self", "formula"] (defScope s_tthing) := ⟨rfl, rfl, rfl, by decide +kernel, rfl, by decide +kernel, by decide +kernel⟩
abbrev s_talike : Stmt := inClass (top 44) 2
abbrev N_talike : List Str := ["self", "one", "other"]
theorem sc_talike : FnScope N_talike ["self", "one", "other"] (defScope s_talike) := ⟨rfl, rfl, rfl, by decide +kernel, rfl, by decide +kernel, by decide +kernel⟩
structure TaF (K : PySem.W.Frag) (mg : Str → Option Value) (TC : Addr) : Prop where
  mgT : mg "Table" = some (.ref TC)
  cls : Cls K TC
  n1 : NoAttr K TC "_kind"
  n2 : NoAttr K TC "_letters"
  n3 : NoAttr K TC "_things"
  n4 : NoAttr K TC "_count"
  n5 : NoAttr K TC "_triples"
  n6 : NoAttr K TC "_mergings"
/-- facts stand in a tuple -/
def FactsAt (FC : Addr) (H : Hp) (F : Addr) (facts : List (Fm × Fm)) : Prop := ∃ ps : List Addr, H F = some (.tup (ps.map V.ref)) ∧ Paired (fun p e => ∃ l r, H p = some (.tup [.ref l, .ref r]) ∧ FmAt FC H l e.1 ∧ FmAt FC H r e.2) ps facts
theorem FactsAt.same {FC : Addr} {H H' : Hp} {F : Addr} {facts : List (Fm × Fm)} (h : FactsAt FC H F facts) (s : Same H H') : FactsAt FC H' F facts := let ⟨ps, a, b⟩ := h; ⟨ps, s _ _ a, paired_imp (fun _ _ ⟨l, r, e, h1, h2⟩ => ⟨l, r, s _ _ e, h1.same s, h2.same s⟩) b⟩
def sidesF (facts : List (Fm × Fm)) : List Fm := facts.flatMap fun e => [e.1, e.2]
def tabF (facts : List (Fm × Fm)) (gs : List Fm) : List Fm := ordF ((sidesF facts ++ gs).flatMap partsF)
def eqsF (facts : List (Fm × Fm)) (fs : List Fm) : List (Nat × Nat) := facts.map fun e => (ixX fs e.1.txt, ixX fs e.2.txt)
def thV (out : List Nat) : V → V
  | .int j => .int (g0 out j.toNat : Nat)
  | v => v
def thT (ts : List (List Nat)) (out : List Nat) (i : Nat) : List (Key × V) := (numT ts i).map fun kv => (kv.1, thV out kv.2)
theorem valV_vals {κ : Type} [DecidableEq κ] (f : V → V) (k : κ) : ∀ l : List (κ × V), valV (l.map fun kv => (kv.1, f kv.2)) k = (valV l k).map f
  | [] => rfl
  | p :: l => by
    rw [List.map_cons]
    by_cases e : p.1 = k
    · rw [valV_pos (show ((p.1, f p.2) : κ × V).1 = k from e), valV_pos e]
      rfl
    · rw [valV_neg (show ¬ ((p.1, f p.2) : κ × V).1 = k from e), valV_neg e]
      exact valV_vals f k l
theorem thT_next (ts : List (List Nat)) (out : List Nat) (i : Nat) : thT ts out (i + 1) = thT ts out i ++ [(Sum.inr (S (ts.getD i [])), V.int (g0 out i : Nat))] := by
  unfold thT
  rw [numT_succ, List.map_append]
  rfl
theorem thT_none {ts : List (List Nat)} (nd : ts.Nodup) (out : List Nat) {i : Nat} (hi : i < ts.length) : valV (thT ts out i) (Sum.inr (S (ts.getD i [])) : Key) = none := by
  unfold thT
  rw [valV_vals, numT_none nd hi]
  rfl
/-- the table of these parts -/
structure TaAt (TC : Addr) (z : Str) (b : Bool) (fs : List Fm) (eqs : List (Nat × Nat)) (H : Hp) (a : Addr) (out : List Nat) (m : Nat) : Prop where
  ex : ∃ (dx L D T M : Addr) (k : Addr) (cv : V) (ms : List V), H a = some (.ins TC dx [("_kind", .ref k), ("_letters", .ref L), ("_things", .ref D), ("_count", cv), ("_triples", .ref T), ("_mergings", .ref M)]) ∧ H D = some (.dK (thT (fs.map Fm.txt) out fs.length)) ∧
    H M = some (.lst ms) ∧ TrpsAt H T ((tripsF fs).map (thC out))
  cl : ClOut eqs (imsF z b fs.length (tripsF fs)) fs.length out m
  nd : (fs.map Fm.txt).Nodup
theorem th_val {fs : List Fm} (nd : (fs.map Fm.txt).Nodup) (out : List Nat) {t : List Nat} (ht : t ∈ fs.map Fm.txt) : valV (thT (fs.map Fm.txt) out fs.length) (Sum.inr (S t) : Key) = some (V.int (g0 out (ixX fs t) : Nat)) ∧ ixX fs t < fs.length := by
  obtain ⟨h1, h2⟩ := numK_val nd ht
  refine ⟨?_, h2⟩
  unfold thT
  rw [valV_vals, show numT (fs.map Fm.txt) fs.length = numK fs from rfl, h1]
  rfl
def spTthing (FC TC : Addr) : Sp := fun vs H Q _ => ∃ (a x : Addr) (f : Fm) (z : Str) (b : Bool) (fs : List Fm) (eqs : List (Nat × Nat)) (out : List Nat) (m : Nat), vs = [.ref a, .ref x] ∧ TaAt TC z b fs eqs H a out m ∧ FmAt FC H x f ∧ f.txt ∈ fs.map Fm.txt ∧ Q (.int (g0 out (ixX fs f.txt) : Nat)) H
def spTalike (FC TC : Addr) : Sp := fun vs H Q _ => ∃ (a x y : Addr) (f g : Fm) (z : Str) (b : Bool) (fs : List Fm) (eqs : List (Nat × Nat)) (out : List Nat) (m : Nat), vs = [.ref a, .ref x, .ref y] ∧ TaAt TC z b fs eqs H a out m ∧ FmAt FC H x f ∧ FmAt FC H y g ∧ f.txt ∈ fs.map Fm.txt ∧ g.txt ∈ fs.map Fm.txt ∧
  ∀ c : Bool, (c = true ↔ ClI eqs (imsF z b fs.length (tripsF fs)) (ixX fs f.txt) (ixX fs g.txt)) → Q (.bl c) H
theorem subs_in : ∀ (g : Fm) {s : Nat} {l r : Fm}, Fm.op s l r ∈ subsF g → l ∈ subsF g ∧ r ∈ subsF g
  | .lt n, s, l, r, h => by
    simp only [subsF, List.mem_singleton] at h
    cases h
  | .op s0 l0 r0, s, l, r, h => by
    simp only [subsF, List.mem_append, List.mem_singleton] at h ⊢
    rcases h with (h | h) | h
    · cases h
      exact ⟨.inl (.inr (subsF_self _)), .inr (subsF_self _)⟩
    · obtain ⟨a, b⟩ := subs_in l0 h
      exact ⟨.inl (.inr a), .inl (.inr b)⟩
    · obtain ⟨a, b⟩ := subs_in r0 h
      exact ⟨.inr a, .inr b⟩
theorem tab_closed (zs : List Fm) : ClosedF (ordF (zs.flatMap partsF)) := fun s l r h => by
  obtain ⟨g, hg, hp⟩ := List.mem_flatMap.mp (ordF_mem h)
  obtain ⟨a, b⟩ := subs_in g (partsF_subs g _ hp)
  have up : ∀ x, x ∈ subsF g → x.txt ∈ (ordF (zs.flatMap partsF)).map Fm.txt := fun x hx => by
    obtain ⟨y, hy, e⟩ := subs_parts g x hx
    obtain ⟨w, hw, e2⟩ := ordF_txt (List.mem_flatMap.mpr ⟨g, hg, hy⟩)
    exact List.mem_map.mpr ⟨w, hw, e2.trans e⟩
  exact ⟨up l a, up r b⟩
theorem tab_has {zs : List Fm} {g : Fm} (h : g ∈ zs) : g.txt ∈ (ordF (zs.flatMap partsF)).map Fm.txt := by
  obtain ⟨y, hy, e⟩ := subs_parts g g (subsF_self g)
  obtain ⟨w, hw, e2⟩ := ordF_txt (List.mem_flatMap.mpr ⟨g, h, hy⟩)
  exact List.mem_map.mpr ⟨w, hw, e2.trans e⟩
theorem tab_nd (zs : List Fm) : ((ordF zs).map Fm.txt).Nodup := ((List.mergeSort_perm _ _).map Fm.txt).nodup_iff.mpr (ddK_nd Fm.txt zs)
theorem tab_ok {zs : List Fm} (h : ∀ g ∈ zs, g.ok = true) : ∀ x ∈ ordF (zs.flatMap partsF), x.ok = true := fun x hx => by
  obtain ⟨g, hg, hp⟩ := List.mem_flatMap.mp (ordF_mem hx)
  exact (parts_ok (h g hg) hp).1
theorem trips_bd {fs : List Fm} (nd : (fs.map Fm.txt).Nodup) (cl : ClosedF fs) : ∀ t ∈ tripsF fs, thB fs.length t := fun t ht => by
  obtain ⟨g, hg, e⟩ := List.mem_filterMap.mp ht
  cases g with
  | lt n => cases e
  | op s l r =>
    obtain ⟨ml, mr⟩ := cl _ _ _ hg
    have b1 := (numK_val nd ml).2
    have b2 := (numK_val nd mr).2
    have b3 := (numK_val nd (List.mem_map.mpr ⟨_, hg, rfl⟩)).2
    have e : trS s (ixX fs l.txt) (ixX fs r.txt) (ixX fs (Fm.op s l r).txt) = t := Option.some.inj e
    rw [← e]
    unfold trS
    split
    · exact ⟨b1, b2, b3⟩
    · exact ⟨b3, b2, b1⟩
    · exact ⟨b1, b3, b2⟩
theorem eqs_bd {fs : List Fm} (nd : (fs.map Fm.txt).Nodup) {facts : List (Fm × Fm)} (h : ∀ e ∈ facts, e.1.txt ∈ fs.map Fm.txt ∧ e.2.txt ∈ fs.map Fm.txt) : ∀ e ∈ eqsF facts fs, e.1 < fs.length ∧ e.2 < fs.length := fun e he => by
  obtain ⟨x, hx, rfl⟩ := List.mem_map.mp he
  exact ⟨(numK_val nd (h x hx).1).2, (numK_val nd (h x hx).2).2⟩
section
variable {P : Program} {w : World} {K : PySem.W.Frag} {mg : Str → Option Value} {base : Heap} {f : Addr} {fd : FuncData} {FC TC : Addr}
theorem c_tthing (mstr : mg "str" = none) (FF : FoF K mg FC) (TF : TaF K mg TC) (SS : SpcM P w K mg base L2.CX0 FC "__str__" ["self"] 1 (spFstr FC)) (F : FunD K "thing" "Table.thing" (defArgs s_tthing) (defBody s_tthing) (defScope s_tthing) [] [] f fd) : FnOk P w K mg base L2.CX0 4 f fd ["self", "formula"] (spTthing FC TC) := by
  have hnd := sc_tthing.nd
  obtain ⟨fs_, fds, hs, hsf, Fs, Bs⟩ := SS
  refine F.ok sc_tthing (fun vs H Q E h => ?_) (fun cdv A outer s H vs Q E hr h => ?_)
  · obtain ⟨a, x, f0, z, b, fs, eqs, out, m, rfl, _⟩ := h
    rfl
  · obtain ⟨a, x, f0, z, b, fs, eqs, out, m, rfl, ta, hf, mt, q⟩ := h
    obtain ⟨dx, L, D, T9, M, k, cv, ms, ea, eD, _⟩ := ta.ex
    obtain ⟨d1, f1, e1⟩ := hf.ins
    refine ⟨_, (pss_one (ps_ret (pe_dget (Nat.lt_of_le_of_lt (Nat.add_le_add_left (by decide) _) hr.units) (pe_fld (pv 0) (by rfl)) (pe_callTy (show CallR _ (.type "str") (rStrOwn FC (spFstr FC)) from call_strOwn Fs (hr.mono (by omega)) hs hsf Bs) (by rfl) mstr (by decide +kernel) (pa_cons (pv 1) pa_nil)) (fun _ _ => rfl)))), ?_⟩
    refine ⟨_, rfl, a, TC, dx, _, _, rfl, ea, TF.cls, TF.n3, rfl, _, rfl, x, d1, f1, rfl, e1, x, f0, rfl, hf, _, rfl, D, _, rfl, (th_val ta.nd out mt).1 ▸ DGet.k (k := Sum.inr (S f0.txt)) eD, q⟩
theorem c_talike (TF : TaF K mg TC) {ft : Addr} {fdt : FuncData} (hTh : Meth K TC "thing" ft) (FTh : FnOk P w K mg base L2.CX0 4 ft fdt ["self", "formula"] (spTthing FC TC)) (BTh : Binds K fdt ["self", "formula"] [])
    (F : FunD K "alike" "Table.alike" (defArgs s_talike) (defBody s_talike) (defScope s_talike) [] [] f fd) : FnOk P w K mg base L2.CX0 6 f fd ["self", "one", "other"] (spTalike FC TC) := by
  have hnd := sc_talike.nd
  refine F.ok sc_talike (fun vs H Q E h => ?_) (fun cdv A outer s H vs Q E hr h => ?_)
  · obtain ⟨a, x, y, f0, g, z, b, fs, eqs, out, m, rfl, _⟩ := h
    rfl
  · obtain ⟨a, x, y, f0, g, z, b, fs, eqs, out, m, rfl, ta, hf, hg, mf, mg', q⟩ := h
    obtain ⟨dx, L, D, T9, M, k, cv, ms, ea, eD, _⟩ := ta.ex
    refine ⟨_, (pss_one (ps_ret (pe_cmpR op_eq (pe_meth (E := L2.E0) (pv 0) TF.cls hTh FTh (hr.mono (by omega)) BTh .nil (fun _ _ _ _ _ _ _ h => h.elim) (pa_cons (pv 1) pa_nil)) (pe_meth (E := L2.E0) (pv 0) TF.cls hTh FTh (hr.mono (by omega)) BTh .nil (fun _ _ _ _ _ _ _ h => h.elim) (pa_cons (pv 2) pa_nil)) (nomark _)))), ?_⟩
    have hi := (th_val ta.nd out mf).2
    have hj := (th_val ta.nd out mg').2
    have fin := q (decide (V.int (g0 out (ixX fs f0.txt) : Nat) = V.int (g0 out (ixX fs g.txt) : Nat))) (by
      rw [decide_eq_true_iff, ← ta.cl.iff _ _ hi hj]
      exact ⟨fun h => by injection h with h; omega, fun h => by rw [h]⟩)
    exact ⟨_, rfl, a, dx, _, rfl, ea, rfl, _, rfl, a, x, f0, z, b, fs, eqs, out, m, rfl, ta, hf, mf, _, rfl, a, dx, _, rfl, ea, rfl, _, rfl, a, y, g, z, b, fs, eqs, out, m, rfl, ta, hg, mg', rfl, fin⟩
end
theorem TrpsAt.put {H : Hp} {R a C dx : Addr} {fl fl' : List (Str × V)} {ts : List Trp} (h : TrpsAt H R ts) (e : H a = some (.ins C dx fl)) : TrpsAt (upd H a (.ins C dx fl')) R ts := by
  obtain ⟨as9, e1, p1⟩ := h
  exact ⟨as9, by rw [upd_ne (ne_of e1 e (by intro z; cases z))]; exact e1, paired_imp (fun x t h => by unfold TrpAt at h ⊢; rw [upd_ne (ne_of h e (by intro z; cases z))]; exact h) p1⟩
/-- what stands while the attributes are made -/
structure TB (TC : Addr) (H : Hp) (a dx : Addr) (fl : List (Str × V)) (T3 D Rc M : Addr) (fs : List Fm) (out : List Nat) (ms : List V) (G : Hp) : Prop where
  of : Off a H G
  at_ : G a = some (.ins TC dx fl)
  tT : TrpsAt G T3 (tripsF fs)
  eD : G D = some (.dK (numK fs))
  eRc : G Rc = some (.lst (intsV out))
  eM : G M = some (.lst ms)
theorem TB.same {TC : Addr} {H : Hp} {a dx : Addr} {fl : List (Str × V)} {T3 D Rc M : Addr} {fs : List Fm} {out : List Nat} {ms : List V} {G G' : Hp} (h : TB TC H a dx fl T3 D Rc M fs out ms G) (s : Same G G') : TB TC H a dx fl T3 D Rc M fs out ms G' :=
  ⟨h.of.then s, s _ _ h.at_, h.tT.same s, s _ _ h.eD, s _ _ h.eRc, s _ _ h.eM⟩
theorem TB.fld {TC : Addr} {H : Hp} {a dx : Addr} {fl : List (Str × V)} {T3 D Rc M : Addr} {fs : List Fm} {out : List Nat} {ms : List V} {G : Hp} (h : TB TC H a dx fl T3 D Rc M fs out ms G) (fl' : List (Str × V)) : TB TC H a dx fl' T3 D Rc M fs out ms (upd G a (.ins TC dx fl')) :=
  ⟨h.of.set, upd_same, h.tT.put h.at_, by rw [upd_ne (ne_of h.eD h.at_ (by intro z; cases z))]; exact h.eD, by rw [upd_ne (ne_of h.eRc h.at_ (by intro z; cases z))]; exact h.eRc, by rw [upd_ne (ne_of h.eM h.at_ (by intro z; cases z))]; exact h.eM⟩
def spTinit (FC C TC : Addr) : Sp := fun vs H Q _ => ∃ (a dx k F G9 : Addr) (z : Str) (b : Bool) (facts : List (Fm × Fm)) (ga : List Addr) (gs : List Fm), vs = [.ref a, .ref k, .ref F, .ref G9] ∧ H a = some (.ins TC dx []) ∧ KindAt C H k z b ∧ wordsD.contains z = true ∧ FactsAt FC H F facts ∧ H G9 = some (.tup (ga.map V.ref)) ∧ Paired (FmAt FC H) ga gs ∧
  gs ≠ [] ∧ facts.length ≤ 10 ∧ gs.length ≤ 20 ∧ (∀ g ∈ sidesF facts ++ gs, g.ok = true ∧ g.ops ≤ 10) ∧ (tabF facts gs).length < 64 ∧
  ∀ (H' : Hp) (out : List Nat) (m : Nat), Off a H H' → TaAt TC z b (tabF facts gs) (eqsF facts (tabF facts gs)) H' a out m → Q .non H'
section
variable {P : Program} {w : World} {K : PySem.W.Frag} {mg : Str → Option Value} {base : Heap} {f : Addr} {fd : FuncData} {FC TC C dL CT CF : Addr} {es : Array DictEntry} {n9 : Nat}
theorem c_tinit (T : Bt mg) (mstr : mg "str" = none) (mset : mg "set" = none) (FF : FoF K mg FC) (TF : TaF K mg TC) (KF : KiF P w K mg base C dL CT CF es n9) (NN : PrpM P w K mg base FC "name" 1 (spFname FC)) (SS : SpcM P w K mg base L2.CX0 FC "__str__" ["self"] 1 (spFstr FC))
    (k_all_parts : Cal P w K mg base 4 "all_parts" (spAllParts FC)) (k_part_numbers : Cal P w K mg base 4 "part_numbers" (spPartNums FC)) (k_op_triples : Cal P w K mg base 6 "operation_triples" (spOpTriples FC)) (k_tclosed : Cal P w K mg base 6 "closed" (spTclosed C)) (k_in_classes : Cal P w K mg base 2 "in_classes" spInClasses)
    (F : FunD K "__init__" "Table.__init__" (defArgs s_tinit) (defBody s_tinit) (defScope s_tinit) [] [] f fd) : FnOk P w K mg base L2.CX0 8 f fd ["self", "kind", "facts", "formulas"] (spTinit FC C TC) := by
  have hnd := sc_tinit.nd
  obtain ⟨pn9, gn9, fdn9, PN9, FN9, BN9⟩ := NN
  obtain ⟨fs_, fds, hs, hsf, Fs, Bs⟩ := SS
  refine F.ok sc_tinit (fun vs H Q E h => ?_) (fun cdv A outer s H vs Q E hr h => ?_)
  · obtain ⟨a, dx, k, F9, G9, z, b, facts, ga, gs, rfl, _⟩ := h
    rfl
  · obtain ⟨a, dx, k, F9, G9, z, b, facts, ga, gs, rfl, ea, hk, hz, ⟨ps, eF, pF⟩, eG, pG, ne, fewf, fewg, okg, n64, q⟩ := h
    refine ⟨_, (pss_cons (ps_set (i := 6) hnd rfl (by first | exact Or.inl rfl | exact Or.inr rfl) (pe_cal k_all_parts hr (by omega) (by rfl) (pa_cons (pe_op op_cat (pe_lc2 (own := [("fact", 4), ("side", 5)]) (vs1 := [5]) (tt := tYes) (tt1 := tYes) (g := (gName 4)) (g1 := (gName 5)) (wi1 := iTup K _) (by rfl) hnd (pi_tup (pv 2)) (blkOk_by (own := [("fact", 4), ("side", 5)]) (N := N_tinit) (sc := defScope s_tinit) (by decide +kernel)) (by decide) (fun _ _ _ _ _ => (pg_name (i := 4) hnd rfl (by first | exact Or.inl rfl | exact Or.inr rfl))) (fun _ _ _ _ _ => pts_nil) (fun _ _ _ _ _ => (pi_tup (pv 4))) (fun _ _ _ _ _ => (pg_name (i := 5) hnd rfl (by first | exact Or.inl rfl | exact Or.inr rfl))) (fun _ _ _ _ _ => pts_nil) (fun _ _ _ _ _ => (pv 5))) (pe_callTy call_list_of (by rfl) T.m_list (by decide +kernel) (pa_cons (pv 3) pa_nil))) pa_nil)))
      (pss_cons (ps_set (i := 7) hnd rfl (by first | exact Or.inl rfl | exact Or.inr rfl) (pe_cal k_part_numbers hr (by omega) (by rfl) (pa_cons (pv 6) pa_nil)))
      (pss_cons (ps_set (i := 8) hnd rfl (by first | exact Or.inl rfl | exact Or.inr rfl) (pe_cal k_op_triples hr (by omega) (by rfl) (pa_cons (pv 6) pa_nil)))
      (pss_cons (ps_setLc (i := 11) (own := [("one", 9), ("other", 10)]) (tt := tYes) (g := (gTup K 2 (gCons (gName 9) (gCons (gName 10) gNil)))) (by rfl) hnd rfl (by rfl) (sw_true rfl rfl rfl (by decide +kernel)) (pi_tup (pv 2)) (blkOk_by (own := [("one", 9), ("other", 10)]) (N := N_tinit) (sc := defScope s_tinit) (by decide +kernel)) (fun _ _ _ _ _ => (pg_tup (by rfl) (pgs_cons (pg_name (i := 9) hnd rfl (by first | exact Or.inl rfl | exact Or.inr rfl)) (pgs_cons (pg_name (i := 10) hnd rfl (by first | exact Or.inl rfl | exact Or.inr rfl)) pgs_nil)))) (fun _ _ _ _ _ => pts_nil) (fun _ _ _ _ _ => (pe_tup (pa_cons (pe_dget (Nat.lt_of_le_of_lt (Nat.add_le_add_left (by decide) _) hr.units) (pv 7) (pe_callTy (show CallR _ (.type "str") (rStrOwn FC (spFstr FC)) from call_strOwn Fs (hr.mono (by omega)) hs hsf Bs) (by rfl) mstr (by decide +kernel) (pa_cons (pv 9) pa_nil)) (fun _ _ => rfl)) (pa_cons (pe_dget (Nat.lt_of_le_of_lt (Nat.add_le_add_left (by decide) _) hr.units) (pv 7) (pe_callTy (show CallR _ (.type "str") (rStrOwn FC (spFstr FC)) from call_strOwn Fs (hr.mono (by omega)) hs hsf Bs) (by rfl) mstr (by decide +kernel) (pa_cons (pv 10) pa_nil)) (fun _ _ => rfl)) pa_nil)))))
      (pss_cons (ps_asg (pe_cal k_tclosed hr (by omega) (by rfl) (pa_cons (pv 1) (pa_cons (pe_callB call_len_seq (by rfl) T.m_len (by decide +kernel) (pa_cons (pv 6) pa_nil)) (pa_cons (pv 8) (pa_cons (pv 11) pa_nil))))) (pg_tup (by rfl) (pgs_cons (pg_name (i := 12) hnd rfl (by first | exact Or.inl rfl | exact Or.inr rfl)) (pgs_cons (pg_name (i := 13) hnd rfl (by first | exact Or.inl rfl | exact Or.inr rfl)) pgs_nil))))
      (pss_cons (ps_fld (pv 0) (pv 1) (by rfl))
      (pss_cons (ps_fld (pv 0) (pe_lc (own := [("part", 14)]) (by rfl) hnd (pi_list (pv 6)) (blkOk_by (own := [("part", 14)]) (N := N_tinit) (sc := defScope s_tinit) (by decide +kernel)) (fun _ _ _ _ _ => (pg_name (i := 14) hnd rfl (by first | exact Or.inl rfl | exact Or.inr rfl))) (fun _ _ _ _ _ => (pts_one (pt_cmpR op_notN (pe_prop (E := L2.E0) (pv 14) FF.cls PN9 FN9 (hr.mono (by omega)) BN9 .nil (fun _ _ _ _ _ _ _ h => h.elim) (by rfl)) pe_non (nomark _)))) (fun _ _ _ _ _ => (pe_prop (E := L2.E0) (pv 14) FF.cls PN9 FN9 (hr.mono (by omega)) BN9 .nil (fun _ _ _ _ _ _ _ h => h.elim) (by rfl)))) (by rfl))
      (pss_cons (ps_fld (pv 0) (pe_lock (pe_dc (own := [("text", 15), ("number", 16)]) (tt := tYes) (g := (gTup K 2 (gCons (gName 15) (gCons (gName 16) gNil)))) (by rfl) hnd (pi_items (pv 7)) (blkOk_by (own := [("text", 15), ("number", 16)]) (N := N_tinit) (sc := defScope s_tinit) (by decide +kernel)) (fun _ _ _ _ _ => (pg_tup (by rfl) (pgs_cons (pg_name (i := 15) hnd rfl (by first | exact Or.inl rfl | exact Or.inr rfl)) (pgs_cons (pg_name (i := 16) hnd rfl (by first | exact Or.inl rfl | exact Or.inr rfl)) pgs_nil)))) (fun _ _ _ _ _ => pts_nil) (fun _ _ _ _ _ => (pv 15)) (fun _ _ _ _ _ => (pe_ix (show IxR _ (rIxL K) from ix_list) (pv 12) (pv 16) (fun _ _ => rfl))))) (by rfl))
      (pss_cons (ps_fld (pv 0) (pe_callB (show CallR _ (.builtin "len") (rLenSet w) from call_lenSet) (by rfl) T.m_len (by decide +kernel) (pa_cons (pe_callTy (show CallR _ (.type "set") (rSetLI K w) from cr_setLI (by rfl)) (by rfl) mset (by decide +kernel) (pa_cons (pv 12) pa_nil)) pa_nil)) (by rfl))
      (pss_cons (ps_fld (pv 0) (pe_cal k_in_classes hr (by omega) (by rfl) (pa_cons (pv 8) (pa_cons (pv 12) pa_nil))) (by rfl))
      (pss_one (ps_fld (pv 0) (pv 13) (by rfl))))))))))))), ?_⟩
    have lps := pF.length
    refine ⟨_, rfl, F9, rfl, ⟨_, SqT.of eF⟩, fun L1 nL1 => it_go (walk_tup (K := K) (a := F9) (xs := ps.map V.ref)) (fun i G => Same H G ∧ ∃ sa : List Addr, G L1 = some (.lst (sa.map V.ref)) ∧ Paired (FmAt FC H) sa (sidesF (facts.take i))) ⟨same_new nL1, [], upd_same, .nil⟩ (fun i G _ h => SqT.of (h.1 _ _ eF)) ?_ ?_⟩
    · rintro i x G G' hi ⟨sG, sa, eL, pS⟩ ⟨rfl, hx⟩
      rw [List.length_map] at hi
      have h1 : ps[i]? = some ps[i] := List.getElem?_eq_getElem hi
      have h2 : facts[i]? = some (facts[i]'(by omega)) := List.getElem?_eq_getElem (by omega)
      generalize ps[i] = p0 at h1
      generalize (facts[i]'(by omega)) = e0 at h2
      rw [List.getElem?_map, h1] at hx
      obtain rfl := Option.some.inj hx
      obtain ⟨l, r, ep, hl0, hr0⟩ := paired_get2 pF i _ _ h1 h2
      have nxt : sidesF (facts.take (i + 1)) = sidesF (facts.take i) ++ [e0.1, e0.2] := by
        unfold sidesF
        rw [get_take h2, List.flatMap_append]
        rfl
      have lsi : (sidesF (facts.take i)).length ≤ 20 := by
        have h9 : ∀ l : List (Fm × Fm), (sidesF l).length = 2 * l.length := fun l => by
          induction l with
          | nil => rfl
          | cons e l ih =>
            unfold sidesF at ih ⊢
            rw [List.flatMap_cons, List.length_append, ih, List.length_cons]
            simp
            omega
        rw [h9, List.length_take]
        omega
      have lsa := pS.length
      refine ⟨rfl, ?_⟩
      unfold tYes
      dsimp only
      rw [if_pos rfl]
      refine ⟨_, rfl, p0, rfl, ⟨_, SqT.of (sG _ _ ep)⟩, it_go (walk_tup (K := K) (a := p0) (xs := [V.ref l, V.ref r])) (fun j G1 => Same H G1 ∧ G1 L1 = some (.lst ((sa ++ [l, r].take j).map V.ref))) ⟨sG, by rw [List.take_zero, List.append_nil]; exact eL⟩ (fun j G1 _ h => SqT.of (h.1 _ _ ep)) ?_ ?_⟩
      · rintro j x G1 G1' hj ⟨sG1, eL1⟩ ⟨rfl, hx⟩
        have hj : j < 2 := hj
        have e2 : [l, r][j]? = some ([l, r][j]'hj) := List.getElem?_eq_getElem hj
        have ex : x = V.ref ([l, r][j]'hj) := by
          rcases (show j = 0 ∨ j = 1 by omega) with rfl | rfl <;> exact (Option.some.inj hx).symm
        generalize [l, r][j]'hj = y at e2 ex
        subst ex
        refine ⟨rfl, ?_⟩
        rw [if_pos rfl]
        refine ⟨_, rfl, _, eL1, ?_, same_pt nL1 sG1, ?_⟩
        · rw [List.length_map, List.length_append, List.length_take, sizeLine_eq]
          simp only [List.length_cons, List.length_nil]
          omega
        · rw [upd_same, get_take e2, ← List.append_assoc, List.map_append (l₂ := [y])]
          rfl
      · rintro G1 ⟨sG1, eL1⟩
        refine ⟨sG1, sa ++ [l, r], eL1, ?_⟩
        rw [nxt]
        exact paired_app pS (.cons hl0 (.cons hr0 .nil))
    · rintro G1 ⟨sG1, sa, eL1, pS⟩
      rw [List.length_map, lps, List.take_length] at pS
      have lsd : (sidesF facts).length = 2 * facts.length := by
        have h9 : ∀ l : List (Fm × Fm), (sidesF l).length = 2 * l.length := fun l => by
          induction l with
          | nil => rfl
          | cons e l ih =>
            unfold sidesF at ih ⊢
            rw [List.flatMap_cons, List.length_append, ih, List.length_cons]
            simp
            omega
        exact h9 facts
      have lsa := pS.length
      have lga := pG.length
      refine ⟨_, rfl, G9, _, rfl, .inr (SqT.of (sG1 _ _ eG)), fun L2 nL2 => ⟨L1, L2, _, _, rfl, rfl, same_new nL2 _ _ eL1, upd_same, by rw [List.length_map, List.length_map, sizeLine_eq]; omega, fun L3 nL3 => ?_⟩⟩
      have s3 := (sG1.trans (same_new (o := .lst (ga.map V.ref)) nL2)).trans (same_new (o := .lst (sa.map V.ref ++ ga.map V.ref)) nL3)
      have eL3 : (upd (upd G1 L2 (.lst (ga.map V.ref))) L3 (.lst (sa.map V.ref ++ ga.map V.ref))) L3 = some (.lst ((sa ++ ga).map V.ref)) := by rw [upd_same, List.map_append]
      generalize upd (upd G1 L2 (.lst (ga.map V.ref))) L3 (.lst (sa.map V.ref ++ ga.map V.ref)) = G3 at s3 eL3 ⊢
      have ok8 : ∀ g ∈ sidesF facts ++ gs, g.ok = true := fun g hg => (okg g hg).1
      have lall : ((sidesF facts ++ gs).flatMap partsF).length ≤ 1000 := by
        have h9 : ∀ l : List Fm, (∀ g ∈ l, g.ops ≤ 10) → (l.flatMap partsF).length ≤ 21 * l.length := fun l => by
          induction l with
          | nil => exact fun _ => Nat.le_refl _
          | cons g l ih =>
            intro h
            have h1 := parts_lenF g
            have h2 := h g List.mem_cons_self
            have h3 := ih fun x hx => h x (List.mem_cons_of_mem _ hx)
            rw [List.flatMap_cons, List.length_append, List.length_cons]
            omega
        have := h9 _ fun g hg => (okg g hg).2
        rw [List.length_append] at this
        omega
      refine ⟨L3, sa ++ ga, sidesF facts ++ gs, rfl, eL3, paired_app (paired_imp (fun _ _ h => h.same s3) pS) (paired_imp (fun _ _ h => h.same s3) pG), fun g hg => Nat.le_trans (okg g hg).2 (by decide), lall, fun R qs G4 s4 eR pR => gname_go ?_⟩
      have hfs : ordF ((sidesF facts ++ gs).flatMap partsF) = tabF facts gs := rfl
      rw [hfs] at pR
      have nd : ((tabF facts gs).map Fm.txt).Nodup := tab_nd _
      have cl : ClosedF (tabF facts gs) := tab_closed _
      have okt : ∀ x ∈ tabF facts gs, x.ok = true := tab_ok ok8
      have has : ∀ g ∈ sidesF facts ++ gs, g.txt ∈ (tabF facts gs).map Fm.txt := fun g hg => tab_has hg
      have hasf : ∀ e ∈ facts, e.1.txt ∈ (tabF facts gs).map Fm.txt ∧ e.2.txt ∈ (tabF facts gs).map Fm.txt := fun e he => ⟨has _ (List.mem_append_left _ (List.mem_flatMap.mpr ⟨e, he, by simp⟩)), has _ (List.mem_append_left _ (List.mem_flatMap.mpr ⟨e, he, by simp⟩))⟩
      have pos : 0 < (tabF facts gs).length := by
        obtain ⟨g, hg⟩ := List.exists_mem_of_ne_nil gs ne
        exact Nat.lt_of_le_of_lt (Nat.zero_le _) (numK_val nd (has g (List.mem_append_right _ hg))).2
      generalize tabF facts gs = fs at pR nd cl okt hasf pos n64 q
      have lqs := pR.length
      have sH4 := s3.trans s4
      try dsimp only
      refine ⟨_, rfl, R, qs, fs, rfl, eR, pR, by omega, nd, fun D G5 s5 eD => gname_go ?_⟩
      try dsimp only
      refine ⟨_, rfl, R, qs, fs, rfl, s5 _ _ eR, paired_imp (fun _ _ h => h.same s5) pR, okt, by omega, nd, cl, fun T3 G6 s6 tT => gname_go ?_⟩
      try dsimp only
      have sH6 := (sH4.trans s5).trans s6
      have eR6 := s6 _ _ (s5 _ _ eR)
      have pR6 : Paired (FmAt FC G6) qs fs := paired_imp (fun _ _ h => h.same (s5.trans s6)) pR
      have eD6 := s6 _ _ eD
      clear eR pR eD s4 s5 s6 eL3 s3
      refine ⟨_, rfl, F9, rfl, ⟨_, SqT.of (sH6 _ _ eF)⟩, fun E9 nE9 => ?_⟩
      refine lc_it (walk_tup (K := K) (a := F9) (xs := ps.map V.ref)) (fun i G => Same G6 G ∧ PairsI G E9 (eqsF (facts.take i) fs)) ⟨same_new nE9, [], upd_same, .nil⟩ (fun i G _ h => SqT.of (h.1 _ _ (sH6 _ _ eF))) ?_ ?_
      · rintro i x G G' hi ⟨sG, as9, eE, pE⟩ ⟨rfl, hx⟩
        rw [List.length_map] at hi
        have h1 : ps[i]? = some ps[i] := List.getElem?_eq_getElem hi
        have h2 : facts[i]? = some (facts[i]'(by omega)) := List.getElem?_eq_getElem (by omega)
        generalize ps[i] = p0 at h1
        generalize (facts[i]'(by omega)) = e0 at h2
        rw [List.getElem?_map, h1] at hx
        obtain rfl := Option.some.inj hx
        obtain ⟨l, r, ep, hl0, hr0⟩ := paired_get2 pF i _ _ h1 h2
        have sHG := sH6.trans sG
        have hl1 := hl0.same sHG
        have hr1 := hr0.same sHG
        obtain ⟨dl, fl9, el⟩ := hl1.ins
        obtain ⟨dr, fr9, er⟩ := hr1.ins
        obtain ⟨m1, m2⟩ := hasf e0 (List.mem_of_getElem? h2)
        obtain ⟨v1, _⟩ := numK_val nd m1
        obtain ⟨v2, _⟩ := numK_val nd m2
        have gD := sG _ _ eD6
        have nxt : eqsF (facts.take (i + 1)) fs = eqsF (facts.take i) fs ++ [(ixX fs e0.1.txt, ixX fs e0.2.txt)] := by
          unfold eqsF
          rw [get_take h2, List.map_append]
          rfl
        refine ⟨p0, _, rfl, SqT.of (sHG _ _ ep), rfl, _, _, rfl, _, _, rfl, rfl, rfl, ?_⟩
        unfold tYes
        dsimp only
        rw [if_pos rfl]
        refine ⟨_, rfl, _, rfl, l, dl, fl9, rfl, el, l, e0.1, rfl, hl1, _, rfl, D, _, rfl, v1 ▸ DGet.k (k := Sum.inr (S e0.1.txt)) gD, ?_⟩
        refine ⟨_, rfl, _, rfl, r, dr, fr9, rfl, er, r, e0.2, rfl, hr1, _, rfl, D, _, rfl, v2 ▸ DGet.k (k := Sum.inr (S e0.2.txt)) gD, Nat.le_of_ble_eq_true rfl, fun q9 n9 => ?_⟩
        have s9 := same_new (o := .tup [V.int (ixX fs e0.1.txt : Nat), V.int (ixX fs e0.2.txt : Nat)]) n9
        have e9 : (upd G' q9 (.tup [V.int (ixX fs e0.1.txt : Nat), V.int (ixX fs e0.2.txt : Nat)])) q9 = some (.tup [V.int (ixX fs e0.1.txt : Nat), V.int (ixX fs e0.2.txt : Nat)]) := upd_same
        have eE9 := s9 _ _ eE
        generalize upd G' q9 (.tup [V.int (ixX fs e0.1.txt : Nat), V.int (ixX fs e0.2.txt : Nat)]) = G8 at s9 e9 eE9 ⊢
        refine ⟨_, eE9, ?_, same_pt nE9 (sG.trans s9), as9 ++ [q9], by rw [upd_same, List.map_append]; rfl, ?_⟩
        · have h3 := pE.length
          unfold eqsF at h3
          rw [List.length_map, List.length_take] at h3
          rw [List.length_map, sizeLine_eq]
          omega
        · rw [nxt]
          refine paired_app (paired_imp (fun t T9 e => ?_) pE) (.cons (by rw [upd_ne (ne_of e9 eE9 (by intro z; cases z))]; exact e9) .nil)
          rw [upd_ne (ne_of (s9 _ _ e) eE9 (by intro z; cases z))]
          exact s9 _ _ e
      · rintro G7 ⟨s7, pE⟩
        rw [List.length_map, lps, List.take_length] at pE
        refine gname_go ?_
        try dsimp only
        have sH7 := sH6.trans s7
        have eR7 := s7 _ _ eR6
        have eqb := eqs_bd nd hasf
        have tbd := trips_bd nd cl
        have lt9 : (tripsF fs).length ≤ fs.length := List.length_filterMap_le _ _
        have en : (qs.map V.ref).length = fs.length := by rw [List.length_map]; exact lqs
        refine ⟨_, rfl, _, rfl, R, qs.map V.ref, rfl, .inl (SqL.of eR7), _, rfl, _, rfl, k, T3, E9, fs.length, z, b, tripsF fs, eqsF facts fs, by rw [en]; rfl, hk.same sH7, hz, pos, n64, tT.same s7, tbd, by omega, pE, eqb, fun W Rc M out m ms G8 s8 eW eRc eM co => ?_⟩
        refine ⟨W, _, rfl, SqT.of eW, rfl, _, _, rfl, _, _, rfl, rfl, ?_⟩
        try dsimp only
        have sH8 := sH7.trans s8
        have ea8 := sH8 _ _ ea
        have pR8 : Paired (FmAt FC G8) qs fs := paired_imp (fun _ _ h => h.same (s7.trans s8)) pR6
        have eR8 := s8 _ _ eR7
        have eD8 := s8 _ _ (s7 _ _ eD6)
        have tT8 := tT.same (s7.trans s8)
        have offH : Off a H G8 := fun b o _ e => sH8 _ _ e
        have tb8 : TB TC H a dx [] T3 D Rc M fs out ms G8 := ⟨offH, ea8, tT8, eD8, eRc, eM⟩
        refine ⟨_, rfl, _, rfl, a, TC, dx, _, rfl, ea8, TF.cls, TF.n1, by decide, ?_⟩
        refine hp_go (fun G => TB TC H a dx [("_kind", .ref k)] T3 D Rc M fs out ms G ∧ Paired (FmAt FC G) qs fs ∧ G R = some (.lst (qs.map V.ref))) ⟨tb8.fld _, paired_imp (fun _ _ h => h.I (fun b o n e => by rw [upd_ne n]; exact e) ⟨_, _, ea8⟩) pR8, by rw [upd_ne (ne_of eR8 ea8 (by intro z; cases z))]; exact eR8⟩ fun G9' ⟨tb9, pR9, eR9⟩ => ?_
        refine ⟨_, rfl, R, rfl, ⟨_, SqL.of eR9⟩, fun L nL => ?_⟩
        refine lc_it (walk_list (K := K) (a := R) (xs := qs.map V.ref)) (fun i G => Same G9' G ∧ ∃ xs : List V, G L = some (.lst xs) ∧ xs.length ≤ i) ⟨same_new nL, [], upd_same, Nat.le_refl _⟩ (fun i G _ h => SqL.of (h.1 _ _ eR9)) ?_ ?_
        · rintro i x G G' hi ⟨sG, xs, eL, lx⟩ ⟨rfl, hx⟩
          rw [List.length_map] at hi
          have h1 : qs[i]? = some qs[i] := List.getElem?_eq_getElem hi
          have h2 : fs[i]? = some (fs[i]'(by omega)) := List.getElem?_eq_getElem (by omega)
          generalize qs[i] = p0 at h1
          generalize (fs[i]'(by omega)) = f0 at h2
          rw [List.getElem?_map, h1] at hx
          obtain rfl := Option.some.inj hx
          have hf := (paired_get2 pR9 i _ _ h1 h2).same sG
          obtain ⟨d1, f1, e1⟩ := hf.ins
          refine ⟨rfl, ?_⟩
          cases hb : decide (f0.nm = V.non) with
          | true =>
            refine ⟨_, rfl, p0, d1, f1, rfl, e1, p0, f0, rfl, hf, rfl, false, by rw [hb]; rfl, ?_⟩
            dsimp only
            rw [if_neg (by decide)]
            exact ⟨sG, xs, eL, Nat.le_succ_of_le lx⟩
          | false =>
            refine ⟨_, rfl, p0, d1, f1, rfl, e1, p0, f0, rfl, hf, rfl, true, by rw [hb]; rfl, ?_⟩
            dsimp only
            rw [if_pos rfl]
            refine ⟨_, rfl, p0, d1, f1, rfl, e1, p0, f0, rfl, hf, xs, eL, by rw [sizeLine_eq]; omega, same_pt nL sG, xs ++ [f0.nm], upd_same, by rw [List.length_append, List.length_singleton]; omega⟩
        · rintro G ⟨sG, xs, eL, _⟩
          have tb10 := tb9.same sG
          refine ⟨_, rfl, a, TC, dx, _, rfl, tb10.at_, TF.cls, TF.n2, Nat.le_of_ble_eq_true rfl, ?_⟩
          refine hp_go (fun G => TB TC H a dx [("_kind", .ref k), ("_letters", .ref L)] T3 D Rc M fs out ms G) (tb10.fld _) fun GA tbA => ?_
          have eDA := tbA.eD
          refine ⟨D, _, eDA, trivial, fun od => ?_⟩
          have eF1 : (upd GA D (.frz od (.dK (numK fs)))) D = some (.frz od (.dK (numK fs))) := upd_same
          have sF : ∀ b o, b ≠ D → GA b = some o → (upd GA D (.frz od (.dK (numK fs)))) b = some o := fun b o n e => by rw [upd_ne n]; exact e
          have eRcF := sF _ _ (ne_of tbA.eRc eDA (by intro z; cases z)) tbA.eRc
          generalize upd GA D (.frz od (.dK (numK fs))) = GB at eF1 sF eRcF ⊢
          refine ⟨_, rfl, D, od, _, rfl, eF1, fun D2 nD2 => ?_⟩
          have lnk : (numK fs).length = fs.length := by unfold numK; rw [List.length_map, List.length_range]
          refine it_go (walk_items (d := D) (o := od) (kvs := numK fs)) (fun i G => Same GB G ∧ G D2 = some (.dK (thT (fs.map Fm.txt) out i))) ⟨same_new nD2, upd_same⟩ (fun i G _ h => h.1 _ _ eF1) ?_ ?_
          · rintro i x G1 G2 hi ⟨sG, eD2⟩ ⟨T', u, v, rfl, nT, rfl, hu, hv⟩
            rw [lnk] at hi
            have hq : (numK fs)[i]? = some (Sum.inr (S ((fs.map Fm.txt).getD i [])), V.int (i : Int)) := by
              unfold numK
              rw [List.getElem?_map, List.getElem?_range hi]
              rfl
            dsimp only at hu hv
            rw [hq] at hu hv
            obtain rfl := Option.some.inj hu
            obtain rfl := Option.some.inj hv
            have sT := same_new (o := .tup [kV (Sum.inr (S ((fs.map Fm.txt).getD i []))), V.int (i : Int)]) nT
            have sC : SqL K (upd G1 T' (.tup [kV (Sum.inr (S ((fs.map Fm.txt).getD i []))), V.int (i : Int)])) Rc (intsV out) := SqL.of (sT _ _ (sG _ _ eRcF))
            refine ⟨T', _, rfl, SqT.of upd_same, rfl, _, _, rfl, _, _, rfl, rfl, rfl, ?_⟩
            unfold tYes
            dsimp only
            rw [if_pos rfl]
            refine ⟨_, rfl, _, rfl, _, rfl, Rc, _, _, _, rfl, rfl, sC, at_ints (by rw [co.len]; exact hi), ?_⟩
            refine ⟨_, Sum.inr (S ((fs.map Fm.txt).getD i [])), rfl, sT _ _ eD2, ?_, same_pt nD2 (sG.trans sT), ?_⟩
            · unfold thT numT
              rw [List.length_map, List.length_map, List.length_range, sizeLine_eq]
              omega
            · rw [upd_same, putK_new _ (thT_none nd out (by rw [List.length_map]; exact hi)), thT_next]
          · rintro G ⟨sG, eD2⟩
            rw [lnk] at eD2
            refine ⟨sG _ _ eF1, ?_⟩
            have nD2D : D2 ≠ D := ne_of eD2 (sG _ _ eF1) (by intro z; cases z)
            have sGA : Same GA (upd G D (.dK (numK fs))) := fun b o e => by
              by_cases c : b = D
              · rw [c] at e ⊢
                rw [upd_same, ← eDA]
                exact e
              · rw [upd_ne c]
                exact sG _ _ (sF _ _ c e)
            have eD2' : (upd G D (.dK (numK fs))) D2 = some (.dK (thT (fs.map Fm.txt) out fs.length)) := by rw [upd_ne nD2D]; exact eD2
            generalize upd G D (.dK (numK fs)) = GC at sGA eD2' ⊢
            have tbC := tbA.same sGA
            refine ⟨_, rfl, a, TC, dx, _, rfl, tbC.at_, TF.cls, TF.n3, Nat.le_of_ble_eq_true rfl, ?_⟩
            refine hp_go (fun G => TB TC H a dx [("_kind", .ref k), ("_letters", .ref L), ("_things", .ref D2)] T3 D Rc M fs out ms G ∧ G D2 = some (.dK (thT (fs.map Fm.txt) out fs.length))) ⟨tbC.fld _, by rw [upd_ne (ne_of eD2' tbC.at_ (by intro z; cases z))]; exact eD2'⟩ fun GD ⟨tbD, eDD⟩ => ?_
            -- how many
            have eI : intsV out = (out.map fun c : Nat => (c : Int)).map V.int := by unfold intsV; rw [List.map_map]; rfl
            have eRD := tbD.eRc
            rw [eI] at eRD
            refine ⟨_, rfl, Rc, out.map fun c : Nat => (c : Int), rfl, SqL.of eRD, by rw [List.length_map, co.len]; omega, fun p c9 np hc9 => ?_⟩
            rw [List.length_map, co.len] at hc9
            have v1 := same_new (o := SetO w p (fun j => decide (j ∈ out.map fun c : Nat => (c : Int))) c9) np
            have ep : (upd GD p (SetO w p (fun j => decide (j ∈ out.map fun c : Nat => (c : Int))) c9)) p = _ := upd_same
            generalize upd GD p (SetO w p (fun j => decide (j ∈ out.map fun c : Nat => (c : Int))) c9) = GE at v1 ep ⊢
            have tbE := tbD.same v1
            refine ⟨p, _, c9, rfl, ep, by omega, _, rfl, a, TC, dx, _, rfl, tbE.at_, TF.cls, TF.n4, Nat.le_of_ble_eq_true rfl, ?_⟩
            have eDE := v1 _ _ eDD
            refine hp_go (fun G => TB TC H a dx [("_kind", .ref k), ("_letters", .ref L), ("_things", .ref D2), ("_count", .int (c9 : Nat))] T3 D Rc M fs out ms G ∧ G D2 = some (.dK (thT (fs.map Fm.txt) out fs.length))) ⟨tbE.fld _, by rw [upd_ne (ne_of eDE tbE.at_ (by intro z; cases z))]; exact eDE⟩ fun GF ⟨tbF, eDF⟩ => ?_
            refine ⟨_, rfl, _, rfl, T3, Rc, tripsF fs, out, rfl, tbF.tT, tbF.eRc, by rw [co.len]; exact tbd, by omega, fun T5 GG sG' tR => ?_⟩
            have tbG := tbF.same sG'
            refine ⟨_, rfl, a, TC, dx, _, rfl, tbG.at_, TF.cls, TF.n5, Nat.le_of_ble_eq_true rfl, ?_⟩
            have eDG := sG' _ _ eDF
            refine hp_go (fun G => TB TC H a dx [("_kind", .ref k), ("_letters", .ref L), ("_things", .ref D2), ("_count", .int (c9 : Nat)), ("_triples", .ref T5)] T3 D Rc M fs out ms G ∧ G D2 = some (.dK (thT (fs.map Fm.txt) out fs.length)) ∧ TrpsAt G T5 ((tripsF fs).map (thC out))) ⟨tbG.fld _, by rw [upd_ne (ne_of eDG tbG.at_ (by intro z; cases z))]; exact eDG, tR.put tbG.at_⟩ fun GH ⟨tbH, eDH, tH⟩ => ?_
            refine ⟨_, rfl, _, rfl, a, TC, dx, _, rfl, tbH.at_, TF.cls, TF.n6, Nat.le_of_ble_eq_true rfl, ?_⟩
            have eMH := tbH.eM
            exact q _ out m tbH.of.set ⟨⟨dx, L, D2, T5, M, k, _, ms, upd_same, by rw [upd_ne (ne_of eDH tbH.at_ (by intro z; cases z))]; exact eDH, by rw [upd_ne (ne_of eMH tbH.at_ (by intro z; cases z))]; exact eMH, tH.put tbH.at_⟩, co, nd⟩
end
end L2.K19
set_option Elab.async false
set_option linter.all false
set_option maxRecDepth 100000
set_option maxHeartbeats 4000000
/-! min(t), max(t), t a tuple of ints -/
namespace L2.Tb
open PySem PySem.Spec PyProof.Rows PySem.W
theorem alikeAll_intD (ns : List Int) : AlikeAll (ns.map PyData.int) := by
  refine ⟨fun x hx y hy => ?_, fun x hx => ?_⟩
  · obtain ⟨i, _, rfl⟩ := List.mem_map.mp hx
    obtain ⟨j, _, rfl⟩ := List.mem_map.mp hy
    rfl
  · obtain ⟨i, _, rfl⟩ := List.mem_map.mp hx
    intro z
    cases z
theorem depthAll_intD : ∀ ns : List Int, PyData.depthAll (ns.map PyData.int) ≤ 1
  | [] => by simp [PyData.depthAll]
  | n :: ns => by
    have := depthAll_intD ns
    simp only [List.map_cons, PyData.depthAll, PyData.depth]
    omega
section
variable {X : Cx}
def rMinT (K : PySem.W.Frag) : List V → Hp → VK → Prop := fun vs H Q => ∃ (a : Addr) (n : Int) (ns : List Int), vs = [V.ref a] ∧ SqT K H a ((n :: ns).map V.int) ∧ Q (.int (ns.foldl min n)) H
def rMaxT (K : PySem.W.Frag) : List V → Hp → VK → Prop := fun vs H Q => ∃ (a : Addr) (n : Int) (ns : List Int), vs = [V.ref a] ∧ SqT K H a ((n :: ns).map V.int) ∧ Q (.int (ns.foldl max n)) H
theorem reads_int {h : Heap} {v : Value} {n : Int} {as : List Addr} (r : Reads h v (.int n) as) : ∃ t, v = .int n t := by
  cases r
  exact ⟨_, rfl⟩
theorem cr_minT (hc : X.calm = true) (hu : X.A.units + 64 < cLine) : CallR X (.builtin "min") (rMinT X.K) := by
  intro pins s σ H vs us Q I r h
  obtain ⟨a, n, ns, rfl, hs, q⟩ := h
  obtain ⟨its, rv, hl, _⟩ := I.tuple hs
  rw [Vals.ref1 r]
  have rd : ReadsAll s.heap its.toArray.toList (PyData.int n :: ns.map PyData.int) [] := readsAll_vals (ns := n :: ns) rv
  have d1 := depthAll_intD (n :: ns)
  refine min_tuple_data (I.ok.hd hc) (let ⟨o, a1, a2, n, a3⟩ := hl; ⟨o, a1, a2, n, a3⟩) rd (alikeAll_intD (n :: ns)) (by rw [List.map_cons] at d1; omega) fun i v h' tk bs _ rr hk => ?_
  rw [minD_ints] at rr
  obtain ⟨t, rfl⟩ := reads_int rr
  exact ⟨.int _, H, I.kept hk, ⟨_, rfl⟩, q⟩
theorem cr_maxT (hc : X.calm = true) (hu : X.A.units + 64 < cLine) : CallR X (.builtin "max") (rMaxT X.K) := by
  intro pins s σ H vs us Q I r h
  obtain ⟨a, n, ns, rfl, hs, q⟩ := h
  obtain ⟨its, rv, hl, _⟩ := I.tuple hs
  rw [Vals.ref1 r]
  have rd : ReadsAll s.heap its.toArray.toList (PyData.int n :: ns.map PyData.int) [] := readsAll_vals (ns := n :: ns) rv
  have d1 := depthAll_intD (n :: ns)
  refine max_tuple_data (I.ok.hd hc) (let ⟨o, a1, a2, n, a3⟩ := hl; ⟨o, a1, a2, n, a3⟩) rd (alikeAll_intD (n :: ns)) (by rw [List.map_cons] at d1; omega) fun i v h' tk bs _ rr hk => ?_
  rw [maxD_ints] at rr
  obtain ⟨t, rfl⟩ := reads_int rr
  exact ⟨.int _, H, I.kept hk, ⟨_, rfl⟩, q⟩
end
end L2.Tb
set_option Elab.async false
set_option linter.all false
set_option maxRecDepth 100000
set_option maxHeartbeats 4000000
/-! o.m(k = v, ..) and o(k = v, ..) with the keywords in any order -/
namespace L2.Tb
open PySem PySem.Spec PyProof.Rows
section
variable {X : Cx} {CX : CXT} {k : Nat} {C f : Addr} {fd : FuncData} {ps ks : List Str} {sp : Sp} {E : XK} {o : Expr} {kws : List Keyword} {m : Str} {pos apos : Pos} {ta : TE} {tk : TA} {pl : Sem Bool} {gV : List V → List V} {g : List Value → List Value}
def tMethKP (C : Addr) (m : Str) (sp : Sp) (gV : List V → List V) (E : XK) (ta : TE) (tk : TA) : TE := fun σ H Q => ta σ H fun x H1 => ∃ a dx fs, x = .ref a ∧ H1 a = some (.ins C dx fs) ∧ fs.lookup m = none ∧ tk σ H1 fun zs H2 => zs.length = ps.length - 1 ∧ sp (.ref a :: gV zs) H2 Q E
/-- o.m(k = v, ..), all of m's parameters by name, in any order -/
theorem pe_methKP (gV : List V → List V) (g : List Value → List Value) (he : PE X o ta) (c : Cls X.K C) (hm : Meth X.K C m f) (F : FnOk X.prog X.w X.K X.mg X.base CX k f fd ps sp) (hr : Room k X.A) (hx : Passes CX X E) (hkw : PK X kws tk) (hl : ps.length = ks.length + 1)
    (hg : ∀ zs ws, Vals zs ws → Vals (gV zs) (g ws))
    (hb : ∀ (sh : Shared) (a : Addr) (zs : List Value), zs.length = ks.length → BindsTo sh fd ⟨[.ref a], ks.zip zs⟩ (ps.zip (Value.ref a :: g zs)))
    (hall : (backToKw pos (keywordEach kws X.env)).all (·.1.isSome) = true := by rfl) (hks : (backToKw pos (keywordEach kws X.env)).filterMap (·.1) = ks := by rfl)
    (hpl : ((backTo pos (starEach [] X.env)).any (·.1) || (backToKw pos (keywordEach kws X.env)).any (·.1.isNone)) = false := by rfl)
    (ht : eval (.Call (.Attribute o m apos) [] kws pos) X.env = (do
      let ov ← eval o X.env
      standAt apos.atName
      let (f, first) ← holding [ov] (getMethod ov m pl)
      callWith pos f first (backTo pos (starEach [] X.env)) (backToKw pos (keywordEach kws X.env))) := by rfl) :
    PE X (.Call (.Attribute o m apos) [] kws pos) (tMethKP (ps := ps) C m sp gV E ta tk) := by
  refine ⟨fun pins s σ H Q I h => PySem.W.methodCall_KW (pl := pl) (thn (he.run pins s σ H _ I h) fun u s1 hh => ?_) ht⟩
  obtain ⟨x, H1, I1, rx, a, dx, fs, ex, ea, lk, q⟩ := hh
  subst ex
  obtain rfl : u = Value.ref a := rx
  refine getmeth_ok I1 ea c hm lk (PySem.W.callWith_KW0 (h₀ := X.base) (first := [.ref a]) I.ok.mod.kin hm.kp hall (thn (hkw.run pos _ s1 σ H1 _ I1 q) fun ws s2 hh => ?_) hpl)
  obtain ⟨zs, H2, I2, rz, hzl, q2⟩ := hh
  refine ⟨I2.kIn, ?_⟩
  rw [hks]
  have hw : ws.length = ks.length := by
    rw [← rz.length]
    omega
  refine wpAny_call (codeAny_mono (F.run X.A X.stack s2 H2 ⟨[.ref a], ks.zip ws⟩ (.ref a :: g ws) (.ref a :: gV zs) Q E hr I2.env0 (hb s2 a ws hw) (.cons rfl (hg _ _ rz)) q2) fun r s3 z => ?_)
  match r, z with
  | .error e, z => exact hx pins σ H2 s2 e s3 I2 z
  | .ok (.ret u2), z => exact I2.after z
/-- the call's node where the callee is an instance, keywords too -/
theorem callO_ofK {M : Model} {A : Around} {E : Value → Shared → Prop} {s : Shared} {a : Addr} {pos : Pos} {Q : Value → Shared → Prop} {args : List (Bool × Sem Value)} {kw : List (Option Str × Sem Value)} (hplain : (args.any (·.1) || kw.any (·.1.isNone)) = false)
    (h : wpAny M A (evalArgs (.ref a) true args kw) (fun z s₁ => (∃ C ox od, PySem.W.InstAt s₁.heap a ox C od ∧ ox.data = .plain) ∧ wpAny M A (call (.ref a) ([] ++ z.pos) z.kw) Q E s₁) E s) : wpAny M A (callWith pos (.ref a) [] args kw) Q E s := by
  unfold callWith
  refine wpAny_bind (wpAny_holding (wpAny_mono h (fun z s₁ h₁ => wpAny_bind (wpAny_standAt ?_)) fun _ _ y => y))
  obtain ⟨⟨C, ox, od, J, hd⟩, h₁⟩ := h₁
  have L := PySem.W.kco_keeper (M := M) J hd
  simp only [hplain]
  refine wpAny_bind (L.here ?_)
  have tail : ∀ {t : Sem Value}, wpAny M A t Q E s₁ → wpAny M A (t >>= fun r => holding [r] point >>= fun _ => pure r) Q E s₁ :=
    fun ht => wpAny_bind (wpAny_mono ht (fun r s₂ hr => wpAny_bind (wpAny_holding (wpAny_point (wpAny_pure hr)))) fun _ _ y => y)
  exact tail (wpAny_operateT h₁)
def tCallOKP (C : Addr) (n : Nat) (sp : Sp) (gV : List V → List V) (E : XK) (tf : TE) (tk : TA) : TE := fun σ H Q => tf σ H fun y H1 => ∃ a, y = V.ref a ∧ tk σ H1 fun zs H2 => zs.length = n ∧ (∃ dx fs, H2 a = some (.ins C dx fs)) ∧ sp (V.ref a :: gV zs) H2 Q E
/-- o(k = v, ..), o an instance whose class has an own __call__ -/
theorem pe_callOKP {fe : Expr} {tf : TE} (gV : List V → List V) (g : List Value → List Value) (hf : PE X fe tf) (c : StX.CallO X.K C f) (F : FnOk X.prog X.w X.K X.mg X.base CX k f fd ps sp) (hr : Room k X.A) (hx : Passes CX X E) (hkw : PK X kws tk)
    (hg : ∀ zs ws, Vals zs ws → Vals (gV zs) (g ws))
    (hb : ∀ (sh : Shared) (a : Addr) (zs : List Value), zs.length = ks.length → BindsTo sh fd ⟨[.ref a], ks.zip zs⟩ (ps.zip (Value.ref a :: g zs)))
    (hall : (backToKw pos (keywordEach kws X.env)).all (·.1.isSome) = true := by rfl) (hks : (backToKw pos (keywordEach kws X.env)).filterMap (·.1) = ks := by rfl)
    (hpl : ((backTo pos (starEach [] X.env)).any (·.1) || (backToKw pos (keywordEach kws X.env)).any (·.1.isNone)) = false := by rfl)
    (ht : eval (.Call fe [] kws pos) X.env = (do callWith pos (← eval fe X.env) [] (backTo pos (starEach [] X.env)) (backToKw pos (keywordEach kws X.env))) := by rfl) :
    PE X (.Call fe [] kws pos) (tCallOKP C ks.length sp gV E tf tk) := by
  refine ⟨fun pins s σ H Q I h => ?_⟩
  rw [ht]
  refine wpAny_bind (thn (hf.run pins s σ H _ I h) fun u s1 ⟨y, H1, I1, ry, a, ey, q⟩ => ?_)
  subst ey
  obtain rfl : u = Value.ref a := ry
  refine callO_ofK hpl (evalArgs_kw2_nil hall (thn (hkw.run pos _ s1 σ H1 _ I1 q) fun ws s2 hh => ?_))
  obtain ⟨zs, H2, I2, rz, hzl, hi, q2⟩ := hh
  obtain ⟨ox, od, J, hd⟩ := StX.insC_at I2 (show StX.InsC X H2 a C from .inr hi)
  rw [hks]
  have hw : ws.length = ks.length := by
    rw [← rz.length]
    exact hzl
  refine ⟨⟨C, ox, od, J, hd⟩, wpAny_call (PySem.W.kco_code I2.kIn J hd c.at_ c.fn c.fi (codeAny_mono (F.run X.A X.stack s2 H2 ⟨[.ref a], ks.zip ws⟩ (.ref a :: g ws) (.ref a :: gV zs) Q E hr I2.env0 (hb s2 a ws hw) (.cons rfl (hg _ _ rz)) q2) fun r s3 z => ?_))⟩
  match r, z with
  | .error e, z => exact hx pins σ H2 s2 e s3 I2 z
  | .ok (.ret u2), z => exact I2.after z
def tCallOP (C : Addr) (sp : Sp) (E : XK) (tf : TE) (t : TA) : TE := fun σ H Q => tf σ H fun y H1 => ∃ a, y = V.ref a ∧ t σ H1 fun vs H2 => (∃ dx fs, H2 a = some (.ins C dx fs)) ∧ sp (V.ref a :: vs) H2 Q E
/-- o(e, ..), as StX.pe_callO; the wish does not name the context -/
theorem pe_callOP {fe e : Expr} {es : List Expr} {tf : TE} {t : TA} (hf : PE X fe tf) (c : StX.CallO X.K C f) (F : FnR X.prog X.w X.K X.mg X.base CX k f sp) (hr : Room k X.A) (hx : Passes CX X E) (ha : PA X (e :: es) t)
    (ht : eval (.Call fe (e :: es) [] pos) X.env = (do callWith pos (← eval fe X.env) [] (backTo pos (starEach (e :: es) X.env)) (backToKw pos (keywordEach [] X.env))) := by rfl)
    (he : starEach (e :: es) X.env = (false, eval e X.env) :: starEach es X.env := by rfl) (hpl : (backTo pos (starEach es X.env)).any (·.1) = false := by rfl) : PE X (.Call fe (e :: es) [] pos) (tCallOP C sp E tf t) := by
  refine ⟨fun pins s σ H Q I h => ?_⟩
  refine Call_ (thn (hf.run pins s σ H _ I h) fun u s1 ⟨y, H1, I1, ry, a, ey, q⟩ => ?_) ht
  subst ey
  obtain rfl : u = Value.ref a := ry
  refine StX.callO_with (thn (ha.run pos pins s1 σ H1 _ I1 q) fun us s2 ⟨vs, H2, I2, r, hi, q2⟩ => ?_) he hpl
  have hi : StX.InsC X H2 a C := .inr hi
  obtain ⟨ox, od, J, hd⟩ := StX.insC_at I2 hi
  exact ⟨⟨C, ox, od, J, hd⟩, StX.run_callO c F hr hx I2 hi r q2⟩
end
end L2.Tb
set_option Elab.async false
set_option linter.all false
set_option maxRecDepth 100000
set_option maxHeartbeats 4000000
/-! a def of the module called by keywords alone, in any order -/
namespace L2.Tb
open PySem PySem.Spec PyProof.Rows
structure CalXKP (P : Program) (w : World) (K : PySem.W.Frag) (mg : Str → Option Value) (base : Heap) (k : Nat) (x : Str) (ks : List Str) (gV : List V → List V) (sp : Sp) : Prop where
  ex : ∃ (f : Addr) (fd : FuncData) (ps : List Str) (g : List Value → List Value), FnOk P w K mg base (L2.CX P w) k f fd ps sp ∧ mg x = some (.ref f) ∧ PySem.W.keepIn K (.ref f) = true ∧ (∀ (zs : List V) (ws : List Value), Vals zs ws → Vals (gV zs) (g ws)) ∧ ∀ (sh : Shared) (zs : List Value), zs.length = ks.length → BindsTo sh fd ⟨[], ks.zip zs⟩ (ps.zip (g zs))
section
variable {P : Program} {w : World} {K : PySem.W.Frag} {mg : Str → Option Value} {base : Heap} {x : Str} {st : Stmt} {f : Addr} {fd : FuncData} {k : Nat} {sp : Sp} {ps ks : List Str}
theorem calXKP_of (gV : List V → List V) (g : List Value → List Value) (hg : ∀ (zs : List V) (ws : List Value), Vals zs ws → Vals (gV zs) (g ws)) (F : FnP K x st f fd) (hm : mg x = some (.ref f))
    (hb : ∀ (kV doc pm : Value) (an : Option Addr) (cdv ct : Value) (zs : List Value), zs.length = ks.length → bindArgs (PySem.W.fnOf x x (defArgs st) (defBody st) (defScope st) .none kV doc pm an cdv ct) ⟨[], ks.zip zs⟩ = pure (ps.zip (g zs)))
    (h : FnOk P w K mg base (L2.CX P w) k f fd ps sp) : CalXKP P w K mg base k x ks gV sp := by
  refine ⟨f, fd, ps, g, h, hm, F.kp, hg, fun sh zs hl => ?_⟩
  obtain ⟨oc, od, dV, kV, doc, pm, an, cdv, ct, osl, rfl, lk, hcd, hD, hK⟩ := F.ex
  rcases hD with ⟨_, rfl⟩ | ⟨e, _⟩
  · exact .of_eq (hb kV doc pm an cdv ct zs hl)
  · exact absurd rfl e
end
section
variable {X : Cx} {k j : Nat} {x : Str} {ks : List Str} {sp : Sp} {p pos : Pos} {kws : List Keyword} {tk : TA} {E : XK} {gV : List V → List V}
def tCallKWP (gV : List V → List V) (sp : Sp) (E : XK) (n : Nat) (tk : TA) : TE := fun σ H Q => tk σ H fun zs H2 => zs.length = n ∧ sp (gV zs) H2 Q E
theorem pe_calXKP (c : CalXKP X.prog X.w X.K X.mg X.base k x ks gV sp) (hr : Room j X.A) (hk : k ≤ j) (hg : Gl X x) (hx : Passes (L2.CX X.prog X.w) X E) (hkw : PK X kws tk)
    (hall : (backToKw pos (keywordEach kws X.env)).all (·.1.isSome) = true := by rfl) (hks : (backToKw pos (keywordEach kws X.env)).filterMap (·.1) = ks := by rfl)
    (hdb : (x == ("__debug__" : Str)) = false := by decide)
    (hpl : ((backTo pos (starEach [] X.env)).any (·.1) || (backToKw pos (keywordEach kws X.env)).any (·.1.isNone)) = false := by rfl) :
    PE X (.Call (.Name x p) [] kws pos) (tCallKWP gV sp E ks.length tk) := by
  obtain ⟨f, fd, ps, g, F, hm, kp, hgg, hb⟩ := c.ex
  refine ⟨fun pins s σ H Q I h => ?_⟩
  refine wpAny_Call_Name_kw (ld_glob I hg hm ?_ hdb)
  refine PySem.W.callWith_KW0 (h₀ := X.base) (first := []) I.ok.mod.kin kp hall (thn (hkw.run pos pins s σ H _ I h) fun ws s2 hh => ?_) hpl
  obtain ⟨zs, H2, I2, rz, hzl, q2⟩ := hh
  refine ⟨I2.kIn, ?_⟩
  rw [hks]
  have hw : ws.length = ks.length := by rw [← rz.length]; exact hzl
  refine wpAny_call (codeAny_mono (F.run X.A X.stack s2 H2 ⟨[], ks.zip ws⟩ (g ws) (gV zs) Q E (hr.mono hk) I2.env0 (hb s2 ws hw) (hgg _ _ rz) q2) fun r s3 z => ?_)
  match r, z with
  | .error e, z => exact hx pins σ H2 s2 e s3 I2 z
  | .ok (.ret u2), z => exact I2.after z
end
end L2.Tb
set_option Elab.async false
set_option linter.all false
set_option maxRecDepth 100000
set_option maxHeartbeats 8000000
namespace L2.K19
open PySem PySem.Spec PyProof.Rows L2.Tb
open SX (S)
abbrev s_check_kind : Stmt := top 40
abbrev N_check_kind : List Str := ["kind"]
theorem sc_check_kind : FnScope N_check_kind ["kind"] (defScope s_check_kind) := ⟨rfl, rfl, rfl, by decide +kernel, rfl, by decide +kernel, by decide +kernel⟩
/-- a kind, or what is none -/
def spCheck (K : PySem.W.Frag) (C CN : Addr) : Sp := fun vs H Q E => ∃ v : V, vs = [v] ∧
  ((∃ (a : Addr) (z : Str) (b : Bool), v = .ref a ∧ KindAt C H a z b ∧ Q .non H) ∨ (∃ t, TyX K H v t ∧ PySem.W.kitOne K t (.ref C) = some false ∧ ∀ d H', Same H H' → H d = none → H' d = some (.xd [("given", v)]) → E (.ref CN) (some d) H'))
section
variable {P : Program} {w : World} {K : PySem.W.Frag} {mg : Str → Option Value} {base : Heap} {f : Addr} {fd : FuncData} {C dL CT CF CN : Addr} {es : Array DictEntry} {n : Nat}
theorem c_check (T : Bt mg) (KF : KiF P w K mg base C dL CT CF es n) (KG : KiG K w mg C dL) (eN : ErC P w K mg base "NotAKind" "given" bVE CN) (tyN : PySem.W.typeIn K (.ref CN) = some (.type "type")) (F : FnP K "check_kind" s_check_kind f fd) : FnOk P w K mg base (L2.CX P w) 3 f fd ["kind"] (spCheck K C CN) := by
  have hnd := sc_check_kind.nd
  refine F.ok sc_check_kind (fun vs H Q E h => ?_) (fun cdv A outer s H vs Q E hr h => ?_)
  · obtain ⟨v, rfl, _⟩ := h
    rfl
  · obtain ⟨v, rfl, h⟩ := h
    refine ⟨_, (pss_one (ps_if (pt_not (pt_val (pe_callB call_isi (by rfl) T.m_isinstance (by decide +kernel) (pa_cons (pv 0) (pa_cons (pe_glob (v := .ref C) (by rfl) KF.mgC rfl) pa_nil)))))
      (pss_one (ps_raise (by rfl) (takes_of rfl rfl rfl rfl) (pmk_er eN tyN hr (by omega) (by rfl) (pv 0))))
      pss_nil)), ?_⟩
    rcases h with ⟨a, z, b, rfl, ⟨dx, e⟩, q⟩ | ⟨t, ty, kn, q⟩
    · exact ⟨_, rfl, _, _, _, _, _, rfl, .own C, .base (.ins e KF.cls KG.ex.ha KG.ex.hn KG.ex.ht KG.ex.hm), KG.self, true, rfl, iteF q⟩
    · exact ⟨_, rfl, _, _, _, _, _, rfl, .own C, ty, kn, false, rfl, iteT ⟨_, rfl, q⟩⟩
end
/-! ### facts checked, and what follows from them -/
abbrev s_is_fact : Stmt := top 29
abbrev N_is_fact : List Str := ["value", "side"]
theorem sc_is_fact : FnScope N_is_fact ["value"] (defScope s_is_fact) := ⟨rfl, rfl, rfl, by decide +kernel, rfl, by decide +kernel, by decide +kernel⟩
abbrev s_check_facts : Stmt := top 28
abbrev N_check_facts : List Str := ["facts", "index", "fact"]
theorem sc_check_facts : FnScope N_check_facts ["facts"] (defScope s_check_facts) := ⟨rfl, rfl, rfl, by decide +kernel, rfl, by decide +kernel, by decide +kernel⟩
abbrev s_pair_table : Stmt := top 55
abbrev N_pair_table : List Str := ["kind", "facts", "one", "other"]
theorem sc_pair_table : FnScope N_pair_table ["kind", "facts", "one", "other"] (defScope s_pair_table) := ⟨rfl, rfl, rfl, by decide +kernel, rfl, by decide +kernel, by decide +kernel⟩
abbrev s_follows : Stmt := top 54
abbrev N_follows : List Str := ["kind", "facts", "one", "other"]
theorem sc_follows : FnScope N_follows ["kind", "facts", "one", "other"] (defScope s_follows) := ⟨rfl, rfl, rfl, by decide +kernel, rfl, by decide +kernel, by decide +kernel⟩
def spIsFact (FC : Addr) : Sp := fun vs H Q _ => ∃ (p l r : Addr) (e : Fm × Fm), vs = [.ref p] ∧ H p = some (.tup [.ref l, .ref r]) ∧ FmAt FC H l e.1 ∧ FmAt FC H r e.2 ∧ ∀ H', Same H H' → Q (.bl true) H'
/-- right facts only -/
def spCheckFacts (FC : Addr) : Sp := fun vs H Q _ => ∃ (F : Addr) (facts : List (Fm × Fm)), vs = [.ref F] ∧ FactsAt FC H F facts ∧ facts.length ≤ 4 ∧ ∀ H', Same H H' → Q .non H'
def okArgs (facts : List (Fm × Fm)) (gs : List Fm) : Prop := facts.length ≤ 4 ∧ (∀ g ∈ sidesF facts ++ gs, g.ok = true ∧ g.ops ≤ 8) ∧ (tabF facts gs).length < 64
def spPairTable (FC C TC : Addr) : Sp := fun vs H Q _ => ∃ (k F x y : Addr) (z : Str) (b : Bool) (facts : List (Fm × Fm)) (f g : Fm), vs = [.ref k, .ref F, .ref x, .ref y] ∧ KindAt C H k z b ∧ wordsD.contains z = true ∧ FactsAt FC H F facts ∧ FmAt FC H x f ∧ FmAt FC H y g ∧ okArgs facts [f, g] ∧
  ∀ (a : Addr) (H' : Hp) (out : List Nat) (m : Nat), Same H H' → TaAt TC z b (tabF facts [f, g]) (eqsF facts (tabF facts [f, g])) H' a out m → Q (.ref a) H'
/-- alike in the closed table -/
def Alike (z : Str) (b : Bool) (facts : List (Fm × Fm)) (f g : Fm) : Prop := ClI (eqsF facts (tabF facts [f, g])) (imsF z b (tabF facts [f, g]).length (tripsF (tabF facts [f, g]))) (ixX (tabF facts [f, g]) f.txt) (ixX (tabF facts [f, g]) g.txt)
def spFollows (FC C : Addr) : Sp := fun vs H Q _ => ∃ (k F x y : Addr) (z : Str) (b : Bool) (facts : List (Fm × Fm)) (f g : Fm), vs = [.ref k, .ref F, .ref x, .ref y] ∧ KindAt C H k z b ∧ wordsD.contains z = true ∧ FactsAt FC H F facts ∧ FmAt FC H x f ∧ FmAt FC H y g ∧ okArgs facts [f, g] ∧
  ∀ (c : Bool) (H' : Hp), Same H H' → (c = true ↔ Alike z b facts f g) → Q (.bl c) H'
section
variable {P : Program} {w : World} {K : PySem.W.Frag} {mg : Str → Option Value} {base : Heap} {f : Addr} {fd : FuncData} {FC TC C dL CT CF CN CNF CIF : Addr} {es : Array DictEntry} {n9 : Nat}
theorem c_is_fact (T : Bt mg) (FF : FoF K mg FC) (F : FnP K "_is_fact" s_is_fact f fd) (hm : mg "_is_fact" = some (.ref f)) : Cal P w K mg base 2 "_is_fact" (spIsFact FC) := by
  have hnd := sc_is_fact.nd
  refine cal_mk F hm sc_is_fact (fun _ _ _ _ _ _ us hl => match us, hl with | [_], _ => rfl) (fun vs H Q E h => ?_) (fun cdv A outer s H vs Q E hr h => ?_)
  · obtain ⟨p, l, r, e, rfl, _⟩ := h
    rfl
  · obtain ⟨p, l, r, e, rfl, ep, hl, hr9, q⟩ := h
    refine ⟨_, (pss_one (ps_ret (pe_and (pe_callB call_isi (by rfl) T.m_isinstance (by decide +kernel) (pa_cons (pv 0) (pa_cons (pe_bltn (v := .ty "tuple") (by rfl) T.m_tuple (by decide +kernel) rfl) pa_nil))) (pe_and (pe_cmpR op_eq (pe_callB call_len_seq (by rfl) T.m_len (by decide +kernel) (pa_cons (pv 0) pa_nil)) pe_int (nomark _)) (pe_one (pe_callB (cr_all (by rfl)) (by rfl) T.m_all (by decide +kernel) (pa_cons (pe_lc (own := [("side", 1)]) (tt := tYes) (by rfl) hnd (pi_tup (pv 0)) (blkOk_by (own := [("side", 1)]) (N := N_is_fact) (sc := defScope s_is_fact) (by decide +kernel)) (fun _ _ _ _ _ => (pg_name (i := 1) hnd rfl (by first | exact Or.inl rfl | exact Or.inr rfl))) (fun _ _ _ _ _ => pts_nil) (fun _ _ _ _ _ => (pe_callB (show CallR _ (.builtin "isinstance") (rIsi K) from call_isi) (by rfl) T.m_isinstance (by decide +kernel) (pa_cons (pv 1) (pa_cons (pe_glob (v := .ref FC) (by rfl) FF.mgF rfl) pa_nil))))) pa_nil))))))), ?_⟩
    refine ⟨_, rfl, _, _, _, _, _, rfl, .ty _, .base (.tup ep), kit_ty (by decide +kernel : kitB "tuple" "tuple" = some true), _, rfl, iteT ⟨_, rfl, _, _, rfl, .inr (SqT.of ep), rfl, _, rfl, iteT (cb_one ?_)⟩⟩
    refine ⟨_, rfl, p, rfl, ⟨_, SqT.of ep⟩, fun D nD => ?_⟩
    refine lc_tup (xs := [V.ref l, V.ref r]) (fun i G => Same H G ∧ G D = some (.lst ((List.replicate i true).map V.bl))) ⟨same_new nD, upd_same⟩ (fun i G _ z => SqT.of (z.1 _ _ ep)) ?_ ?_
    · rintro i x G hx ⟨s1, e1⟩
      have hi : i < 2 := (List.getElem?_eq_some_iff.mp hx).1
      have hf : ∃ a g, x = V.ref a ∧ FmAt FC G a g := by
        rcases (show i = 0 ∨ i = 1 by omega) with rfl | rfl
        · exact ⟨l, e.1, (Option.some.inj hx).symm, hl.same s1⟩
        · exact ⟨r, e.2, (Option.some.inj hx).symm, hr9.same s1⟩
      obtain ⟨a, g, rfl, hf⟩ := hf
      refine ⟨rfl, ?_⟩
      unfold tYes
      dsimp only
      rw [if_pos rfl]
      refine ⟨_, rfl, _, _, _, _, _, rfl, .own FC, hf.ty FF, FF.self, _, e1, by rw [List.length_map, List.length_replicate, sizeLine_eq]; omega, same_pt nD s1, ?_⟩
      rw [upd_same, List.replicate_succ', List.map_append]
      rfl
    · rintro G ⟨s1, e1⟩
      exact ⟨D, [true, true], rfl, SqL.of e1, q G s1⟩
theorem c_check_facts (T : Bt mg) (hmf : ∃ t, mg "MOST_FACTS" = some (.int 4 t)) (k_is_fact : Cal P w K mg base 2 "_is_fact" (spIsFact FC)) (eInvalidFacts : ErC P w K mg base "InvalidFacts" "index" bVE CIF) (tyInvalidFacts : PySem.W.typeIn K (.ref CIF) = some (.type "type")) (F : FnP K "check_facts" s_check_facts f fd) (hm : mg "check_facts" = some (.ref f)) :
    CalX P w K mg base 3 "check_facts" (spCheckFacts FC) := by
  have hnd := sc_check_facts.nd
  obtain ⟨t4, hmf⟩ := hmf
  refine calX_of F hm (fun _ _ _ _ _ _ us hl => match us, hl with | [_], _ => rfl) (F.ok sc_check_facts (fun vs H Q E h => ?_) (fun cdv A outer s H vs Q E hr h => ?_))
  · obtain ⟨F9, facts, rfl, _⟩ := h
    rfl
  · obtain ⟨F9, facts, rfl, ⟨ps, eF, pF⟩, l4, q⟩ := h
    have lps := pF.length
    refine ⟨_, (pss_cons (ps_if (pt_not (pt_val (pe_callB call_isi (by rfl) T.m_isinstance (by decide +kernel) (pa_cons (pv 0) (pa_cons (pe_bltn (v := .ty "tuple") (by rfl) T.m_tuple (by decide +kernel) rfl) pa_nil)))))
      (pss_one (ps_raise (by rfl) (takes_of rfl rfl rfl rfl) (pmk_er eInvalidFacts tyInvalidFacts hr (by omega) (by rfl) pe_non)))
      pss_nil)
      (pss_one (ps_for (passes_of rfl) (by rfl) (pi_enumT (by rfl) T.m_enumerate (pa_cons (pv 0) pa_nil)) (pg_tup (by rfl) (pgs_cons (pg_name (i := 1) hnd rfl (by first | exact Or.inl rfl | exact Or.inr rfl)) (pgs_cons (pg_name (i := 2) hnd rfl (by first | exact Or.inl rfl | exact Or.inr rfl)) pgs_nil)))
      (pss_one (ps_if (PW.pt (pw_or (pt_cmpR op_eq (pv 1) (pe_glob (v := .int 4) (by rfl) hmf ⟨_, rfl⟩) (nomark _)) (pw_or1 (pt_not (pt_val (pe_cal k_is_fact hr (by omega) (by rfl) (pa_cons (pv 2) pa_nil)))))))
      (pss_one (ps_raise (by rfl) (takes_of rfl rfl rfl rfl) (pmk_er eInvalidFacts tyInvalidFacts hr (by omega) (by rfl) (pv 1))))
      pss_nil))))), ?_⟩
    refine ⟨_, rfl, _, _, _, _, _, rfl, .ty _, .base (.tup eF), kit_ty (by decide +kernel : kitB "tuple" "tuple" = some true), _, rfl, iteF ?_⟩
    dsimp only [tNext]
    refine ⟨_, rfl, F9, _, rfl, SqT.of eF, ?_⟩
    refine for_it (walk_enumT (K := K) (a := F9) (xs := ps.map V.ref)) (fun i σ' G => Same H G ∧ ∃ x1 x2 : Option V, σ' = [some (.ref F9), x1, x2]) ⟨Same.refl _, _, _, rfl⟩ (fun i σ' G _ h => SqT.of (h.1 _ _ eF)) ?_ ?_
    · rintro i x σ' G G' hi ⟨sG, x1, x2, rfl⟩ ⟨T', u, v, rfl, nT, rfl, hu, hv⟩
      rw [List.length_map] at hi
      have h1 : ps[i]? = some ps[i] := List.getElem?_eq_getElem hi
      have h2 : facts[i]? = some (facts[i]'(by omega)) := List.getElem?_eq_getElem (by omega)
      generalize ps[i] = p0 at h1
      generalize (facts[i]'(by omega)) = e0 at h2
      dsimp only at hu hv
      rw [List.getElem?_map, h1] at hv
      obtain rfl := Option.some.inj hu
      obtain rfl := Option.some.inj hv
      obtain ⟨l, r, ep, hl0, hr0⟩ := paired_get2 pF i _ _ h1 h2
      have sT := sG.trans (same_new (o := .tup [V.int (i : Int), V.ref p0]) nT)
      have eT : (upd G T' (.tup [V.int (i : Int), V.ref p0])) T' = some (.tup [V.int (i : Int), V.ref p0]) := upd_same
      generalize upd G T' (.tup [V.int (i : Int), V.ref p0]) = G1 at sT eT ⊢
      refine ⟨T', _, rfl, SqT.of eT, rfl, _, _, rfl, _, _, rfl, rfl, ?_⟩
      try dsimp only
      have n4 : decide (V.int (i : Int) = V.int 4) = false := decide_eq_false fun z => by injection z with z; omega
      refine ⟨_, rfl, rfl, _, rfl, iteN2 n4 ⟨_, rfl, p0, l, r, e0, rfl, sT _ _ ep, hl0.same sT, hr0.same sT, fun H' s' => ⟨_, rfl, iteF ⟨sT.trans s', _, _, rfl⟩⟩⟩⟩
    · rintro σ' G ⟨sG, x1, x2, rfl⟩
      exact q G sG
theorem c_pair_table (T : Bt mg) (TF : TaF K mg TC) {ft : Addr} {fdt : FuncData} (TM : Mk K TC ft) (FiT : FnOk P w K mg base L2.CX0 8 ft fdt ["self", "kind", "facts", "formulas"] (spTinit FC C TC)) (BiT : Binds K fdt ["self", "kind", "facts", "formulas"] [])
    (x_check_kind : CalX P w K mg base 3 "check_kind" (spCheck K C CN)) (x_check_facts : CalX P w K mg base 3 "check_facts" (spCheckFacts FC)) (x_check_formula : CalX P w K mg base 3 "check_formula" (spCheckF K FC CNF))
    (F : FnP K "_pair_table" s_pair_table f fd) (hm : mg "_pair_table" = some (.ref f)) : CalX P w K mg base 10 "_pair_table" (spPairTable FC C TC) := by
  have hnd := sc_pair_table.nd
  refine calX_of F hm (fun _ _ _ _ _ _ us hl => match us, hl with | [_, _, _, _], _ => rfl) (F.ok sc_pair_table (fun vs H Q E h => ?_) (fun cdv A outer s H vs Q E hr h => ?_))
  · obtain ⟨k, F9, x, y, z, b, facts, f0, g0, rfl, _⟩ := h
    rfl
  · obtain ⟨k, F9, x, y, z, b, facts, f0, g0, rfl, hk, hz, hF, hx, hy, ⟨l4, okg, n64⟩, q⟩ := h
    refine ⟨_, (pss_cons (ps_expr (pe_calX x_check_kind hr (by omega) (by rfl) (passes_call (takes_of rfl rfl rfl rfl) (fun _ _ _ _ h => h)) (pa_cons (pv 0) pa_nil)))
      (pss_cons (ps_expr (pe_calX x_check_facts hr (by omega) (by rfl) (passes_call (takes_of rfl rfl rfl rfl) (fun _ _ _ _ h => h)) (pa_cons (pv 1) pa_nil)))
      (pss_cons (ps_expr (pe_calX x_check_formula hr (by omega) (by rfl) (passes_call (takes_of rfl rfl rfl rfl) (fun _ _ _ _ h => h)) (pa_cons (pv 2) pa_nil)))
      (pss_cons (ps_expr (pe_calX x_check_formula hr (by omega) (by rfl) (passes_call (takes_of rfl rfl rfl rfl) (fun _ _ _ _ h => h)) (pa_cons (pv 3) pa_nil)))
      (pss_one (ps_ret (pe_make (E := L2.E0) TM FiT (hr.mono (by omega)) (by rfl) TF.mgT BiT .nil (fun _ _ _ _ _ _ _ h => h.elim) (pa_cons (pv 0) (pa_cons (pv 1) (pa_cons (pe_tup (pa_cons (pv 2) (pa_cons (pv 3) pa_nil))) pa_nil)))))))))), ?_⟩
    refine ⟨_, rfl, _, rfl, .inl ⟨k, z, b, rfl, hk, ?_⟩⟩
    refine ⟨_, rfl, F9, facts, rfl, hF, l4, fun H1 s1 => ?_⟩
    refine ⟨_, rfl, _, rfl, .inl ⟨x, f0, rfl, hx.same s1, ?_⟩⟩
    refine ⟨_, rfl, _, rfl, .inl ⟨y, g0, rfl, hy.same s1, ?_⟩⟩
    refine ⟨_, rfl, _, rfl, _, rfl, _, rfl, Nat.le_of_ble_eq_true rfl, fun q9 n9 => ?_⟩
    have s2 := s1.trans (same_new (o := .tup [V.ref x, V.ref y]) n9)
    have e9 : (upd H1 q9 (.tup [V.ref x, V.ref y])) q9 = some (.tup ([x, y].map V.ref)) := upd_same
    generalize upd H1 q9 (.tup [V.ref x, V.ref y]) = H2 at s2 e9 ⊢
    intro a dx na ndx nex
    have s3 : Same H2 (upd (upd H2 dx (.own a)) a (.ins TC dx [])) := fun b o e => by rw [upd_ne (ne_of_none e na), upd_ne (ne_of_none e ndx)]; exact e
    refine ⟨a, dx, k, F9, q9, z, b, facts, [x, y], [f0, g0], rfl, upd_same, hk.same (s2.trans s3), hz, hF.same (s2.trans s3), s3 _ _ e9, .cons (hx.same (s2.trans s3)) (.cons (hy.same (s2.trans s3)) .nil), fun z => (by cases z), by omega, Nat.le_of_ble_eq_true rfl, fun g hg => ⟨(okg g hg).1, Nat.le_trans (okg g hg).2 (by decide)⟩, n64, fun H' out m of ta => ⟨rfl, q a H' out m (s2.trans (new_off na ndx of)) ta⟩⟩
theorem c_followsF (TF : TaF K mg TC) {fa : Addr} {fda : FuncData} (hAl : Meth K TC "alike" fa) (FAl : FnOk P w K mg base L2.CX0 6 fa fda ["self", "one", "other"] (spTalike FC TC)) (BAl : Binds K fda ["self", "one", "other"] [])
    (x_pair_table : CalX P w K mg base 10 "_pair_table" (spPairTable FC C TC)) (F : FnP K "follows" s_follows f fd) : FnOk P w K mg base (L2.CX P w) 12 f fd ["kind", "facts", "one", "other"] (spFollows FC C) := by
  have hnd := sc_follows.nd
  refine F.ok sc_follows (fun vs H Q E h => ?_) (fun cdv A outer s H vs Q E hr h => ?_)
  · obtain ⟨k, F9, x, y, z, b, facts, f0, g0, rfl, _⟩ := h
    rfl
  · obtain ⟨k, F9, x, y, z, b, facts, f0, g0, rfl, hk, hz, hF, hx, hy, ok, q⟩ := h
    refine ⟨_, (pss_one (ps_ret (pe_meth (E := L2.E0) (pe_calX x_pair_table hr (by omega) (by rfl) (passes_call (takes_of rfl rfl rfl rfl) (fun _ _ _ _ h => h)) (pa_cons (pv 0) (pa_cons (pv 1) (pa_cons (pv 2) (pa_cons (pv 3) pa_nil))))) TF.cls hAl FAl (hr.mono (by omega)) BAl .nil (fun _ _ _ _ _ _ _ h => h.elim) (pa_cons (pv 2) (pa_cons (pv 3) pa_nil))))), ?_⟩
    refine ⟨_, rfl, _, rfl, _, rfl, _, rfl, k, F9, x, y, z, b, facts, f0, g0, rfl, hk, hz, hF, hx, hy, ok, fun a H1 out m s1 ta => ?_⟩
    obtain ⟨dx, L, D, T9, M, kk, cv, ms, ea, _⟩ := ta.ex
    have has : ∀ g ∈ [f0, g0], g.txt ∈ (tabF facts [f0, g0]).map Fm.txt := fun g hg => tab_has (List.mem_append_right _ hg)
    exact ⟨a, dx, _, rfl, ea, rfl, _, rfl, _, rfl, a, x, y, f0, g0, z, b, _, _, out, m, rfl, ta, hx.same s1, hy.same s1, has _ (by simp), has _ (by simp), fun c hc => q c H1 s1 hc⟩
theorem c_follows (TF : TaF K mg TC) {fa : Addr} {fda : FuncData} (hAl : Meth K TC "alike" fa) (FAl : FnOk P w K mg base L2.CX0 6 fa fda ["self", "one", "other"] (spTalike FC TC)) (BAl : Binds K fda ["self", "one", "other"] [])
    (x_pair_table : CalX P w K mg base 10 "_pair_table" (spPairTable FC C TC)) (F : FnP K "follows" s_follows f fd) (hm : mg "follows" = some (.ref f)) : CalX P w K mg base 12 "follows" (spFollows FC C) :=
  calX_of F hm (fun _ _ _ _ _ _ us hl => match us, hl with | [_, _, _, _], _ => rfl) (c_followsF TF hAl FAl BAl x_pair_table F)
theorem revV : ∀ (zs : List V) (ws : List Value), Vals zs ws → Vals zs.reverse ws.reverse := fun zs ws r => by
  induction r with
  | nil => exact .nil
  | cons h t ih =>
    rw [List.reverse_cons, List.reverse_cons]
    have app : ∀ {a : List V} {b : List Value} {c : List V} {d : List Value}, Vals a b → Vals c d → Vals (a ++ c) (b ++ d) := fun {a b c d} r s => by
      induction r with
      | nil => exact s
      | cons h _ ih => exact .cons h ih
    exact app ih (.cons h .nil)
theorem c_followsK (TF : TaF K mg TC) {fa : Addr} {fda : FuncData} (hAl : Meth K TC "alike" fa) (FAl : FnOk P w K mg base L2.CX0 6 fa fda ["self", "one", "other"] (spTalike FC TC)) (BAl : Binds K fda ["self", "one", "other"] [])
    (x_pair_table : CalX P w K mg base 10 "_pair_table" (spPairTable FC C TC)) (F : FnP K "follows" s_follows f fd) (hm : mg "follows" = some (.ref f)) : CalXKP P w K mg base 12 "follows" ["other", "one", "facts", "kind"] List.reverse (spFollows FC C) :=
  calXKP_of List.reverse List.reverse revV F hm (fun _ _ _ _ _ _ zs hl => match zs, hl with | [_, _, _, _], _ => rfl) (c_followsF TF hAl FAl BAl x_pair_table F)
end
end L2.K19
set_option Elab.async false
set_option linter.all false
set_option maxRecDepth 100000
set_option maxHeartbeats 4000000
/-! for i, x in enumerate(t), t a list or a tuple -/
namespace L2.Tb
open PySem PySem.Spec PyProof.Rows
def iEnumA (K : PySem.W.Frag) (ta : TA) : TI := fun σ H R => iEnumT K ta σ H R ∨ iEnum K ta σ H R
theorem pi_enumA {X : Cx} {e : Expr} {ta : TA} {p pos tpos : Pos} {elts : List Expr} {kk : Nat} (hg : Gl X "enumerate") (hm : X.mg "enumerate" = none) (ha : PA X [e] ta) (hs : starEach [e] X.env = [(false, eval e X.env)] := by rfl) :
    PI X (.Tuple elts kk tpos) (.Call (.Name "enumerate" p) [e] [] pos) (iEnumA X.K ta) :=
  ⟨fun pins s σ H R I h => h.elim (fun h => (pi_enumT hg hm ha hs).run pins s σ H R I h) fun h => (pi_enum hg hm ha hs).run pins s σ H R I h⟩
/-- a tuple (true) or a list -/
def SqX (b : Bool) (K : PySem.W.Frag) (H : Hp) (a : Addr) (xs : List V) : Prop := if b = true then SqT K H a xs else SqL K H a xs
theorem SqX.same {b : Bool} {K : PySem.W.Frag} {H H' : Hp} {a : Addr} {xs : List V} (h : SqX b K H a xs) (s : Same H H') : SqX b K H' a xs := by
  cases b with
  | true =>
    rcases h with (h | ⟨o, h⟩) | h
    · exact .inl (.inl (s _ _ h))
    · exact .inl (.inr ⟨o, s _ _ h⟩)
    · exact .inr h
  | false =>
    rcases h with (h | ⟨o, h⟩) | h
    · exact .inl (.inl (s _ _ h))
    · exact .inl (.inr ⟨o, s _ _ h⟩)
    · exact .inr h
theorem SqX.seq {b : Bool} {K : PySem.W.Frag} {H : Hp} {a : Addr} {xs : List V} (h : SqX b K H a xs) : SqL K H a xs ∨ SqT K H a xs := by
  cases b with
  | true => exact .inr h
  | false => exact .inl h
theorem for_enumA {K : PySem.W.Frag} {a : Addr} {xs : List V} {ta : TA} {g : TG} {tb : TS} {D : Ends} {σ : St} {H : Hp} (b : Bool) (hta : ∀ R : List V → Hp → Prop, R [.ref a] H → ta σ H R) (Pv : Nat → St → Hp → Prop) (h0 : Pv 0 σ H) (hl : ∀ i σ H, i ≤ xs.length → Pv i σ H → SqX b K H a xs)
    (hs : ∀ i x σ H T, xs[i]? = some x → Pv i σ H → H T = none → g (.ref T) σ (upd H T (.tup [.int (i : Nat), x])) fun σ2 H2 => tb { D with nx := Pv (i + 1), ct := Pv (i + 1), bk := D.nx } σ2 H2) (hd : ∀ σ H, Pv xs.length σ H → D.nx σ H) :
    tFor (iEnumA K ta) g tb D σ H := by
  cases b with
  | true => exact .inl (hta _ ⟨a, xs, rfl, hl 0 σ H (Nat.zero_le _) h0, for_enumT Pv h0 hl hs hd⟩)
  | false =>
    refine .inr (hta _ ⟨a, xs, rfl, hl 0 σ H (Nat.zero_le _) h0, ?_⟩)
    refine ⟨fun i m σ H => m = xs.length - i ∧ i ≤ xs.length ∧ Pv i σ H, ⟨xs.length, by simp, Nat.zero_le _, h0⟩, ?_⟩
    rintro i m σ H ⟨rfl, hi, p⟩
    have q : SqL K H a xs := hl i σ H hi p
    by_cases hlt : i < xs.length
    · refine .inr ⟨⟨xs, xs[i], q, by simp [hlt]⟩, Pv (i + 1), fun σ' H' p' => ⟨xs.length - (i + 1), by omega, rfl, hlt, p'⟩, fun x H' y => ?_⟩
      obtain ⟨T, z, rfl, nT, rfl, hz⟩ := y
      exact hs i z σ H T (hz xs q) p nT
    · have e : i = xs.length := by omega
      subst e
      exact .inl ⟨⟨xs, q, Nat.le_refl _⟩, hd σ H p⟩
end L2.Tb
set_option Elab.async false
set_option linter.all false
set_option maxRecDepth 100000
set_option maxHeartbeats 8000000
namespace L2.K19
open PySem PySem.Spec PyProof.Rows L2.Tb
open SX (S)
abbrev s_purse : Stmt := top 57
abbrev N_purse : List Str := ["_law_script", "_law_spot", "_law_own", "_law_mixed", "_law_cell"]
theorem sc_purse : FnScope N_purse ["_law_script", "_law_spot"] (defScope s_purse) := ⟨rfl, rfl, rfl, by decide +kernel, rfl, by decide +kernel, by decide +kernel⟩
abbrev s_pick : Stmt := top 58
abbrev N_pick : List Str := ["_law_purse_here", "_law_length", "_law_seed", "_law_again", "_law_digit"]
theorem sc_pick : FnScope N_pick ["_law_purse_here", "_law_length"] (defScope s_pick) := ⟨rfl, rfl, rfl, by decide +kernel, rfl, by decide +kernel, by decide +kernel⟩
/-- where the draws come from -/
structure Pk (H : Hp) (p : Addr) : Prop where
  ex : ∃ g m c : Int, H p = some (.lst [.int g, .int m, .int c]) ∧ 0 ≤ g ∧ 0 ≤ m ∧ m < 2147483629
theorem Pk.same {H H' : Hp} {p : Addr} (h : Pk H p) (s : Same H H') : Pk H' p := by
  obtain ⟨g, m, c, e, r⟩ := h.ex
  exact ⟨g, m, c, s _ _ e, r⟩
def spPurse (K : PySem.W.Frag) : Sp := fun vs H Q _ => ∃ (a : Addr) (ns : List Int) (k : Nat), vs = [.ref a, .int (k : Int)] ∧ SqL K H a (ns.map V.int) ∧ ns.length ≤ 64 ∧ k ≤ 64 ∧ ∀ (p : Addr) (H' : Hp), Same H H' → H p = none → Pk H' p → Q (.ref p) H'
def spPick : Sp := fun vs H Q _ => ∃ (p : Addr) (m : Nat), vs = [.ref p, .int (m : Int)] ∧ Pk H p ∧ 0 < m ∧ m < 2 ^ 200 ∧ ∀ (d : Nat) (H' : Hp), d < m → SameB p H H' → Pk H' p → Q (.int (d : Int)) H'
section
variable {P : Program} {w : World} {K : PySem.W.Frag} {mg : Str → Option Value} {base : Heap} {f : Addr} {fd : FuncData}
theorem c_purse (T : Bt mg) (F : FnP K "_law_purse" s_purse f fd) (hm : mg "_law_purse" = some (.ref f)) : Cal P w K mg base 1 "_law_purse" (spPurse K) := by
  have hnd := sc_purse.nd
  refine cal_mk F hm sc_purse (fun _ _ _ _ _ _ us hl => match us, hl with | [_, _], _ => rfl) (fun vs H Q E h => ?_) (fun cdv A outer s H vs Q E hr h => ?_)
  · obtain ⟨a, ns, k, rfl, _⟩ := h
    rfl
  · obtain ⟨a, ns, k, rfl, hS, hl, hk, q⟩ := h
    refine ⟨_, (pss_cons (ps_set (i := 2) hnd rfl (by first | exact Or.inl rfl | exact Or.inr rfl) (pe_ifExp (pt_cmpR op_lt (pv 1) (pe_callB call_len_seq (by rfl) T.m_len (by decide +kernel) (pa_cons (pv 0) pa_nil)) (nomark _)) (pe_ix ix_list (pv 0) (pv 1) (fun _ _ => rfl)) pe_int))
      (pss_cons (ps_set (i := 3) hnd rfl (by first | exact Or.inl rfl | exact Or.inr rfl) (pe_op op_add pe_int (pe_op op_mul pe_int (pv 1))))
      (pss_cons (ps_for PassesOwn.never (by rfl) (pi_list (pe_op op_cat (pe_slice sl_list (pv 0) po_none (po_some pe_int)) (pe_slice sl_list (pv 0) (po_some (pv 1)) (po_some (pe_op op_add (pv 1) pe_int))))) (pg_name (i := 4) hnd rfl (by first | exact Or.inl rfl | exact Or.inr rfl))
      (pss_one (ps_set (i := 3) hnd rfl (by first | exact Or.inl rfl | exact Or.inr rfl) (pe_op op_mod (pe_callTy call_int1 (by rfl) T.m_int (by decide +kernel) (pa_cons (pe_op op_add (pe_op op_add (pe_op op_mul (pv 3) pe_int) (pe_op op_mul (pv 4) pe_int)) pe_int) pa_nil)) pe_int))))
      (pss_one (ps_ret (pe_lst (pa_cons (pe_ifExp (pt_cmpR op_ge (pe_callB call_abs (by rfl) T.m_abs (by decide +kernel) (pa_cons (pv 2) pa_nil)) (pe_op op_pow pe_int pe_int) (nomark _)) (pe_callB call_abs (by rfl) T.m_abs (by decide +kernel) (pa_cons (pv 2) pa_nil)) pe_int) (pa_cons (pv 3) (pa_cons pe_int pa_nil))))))))), ?_⟩
    refine asg_cut (fun v H1 => H1 = H ∧ ∃ z : Int, v = .int z) ?_ fun hQ => ?_
    rotate_left
    · refine ⟨_, rfl, _, rfl, a, _, rfl, .inl hS, _, _, rfl, rfl, _, rfl, ite2 (fun hlt => ?_) (fun hge => ?_)⟩
      · have hl : k < ns.length := by
          have z := of_decide_eq_true hlt
          rw [List.length_map] at z
          omega
        refine ⟨_, rfl, _, rfl, a, _, _, .int (ns[k]), rfl, rfl, hS, atI_nat (by simp [hl]), hQ _ _ ⟨rfl, _, rfl⟩⟩
      · exact hQ _ _ ⟨rfl, _, rfl⟩
    rintro _ H1 ⟨rfl, z, rfl⟩
    refine gname_go ?_
    refine ⟨_, rfl, _, _, rfl, rfl, .inl ⟨by decide, by decide⟩, _, _, rfl, rfl, gname_go ?_⟩
    refine ⟨_, rfl, _, rfl, a, _, rfl, hS, fun p1 n1 => ?_⟩
    have s1 := same_new (o := .lst (cutV (ns.map V.int) none (some 4))) n1
    refine ⟨_, rfl, _, rfl, _, rfl, _, rfl, _, _, rfl, rfl, _, rfl, a, _, rfl, SqX.same (b := false) hS s1, fun p2 n2 => ?_⟩
    have s2 := s1.trans (same_new (o := .lst (cutV (ns.map V.int) (some (k : Int)) (some ((k : Int) + 1)))) n2)
    have l1 := cutV_length (ns.map V.int) none (some 4)
    have l2 := cutV_length (ns.map V.int) (some (k : Int)) (some ((k : Int) + 1))
    rw [List.length_map] at l1 l2
    refine ⟨p1, p2, _, _, rfl, rfl, (same_new n2) _ _ upd_same, upd_same, by rw [sizeLine_eq]; omega, fun p3 n3 => ?_⟩
    have s3 := s2.trans (same_new (o := .lst (cutV (ns.map V.int) none (some 4) ++ cutV (ns.map V.int) (some (k : Int)) (some ((k : Int) + 1)))) n3)
    have e3 := upd_same (H := upd (upd H1 p1 (.lst (cutV (ns.map V.int) none (some 4)))) p2 (.lst (cutV (ns.map V.int) (some (k : Int)) (some ((k : Int) + 1))))) (a := p3) (o := .lst (cutV (ns.map V.int) none (some 4) ++ cutV (ns.map V.int) (some (k : Int)) (some ((k : Int) + 1))))
    generalize upd (upd (upd H1 p1 (.lst (cutV (ns.map V.int) none (some 4)))) p2 (.lst (cutV (ns.map V.int) (some (k : Int)) (some ((k : Int) + 1))))) p3 (.lst (cutV (ns.map V.int) none (some 4) ++ cutV (ns.map V.int) (some (k : Int)) (some ((k : Int) + 1)))) = G at s3 e3 ⊢
    refine ⟨p3, rfl, ⟨_, SqL.of e3⟩, for_list (K := K) (a := p3) (xs := cutV (ns.map V.int) none (some 4) ++ cutV (ns.map V.int) (some (k : Int)) (some ((k : Int) + 1))) (fun i σ H' => ∃ (m : Int) (v : Option V), σ = [some (.ref a), some (.int k), some (.int z), some (.int m), v] ∧ H' = G ∧ 0 ≤ m ∧ m < 2147483629)
      ⟨_, none, rfl, rfl, by omega, by omega⟩ (fun i σ H' _ ⟨_, _, _, e, _⟩ => by rw [e]; exact SqL.of e3) ?_ ?_⟩
    · rintro i y σ H' hi ⟨m, v, rfl, rfl, h0, h1⟩
      obtain ⟨u, rfl⟩ : ∃ u, y = V.int u := by
        have hm : y ∈ ns.map V.int := by
          rcases List.mem_append.mp (List.mem_of_getElem? hi) with h | h
          · exact List.mem_of_mem_drop (List.mem_of_mem_take h)
          · exact List.mem_of_mem_drop (List.mem_of_mem_take h)
        obtain ⟨u, hu, rfl⟩ := List.mem_map.mp hm
        exact ⟨u, rfl⟩
      refine ⟨_, rfl, _, _, rfl, rfl, .inr ⟨by decide, by decide⟩, _, rfl, _, _, rfl, rfl, .inr ⟨by decide, by decide⟩, _, _, rfl, rfl, _, _, rfl, rfl, .inl ⟨_, rfl, _, _, rfl, rfl, by show (0 : Int) < 2147483587; decide, ?_⟩⟩
      exact ⟨_, _, rfl, rfl, Int.emod_nonneg _ (by decide), Int.lt_trans (Int.emod_lt_of_pos _ (by decide)) (by decide)⟩
    · rintro σ H' ⟨m, v, rfl, rfl, h0, h1⟩
      have fin : ∀ p, H' p = none → ∀ g : Int, 0 ≤ g → Q (.ref p) (upd H' p (.lst [.int g, .int m, .int 0])) := fun p np g hg => q _ _ (s3.trans (same_new np)) (none_back s3 np) ⟨_, _, _, upd_same, hg, h0, h1⟩
      refine ⟨_, rfl, _, rfl, _, _, rfl, rfl, ⟨by decide, by decide, by decide⟩, _, _, rfl, rfl, _, rfl, ite2 (fun hlt => ?_) (fun hge => ?_)⟩
      · refine ⟨_, rfl, _, rfl, _, rfl, Nat.le_of_ble_eq_true rfl, fun p np => fin p np _ ?_⟩
        split <;> omega
      · exact ⟨_, rfl, Nat.le_of_ble_eq_true rfl, fun p np => fin p np 0 (by decide)⟩
theorem c_pick (T : Bt mg) (F : FnP K "_law_pick" s_pick f fd) (hm : mg "_law_pick" = some (.ref f)) : Cal P w K mg base 1 "_law_pick" spPick := by
  have hnd := sc_pick.nd
  refine cal_mk F hm sc_pick (fun _ _ _ _ _ _ us hl => match us, hl with | [_, _], _ => rfl) (fun vs H Q E h => ?_) (fun cdv A outer s H vs Q E hr h => ?_)
  · obtain ⟨p, m, rfl, _⟩ := h
    rfl
  · obtain ⟨p, m, rfl, hp, m0, m1, q⟩ := h
    obtain ⟨g, st, c, e, g0, h0, h1⟩ := hp.ex
    refine ⟨_, (pss_cons (ps_asg (pe_op op_add (pe_ix (show IxR _ (rIxL K) from ix_list) (pv 0) pe_int (fun _ _ => rfl)) pe_int) (pg_sub (pv 0) pe_int set_list))
      (pss_cons (ps_set (i := 2) hnd rfl (by first | exact Or.inl rfl | exact Or.inr rfl) (pe_callTy call_int1 (by rfl) T.m_int (by decide +kernel) (pa_cons (pe_ix (show IxR _ (rIxL K) from ix_list) (pv 0) pe_int (fun _ _ => rfl)) pa_nil)))
      (pss_cons (ps_set (i := 3) hnd rfl (by first | exact Or.inl rfl | exact Or.inr rfl) (pe_op op_mul (pe_op op_add (pe_op op_mod (pe_callTy call_int1 (by rfl) T.m_int (by decide +kernel) (pa_cons (pv 2) pa_nil)) pe_int) pe_int) (pe_op op_add (pe_op op_fdiv (pv 2) pe_int) pe_int)))
      (pss_cons (ps_asg (pe_op op_mod (pe_callTy call_int1 (by rfl) T.m_int (by decide +kernel) (pa_cons (pe_op op_add (pv 3) (pe_op op_mul (pe_ix (show IxR _ (rIxL K) from ix_list) (pv 0) pe_int (fun _ _ => rfl)) pe_int)) pa_nil)) pe_int) (pg_sub (pv 0) pe_int set_list))
      (pss_cons (ps_if (pt_cmpR op_gt (pe_ix (show IxR _ (rIxL K) from ix_list) (pv 0) pe_int (fun _ _ => rfl)) pe_int (nomark _))
      (pss_cons (ps_asg (pe_callB call_divmodW (by rfl) T.m_divmod (by decide +kernel) (pa_cons (pe_ix (show IxR _ (rIxL K) from ix_list) (pv 0) pe_int (fun _ _ => rfl)) (pa_cons (pv 1) pa_nil))) (pg_tup (by rfl) (pgs_cons (pg_sub (pv 0) pe_int set_list) (pgs_cons (pg_name (i := 4) hnd rfl (by first | exact Or.inl rfl | exact Or.inr rfl)) pgs_nil))))
      (pss_one (ps_ret (pv 4))))
      pss_nil)
      (pss_one (ps_ret (pe_op op_mod (pe_callTy call_int1 (by rfl) T.m_int (by decide +kernel) (pa_cons (pe_op op_fdiv (pe_ix (show IxR _ (rIxL K) from ix_list) (pv 0) pe_int (fun _ _ => rfl)) pe_int) pa_nil)) (pv 1))))))))), ?_⟩
    refine ⟨_, rfl, p, _, _, _, rfl, rfl, SqL.of e, rfl, _, _, rfl, rfl, _, rfl, p, _, _, 2, rfl, rfl, e, rfl, ?_⟩
    have e1 : (upd H p (.lst ([V.int g, .int st, .int c].set 2 (.int (c + 1))))) p = some (.lst [.int g, .int st, .int (c + 1)]) := upd_same
    refine ⟨_, rfl, p, _, _, _, rfl, rfl, SqL.of e1, rfl, .inl ⟨_, rfl, gname_go ?_⟩⟩
    refine ⟨_, rfl, .inl ⟨_, rfl, _, _, rfl, rfl, by show (0 : Int) < 65521; decide, _, _, rfl, rfl, _, rfl, _, _, rfl, rfl, ⟨by decide, by decide⟩, _, _, rfl, rfl, _, _, rfl, rfl, ?_, gname_go ?_⟩⟩
    · exact .inl ⟨by omega, by omega⟩
    refine ⟨_, rfl, _, rfl, p, _, _, _, rfl, rfl, SqL.of e1, rfl, _, _, rfl, rfl, .inr ⟨by decide, by decide⟩, _, _, rfl, rfl, .inl ⟨_, rfl, _, _, rfl, rfl, by show (0 : Int) < 2147483629; decide, _, rfl, p, _, _, 1, rfl, rfl, e1, rfl, ?_⟩⟩
    dsimp only
    generalize hm2 : ((st % 65521 + 29) * (st / 65521 + 40503) + (c + 1) * 7919) % 2147483629 = st2
    have z0 : 0 ≤ st2 := hm2 ▸ Int.emod_nonneg _ (by decide)
    have z1 : st2 < 2147483629 := hm2 ▸ Int.emod_lt_of_pos _ (by decide)
    have e2 : (upd (upd H p (.lst ([V.int g, .int st, .int c].set 2 (.int (c + 1))))) p (.lst ([V.int g, .int st, .int (c + 1)].set 1 (.int st2)))) p = some (.lst [.int g, .int st2, .int (c + 1)]) := upd_same
    have s2 : SameB p H (upd (upd H p (.lst ([V.int g, .int st, .int c].set 2 (.int (c + 1))))) p (.lst ([V.int g, .int st, .int (c + 1)].set 1 (.int st2)))) := SameB.set.put
    generalize upd (upd H p (.lst ([V.int g, .int st, .int c].set 2 (.int (c + 1))))) p (.lst ([V.int g, .int st, .int (c + 1)].set 1 (.int st2))) = G at e2 s2 ⊢
    have toNat : ∀ {z : Int} {H' : Hp}, 0 ≤ z → z < m → SameB p H H' → Pk H' p → Q (.int z) H' := fun {z H'} a b s k => by
      have := q z.toNat H' (by omega) s k
      rwa [show ((z.toNat : Nat) : Int) = z by omega] at this
    refine ⟨_, rfl, p, _, _, _, rfl, rfl, SqL.of e2, rfl, _, _, rfl, rfl, _, rfl, ite2 (fun hgt => ?_) (fun hle => ?_)⟩
    · refine ⟨_, rfl, p, _, _, _, rfl, rfl, SqL.of e2, rfl, _, rfl, _, _, rfl, divp_small (by omega) (by exact_mod_cast m1), fun t nt => ?_⟩
      have npt : p ≠ t := ne_of_none e2 nt
      have e3 := Eq.trans (upd_ne (o := .tup [.int (g / m), .int (g % m)]) npt) e2
      refine ⟨t, _, rfl, SqT.of upd_same, rfl, _, _, rfl, ⟨_, rfl, p, _, _, 0, rfl, rfl, e3, rfl, _, _, rfl, rfl, _, rfl, ?_⟩⟩
      refine toNat (Int.emod_nonneg _ (by omega)) (Int.emod_lt_of_pos _ (by omega)) (SameB.put fun b o n h => ?_) ⟨_, _, _, upd_same, Int.ediv_nonneg g0 (by omega), z0, z1⟩
      exact same_new nt _ _ (s2 b o n h)
    · refine ⟨_, rfl, p, _, _, _, rfl, rfl, SqL.of e2, rfl, _, _, rfl, rfl, ⟨by decide, by decide⟩, .inl ⟨_, rfl, _, rfl, _, _, rfl, rfl, by show (0 : Int) < (m : Int); omega, ?_⟩⟩
      exact toNat (Int.emod_nonneg _ (by omega)) (Int.emod_lt_of_pos _ (by omega)) s2 ⟨_, _, _, e2, g0, z0, z1⟩
end
end L2.K19
set_option Elab.async false
set_option linter.all false
set_option maxRecDepth 100000
set_option maxHeartbeats 8000000
namespace L2.K19
open PySem PySem.Spec PyProof.Rows L2.Tb
open SX (S)
theorem sqT_same {K : PySem.W.Frag} {H H' : Hp} {a : Addr} {xs : List V} (h : SqT K H a xs) (s : Same H H') : SqT K H' a xs := SqX.same (b := true) h s
abbrev s_lkind : Stmt := top 59
abbrev N_lkind : List Str := ["_law_purse_here", "_law_lots"]
theorem sc_lkind : FnScope N_lkind ["_law_purse_here"] (defScope s_lkind) := ⟨rfl, rfl, rfl, by decide +kernel, rfl, by decide +kernel, by decide +kernel⟩
abbrev s_lturns : Stmt := top 60
abbrev N_lturns : List Str := ["_law_lot", "_law_lots"]
theorem sc_lturns : FnScope N_lturns ["_law_lot"] (defScope s_lturns) := ⟨rfl, rfl, rfl, by decide +kernel, rfl, by decide +kernel, by decide +kernel⟩
abbrev s_limages : Stmt := top 61
abbrev N_limages : List Str := ["_law_lot", "_law_triple_here", "_law_found", "_law_turn", "_law_image"]
theorem sc_limages : FnScope N_limages ["_law_lot", "_law_triple_here"] (defScope s_limages) := ⟨rfl, rfl, rfl, by decide +kernel, rfl, by decide +kernel, by decide +kernel⟩
def LotL (H : Hp) (l : Addr) (lot : List Turn) : Prop := ∃ ts : List Addr, H l = some (.lst (ts.map V.ref)) ∧ Paired (fun t u => H t = some (.tup (turnV u))) ts lot
theorem LotL.same {H H' : Hp} {l : Addr} {lot : List Turn} (h : LotL H l lot) (s : Same H H') : LotL H' l lot := by
  obtain ⟨ts, h1, h2⟩ := h
  exact ⟨ts, s _ _ h1, paired_imp (fun _ _ e => s _ _ e) h2⟩
theorem LotL.keep {H H' : Hp} {p l : Addr} {kvs : List (Key × V)} {lot : List Turn} (h : LotL H l lot) (hp : H p = some (.dK kvs)) (s : SameB p H H') : LotL H' l lot := by
  obtain ⟨ts, h1, h2⟩ := h
  refine ⟨ts, s _ _ (fun z => ?_) h1, paired_imp (fun t u e => s _ _ (fun z => ?_) e) h2⟩
  · rw [z, hp] at h1
    cases h1
  · rw [z, hp] at e
    cases e
def tLotT : List Turn → TA
  | [] => tNil
  | t :: r => tCons (tTup (tCons (tC (.int t.1)) (tCons (tC (.int t.2.1)) (tCons (tC (.int t.2.2)) tNil)))) (tLotT r)
theorem lot_args : ∀ (lot : List Turn) {σ : St} {H : Hp} {R : List V → Hp → Prop}, (∀ (ts : List Addr) (H' : Hp), Same H H' → Paired (fun t u => H' t = some (.tup (turnV u))) ts lot → R (ts.map V.ref) H') → tLotT lot σ H R
  | [], σ, H, R, h => h [] H (fun _ _ e => e) .nil
  | t :: r, σ, H, R, h => ⟨Nat.le_of_ble_eq_true rfl, fun p np => lot_args r fun ts H' s hp => h (p :: ts) H' ((same_new np).trans s) (.cons (s _ _ upd_same) hp)⟩
theorem lot_run (lot : List Turn) (hz : lot.length ≤ 100) {σ : St} {H : Hp} {Q : VK} (h : ∀ (l : Addr) (H' : Hp), Same H H' → LotL H' l lot → Q (.ref l) H') : tLst (tLotT lot) σ H Q := by
  refine lot_args lot fun ts H' s hp => ⟨?_, fun l n => ?_⟩
  · rw [List.length_map, Paired.length hp, sizeLine_eq]
    omega
  · have s2 := same_new (o := .lst (ts.map V.ref)) n
    exact h l _ (s.trans s2) ⟨ts, upd_same, paired_imp (fun _ _ e => s2 _ _ e) hp⟩
theorem pair_step {k : Str} {tv : TE} {r : List (TE × TE)} {σ : St} {H : Hp} {Q : List (V × V) → Hp → Prop} (h : tv σ H fun y H2 => tPairs r σ H2 fun ps H3 => Q ((.str k, y) :: ps) H3) : tPairs ((tC (.str k), tv) :: r) σ H Q := h
theorem asg_step {te : TE} {g : TG} {b : TS} {D : Ends} {σ : St} {H : Hp} (h : te σ H fun x H1 => g x σ H1 (b D)) : tSeq (tAsg te g) b D σ H := h
/-- a drawn kind -/
def spLkind : Sp := fun vs H Q _ => ∃ p : Addr, vs = [.ref p] ∧ Pk H p ∧ ∀ (q : Addr) (z : Str) (b : Bool) (H' : Hp), wordsD.contains z = true → SameB p H H' → Pk H' p → H' q = some (.tup [.str z, .bl b]) → Q (.ref q) H'
/-- the turns besides the first -/
def restD : List (Str × List Turn) := [("plain", []), ("sides", [(1, 0, 2)]), ("front", [(2, 1, 0)]), ("back", [(0, 2, 1)]), ("round", [(1, 2, 0), (2, 0, 1)]), ("all", [(0, 2, 1), (1, 0, 2), (1, 2, 0), (2, 0, 1), (2, 1, 0)])]
def spLturns : Sp := fun vs H Q _ => ∃ z : Str, vs = [.str z] ∧ wordsD.contains z = true ∧ ∀ (l : Addr) (H' : Hp), Same H H' → LotL H' l (lotOf z) → Q (.ref l) H'
theorem lot_rest : ∀ z ∈ wordsD, ∃ r, restD.lookup z = some r ∧ lotOf z = (0, 1, 2) :: r := by
  intro z hz
  have h : ∀ z ∈ wordsD, (match restD.lookup z with
    | some r => decide (lotOf z = (0, 1, 2) :: r)
    | none => false) = true := by decide +kernel
  have := h z hz
  cases e : restD.lookup z with
  | none => rw [e] at this; cases this
  | some r =>
    rw [e] at this
    exact ⟨r, rfl, of_decide_eq_true this⟩
theorem lots_val {H : Hp} : ∀ {kvs : List (Key × V)} {ds : List (Str × List Turn)} {z : Str} {r : List Turn}, Paired (fun (kv : Key × V) (d : Str × List Turn) => kv.1 = Sum.inr d.1 ∧ ∃ l, kv.2 = V.ref l ∧ LotL H l d.2) kvs ds → ds.lookup z = some r → ∃ l, valV kvs (.inr z) = some (.ref l) ∧ LotL H l r
  | _, _, z, r, .nil, h => by cases h
  | (k, v) :: kvs, (y, lot) :: ds, z, r, .cons ⟨hk, l, hv, q⟩ t, h => by
    have hk : k = Sum.inr y := hk
    have hv : v = V.ref l := hv
    subst hk
    subst hv
    by_cases c : z = y
    · subst c
      rw [List.lookup_cons_self] at h
      cases h
      exact ⟨l, valV_pos rfl, q⟩
    · have hne : (z == y) = false := by simpa using c
      rw [List.lookup_cons, hne] at h
      obtain ⟨l2, h1, h2⟩ := lots_val t h
      exact ⟨l2, by rw [valV_neg (fun e => c (by injection e with e; exact e.symm))]; exact h1, h2⟩
theorem rest_len (z : Str) (r : List Turn) (h : restD.lookup z = some r) : r.length ≤ 5 := by
  have g : ∀ d ∈ restD, d.2.length ≤ 5 := by decide +kernel
  have : ∀ (ds : List (Str × List Turn)), (∀ d ∈ ds, d.2.length ≤ 5) → ds.lookup z = some r → r.length ≤ 5 := by
    intro ds
    induction ds with
    | nil => intro _ h; cases h
    | cons d ds ih =>
      intro hd h
      rw [List.lookup_cons] at h
      split at h
      · cases h
        exact hd d List.mem_cons_self
      · exact ih (fun x hx => hd x (List.mem_cons_of_mem _ hx)) h
  exact this _ g h
/-- different images in the order of the turns -/
def imgsL (t : Trp) (lot : List Turn) : List Trp := lot.foldl (fun acc u => if imgT t u ∈ acc then acc else acc ++ [imgT t u]) []
def spLimages (K : PySem.W.Frag) : Sp := fun vs H Q _ => ∃ (z : Str) (q : Addr) (t : Trp), vs = [.str z, .ref q] ∧ wordsD.contains z = true ∧ SqT K H q (tV t) ∧ ∀ (l : Addr) (H' : Hp), Same H H' → H l = none → TrpsAt H' l (imgsL t (lotOf z)) → Q (.ref l) H'
def trpD (t : Trp) : PyData := .tuple [.int (t.1 : Nat), .int (t.2.1 : Nat), .int (t.2.2 : Nat)]
theorem dp_trp {K : PySem.W.Frag} {H : Hp} {q : Addr} {t : Trp} (h : SqT K H q (tV t)) : Dp K H (.ref q) (trpD t) := .tup h (.cons (.int _) (.cons (.int _) (.cons (.int _) .nil)))
theorem dp_trps {K : PySem.W.Frag} {H : Hp} : ∀ {qs : List Addr} {ts : List Trp}, Paired (TrpAt H) qs ts → DpAll K H (qs.map V.ref) (ts.map trpD)
  | _, _, .nil => .nil
  | _, _, .cons h r => .cons (dp_trp (SqT.of h)) (dp_trps r)
theorem dp_trpL {K : PySem.W.Frag} {H : Hp} {l : Addr} {ts : List Trp} (h : TrpsAt H l ts) : Dp K H (.ref l) (.list (ts.map trpD)) := by
  obtain ⟨qs, e, p⟩ := h
  exact .lst (SqL.of e) (dp_trps p)
theorem eqv_trp {s t : Trp} : PyData.eqv (trpD s) (trpD t) = decide (s = t) := by
  obtain ⟨a, b, c⟩ := s
  obtain ⟨a', b', c'⟩ := t
  unfold trpD
  rw [Bool.eq_iff_iff]
  simp [PyData.eqv, PyData.eqvAll]
  omega
theorem trps_lay : ∀ ts : List Trp, PyData.canLayAll0 (ts.map trpD) = true
  | [] => rfl
  | t :: ts => by
    rw [List.map_cons]
    simp only [PyData.canLayAll0, trpD, PyData.canLay0, Bool.and_eq_true]
    exact ⟨by simp [PyData.canLayAll0, PyData.canLay0], trps_lay ts⟩
theorem trps_depth : ∀ ts : List Trp, PyData.depthAll (ts.map trpD) ≤ 1
  | [] => by simp [PyData.depthAll]
  | t :: ts => by
    have h := trps_depth ts
    have h2 : (trpD t).depth = 1 := by simp [trpD, PyData.depth, PyData.depthAll]
    simp only [List.map_cons, PyData.depthAll]
    omega
theorem shaped_trps (ts : List Trp) : SeqAt.shaped (.list (ts.map trpD)) = true := by
  show (PyData.canLay0 (.list (ts.map trpD)) && decide (PyData.depth (.list (ts.map trpD)) ≤ 64)) = true
  rw [Bool.and_eq_true]
  exact ⟨by simp only [PyData.canLay0]; exact trps_lay ts, decide_eq_true (by have := trps_depth ts; simp only [PyData.depth]; omega)⟩
theorem any_trp {s : Trp} {ts : List Trp} : (ts.map trpD).any (fun z => PyData.eqv z (trpD s)) = decide (s ∈ ts) := by
  rw [List.any_map, Bool.eq_iff_iff, decide_eq_true_iff, List.any_eq_true]
  constructor
  · rintro ⟨x, hx, e⟩
    have e : PyData.eqv (trpD x) (trpD s) = true := e
    rw [eqv_trp, decide_eq_true_iff] at e
    exact e ▸ hx
  · intro h
    exact ⟨s, h, by show PyData.eqv (trpD s) (trpD s) = true; rw [eqv_trp, decide_eq_true_iff]⟩
theorem imgs_take {t : Trp} {lot : List Turn} {i : Nat} {u : Turn} (h : lot[i]? = some u) : imgsL t (lot.take (i + 1)) = if imgT t u ∈ imgsL t (lot.take i) then imgsL t (lot.take i) else imgsL t (lot.take i) ++ [imgT t u] := by
  unfold imgsL
  rw [take_at h, List.foldl_append]
  rfl
theorem imgs_len {t : Trp} : ∀ lot : List Turn, ∀ acc : List Trp, (lot.foldl (fun acc u => if imgT t u ∈ acc then acc else acc ++ [imgT t u]) acc).length ≤ acc.length + lot.length
  | [], acc => Nat.le_refl _
  | u :: lot, acc => by
    rw [List.foldl_cons, List.length_cons]
    have := imgs_len (t := t) lot (if imgT t u ∈ acc then acc else acc ++ [imgT t u])
    have h2 : (if imgT t u ∈ acc then acc else acc ++ [imgT t u]).length ≤ acc.length + 1 := by
      split
      · omega
      · rw [List.length_append, List.length_singleton]
        exact Nat.le_refl _
    omega
section
variable {P : Program} {w : World} {K : PySem.W.Frag} {mg : Str → Option Value} {base : Heap} {f : Addr} {fd : FuncData}
theorem c_lkind (T : Bt mg) (k_pick : Cal P w K mg base 1 "_law_pick" spPick) (F : FnP K "_law_kind" s_lkind f fd) (hm : mg "_law_kind" = some (.ref f)) : Cal P w K mg base 2 "_law_kind" spLkind := by
  have hnd := sc_lkind.nd
  refine cal_mk F hm sc_lkind (fun _ _ _ _ _ _ us hl => match us, hl with | [_], _ => rfl) (fun vs H Q E h => ?_) (fun cdv A outer s H vs Q E hr h => ?_)
  · obtain ⟨p, rfl, _⟩ := h
    rfl
  · obtain ⟨p, rfl, hp, q⟩ := h
    refine ⟨_, (pss_cons (ps_set (i := 1) hnd rfl (by first | exact Or.inl rfl | exact Or.inr rfl) (pe_lst (pa_cons pe_str (pa_cons pe_str (pa_cons pe_str (pa_cons pe_str (pa_cons pe_str (pa_cons pe_str (pa_cons pe_str pa_nil)))))))))
      (pss_one (ps_ret (pe_tup (pa_cons (pe_ix (show IxR _ (rIxL K) from ix_list) (pv 1) (pe_cal k_pick hr (by omega) (by rfl) (pa_cons (pv 0) (pa_cons pe_int pa_nil))) (fun _ _ => rfl)) (pa_cons (pe_cmpR op_eq (pe_cal k_pick hr (by omega) (by rfl) (pa_cons (pv 0) (pa_cons pe_int pa_nil))) pe_int (nomark _)) pa_nil)))))), ?_⟩
    refine ⟨Nat.le_of_ble_eq_true rfl, fun L nL => gname_go ?_⟩
    have s1 := same_new (o := .lst [.str "plain", .str "sides", .str "front", .str "back", .str "round", .str "all", .str "plain"]) nL
    have eL := upd_same (H := H) (a := L) (o := .lst [.str "plain", .str "sides", .str "front", .str "back", .str "round", .str "all", .str "plain"])
    have npL : L ≠ p := fun z => by
      obtain ⟨g, m, c, e, _⟩ := hp.ex
      rw [z, e] at nL
      cases nL
    generalize upd H L (.lst [.str "plain", .str "sides", .str "front", .str "back", .str "round", .str "all", .str "plain"]) = G at s1 eL ⊢
    refine ⟨_, rfl, _, rfl, p, 7, rfl, hp.same s1, by decide, by decide, fun d H1 hd b1 pk1 => ?_⟩
    obtain ⟨z, hx, hz⟩ : ∃ z : Str, [V.str "plain", .str "sides", .str "front", .str "back", .str "round", .str "all", .str "plain"][d]? = some (.str z) ∧ wordsD.contains z = true := match d, hd with
      | 0, _ => ⟨_, rfl, by decide +kernel⟩
      | 1, _ => ⟨_, rfl, by decide +kernel⟩
      | 2, _ => ⟨_, rfl, by decide +kernel⟩
      | 3, _ => ⟨_, rfl, by decide +kernel⟩
      | 4, _ => ⟨_, rfl, by decide +kernel⟩
      | 5, _ => ⟨_, rfl, by decide +kernel⟩
      | 6, _ => ⟨_, rfl, by decide +kernel⟩
      | d + 7, h => absurd h (by omega)
    refine ⟨L, _, _, .str z, rfl, rfl, SqL.of (b1 _ _ npL eL), atI_nat hx, ?_⟩
    refine ⟨_, rfl, p, 3, rfl, pk1, by decide, by decide, fun d2 H2 hd2 b2 pk2 => ⟨rfl, Nat.le_of_ble_eq_true rfl, fun R nR => ?_⟩⟩
    refine q R z _ _ hz (fun b o n e => (same_new nR) _ _ (b2 _ _ n (b1 _ _ n (s1 _ _ e)))) (pk2.same (same_new nR)) upd_same
theorem c_lturns (F : FnP K "_law_turns" s_lturns f fd) (hm : mg "_law_turns" = some (.ref f)) : Cal P w K mg base 1 "_law_turns" spLturns := by
  have hnd := sc_lturns.nd
  refine cal_mk F hm sc_lturns (fun _ _ _ _ _ _ us hl => match us, hl with | [_], _ => rfl) (fun vs H Q E h => ?_) (fun cdv A outer s H vs Q E hr h => ?_)
  · obtain ⟨z, rfl, _⟩ := h
    rfl
  · obtain ⟨z, rfl, hz, q⟩ := h
    refine ⟨_, (pss_cons (ps_set (i := 1) hnd rfl (by first | exact Or.inl rfl | exact Or.inr rfl) (pe_disp (pps_cons pe_str (pe_lst pa_nil) (pps_cons pe_str (pe_lst (pa_cons (pe_tup (pa_cons pe_int (pa_cons pe_int (pa_cons pe_int pa_nil)))) pa_nil)) (pps_cons pe_str (pe_lst (pa_cons (pe_tup (pa_cons pe_int (pa_cons pe_int (pa_cons pe_int pa_nil)))) pa_nil)) (pps_cons pe_str (pe_lst (pa_cons (pe_tup (pa_cons pe_int (pa_cons pe_int (pa_cons pe_int pa_nil)))) pa_nil)) pps_nil)))) (by rfl) (by rfl) (fun z => by cases z) (by decide)))
      (pss_cons (ps_asg (pe_lst (pa_cons (pe_tup (pa_cons pe_int (pa_cons pe_int (pa_cons pe_int pa_nil)))) (pa_cons (pe_tup (pa_cons pe_int (pa_cons pe_int (pa_cons pe_int pa_nil)))) pa_nil))) (pg_sub (pv 1) pe_str (set_dict (Nat.lt_of_le_of_lt (Nat.add_le_add_left (by decide) _) hr.units))))
      (pss_cons (ps_asg (pe_lst (pa_cons (pe_tup (pa_cons pe_int (pa_cons pe_int (pa_cons pe_int pa_nil)))) (pa_cons (pe_tup (pa_cons pe_int (pa_cons pe_int (pa_cons pe_int pa_nil)))) (pa_cons (pe_tup (pa_cons pe_int (pa_cons pe_int (pa_cons pe_int pa_nil)))) (pa_cons (pe_tup (pa_cons pe_int (pa_cons pe_int (pa_cons pe_int pa_nil)))) (pa_cons (pe_tup (pa_cons pe_int (pa_cons pe_int (pa_cons pe_int pa_nil)))) pa_nil)))))) (pg_sub (pv 1) pe_str (set_dict (Nat.lt_of_le_of_lt (Nat.add_le_add_left (by decide) _) hr.units))))
      (pss_one (ps_ret (pe_op op_cat (pe_lst (pa_cons (pe_tup (pa_cons pe_int (pa_cons pe_int (pa_cons pe_int pa_nil)))) pa_nil)) (pe_dget (Nat.lt_of_le_of_lt (Nat.add_le_add_left (by decide) _) hr.units) (pv 1) (pv 0) (fun _ _ => rfl)))))))), ?_⟩
    refine fun p np => ?_
    have y0 := same_new (o := .dK []) np
    have f0 := upd_same (H := H) (a := p) (o := .dK [])
    generalize upd H p (.dK []) = G0 at y0 f0 ⊢
    refine pair_step (lot_run [] (by decide) fun l0 G1 s1 q0 => pair_step (lot_run [(1, 0, 2)] (by decide) fun l1 G2 s2 q1 => pair_step (lot_run [(2, 1, 0)] (by decide) fun l2 G3 s3 q2 => pair_step (lot_run [(0, 2, 1)] (by decide) fun l3 G4 s4 q3 => ?_))))
    have f4 := s4 _ _ (s3 _ _ (s2 _ _ (s1 _ _ f0)))
    refine ⟨f4, [(.inr ("plain" : Str), .ref l0), (.inr ("sides" : Str), .ref l1), (.inr ("front" : Str), .ref l2), (.inr ("back" : Str), .ref l3)], rfl, Nat.le_of_ble_eq_true rfl, ?_⟩
    have b4 : SameB p G4 (upd G4 p (.dK (mergeK [] [(.inr ("plain" : Str), .ref l0), (.inr ("sides" : Str), .ref l1), (.inr ("front" : Str), .ref l2), (.inr ("back" : Str), .ref l3)]))) := SameB.set
    have e4 : upd G4 p (.dK (mergeK [] [(.inr ("plain" : Str), .ref l0), (.inr ("sides" : Str), .ref l1), (.inr ("front" : Str), .ref l2), (.inr ("back" : Str), .ref l3)])) p = some (.dK [(.inr ("plain" : Str), .ref l0), (.inr ("sides" : Str), .ref l1), (.inr ("front" : Str), .ref l2), (.inr ("back" : Str), .ref l3)]) := upd_same
    show gName 1 _ _ (upd G4 p (.dK (mergeK [] [(.inr ("plain" : Str), .ref l0), (.inr ("sides" : Str), .ref l1), (.inr ("front" : Str), .ref l2), (.inr ("back" : Str), .ref l3)]))) _
    generalize upd G4 p (.dK (mergeK [] [(.inr ("plain" : Str), .ref l0), (.inr ("sides" : Str), .ref l1), (.inr ("front" : Str), .ref l2), (.inr ("back" : Str), .ref l3)])) = K4 at b4 e4 ⊢
    have B4 : SameB p H K4 := (SameB.of (y0.trans (s1.trans (s2.trans (s3.trans s4))))).trans b4
    have q0 := (((q0.same s2).same s3).same s4).keep f4 b4
    have q1 := ((q1.same s3).same s4).keep f4 b4
    have q2 := (q2.same s4).keep f4 b4
    have q3 := q3.keep f4 b4
    refine gname_go ?_
    try dsimp only
    refine asg_step (lot_run [(1, 2, 0), (2, 0, 1)] (by decide) fun l4 G5 s5 q4 => ?_)
    have f5 := s5 _ _ e4
    refine ⟨_, rfl, p, _, rfl, DPut.k (k := .inr ("round" : Str)) f5 (by rw [sizeLine_eq]; exact Nat.le_of_ble_eq_true rfl), ?_⟩
    have b5 : SameB p G5 (upd G5 p (.dK (putK [(.inr ("plain" : Str), .ref l0), (.inr ("sides" : Str), .ref l1), (.inr ("front" : Str), .ref l2), (.inr ("back" : Str), .ref l3)] (.inr ("round" : Str)) (.ref l4)))) := SameB.set
    have e5 : upd G5 p (.dK (putK [(.inr ("plain" : Str), .ref l0), (.inr ("sides" : Str), .ref l1), (.inr ("front" : Str), .ref l2), (.inr ("back" : Str), .ref l3)] (.inr ("round" : Str)) (.ref l4))) p = some (.dK [(.inr ("plain" : Str), .ref l0), (.inr ("sides" : Str), .ref l1), (.inr ("front" : Str), .ref l2), (.inr ("back" : Str), .ref l3), (.inr ("round" : Str), .ref l4)]) := upd_same
    show tSeq _ _ _ _ (upd G5 p (.dK (putK [(.inr ("plain" : Str), .ref l0), (.inr ("sides" : Str), .ref l1), (.inr ("front" : Str), .ref l2), (.inr ("back" : Str), .ref l3)] (.inr ("round" : Str)) (.ref l4))))
    generalize upd G5 p (.dK (putK [(.inr ("plain" : Str), .ref l0), (.inr ("sides" : Str), .ref l1), (.inr ("front" : Str), .ref l2), (.inr ("back" : Str), .ref l3)] (.inr ("round" : Str)) (.ref l4))) = K5 at b5 e5 ⊢
    have B5 := (B4.trans (SameB.of s5)).trans b5
    have q0 := (q0.same s5).keep f5 b5
    have q1 := (q1.same s5).keep f5 b5
    have q2 := (q2.same s5).keep f5 b5
    have q3 := (q3.same s5).keep f5 b5
    have q4 := q4.keep f5 b5
    refine asg_step (lot_run [(0, 2, 1), (1, 0, 2), (1, 2, 0), (2, 0, 1), (2, 1, 0)] (by decide) fun l5 G6 s6 q5 => ?_)
    have f6 := s6 _ _ e5
    refine ⟨_, rfl, p, _, rfl, DPut.k (k := .inr ("all" : Str)) f6 (by rw [sizeLine_eq]; exact Nat.le_of_ble_eq_true rfl), ?_⟩
    have b6 : SameB p G6 (upd G6 p (.dK (putK [(.inr ("plain" : Str), .ref l0), (.inr ("sides" : Str), .ref l1), (.inr ("front" : Str), .ref l2), (.inr ("back" : Str), .ref l3), (.inr ("round" : Str), .ref l4)] (.inr ("all" : Str)) (.ref l5)))) := SameB.set
    have e6 : upd G6 p (.dK (putK [(.inr ("plain" : Str), .ref l0), (.inr ("sides" : Str), .ref l1), (.inr ("front" : Str), .ref l2), (.inr ("back" : Str), .ref l3), (.inr ("round" : Str), .ref l4)] (.inr ("all" : Str)) (.ref l5))) p = some (.dK [(.inr ("plain" : Str), .ref l0), (.inr ("sides" : Str), .ref l1), (.inr ("front" : Str), .ref l2), (.inr ("back" : Str), .ref l3), (.inr ("round" : Str), .ref l4), (.inr ("all" : Str), .ref l5)]) := upd_same
    show tRet _ _ _ (upd G6 p (.dK (putK [(.inr ("plain" : Str), .ref l0), (.inr ("sides" : Str), .ref l1), (.inr ("front" : Str), .ref l2), (.inr ("back" : Str), .ref l3), (.inr ("round" : Str), .ref l4)] (.inr ("all" : Str)) (.ref l5))))
    generalize upd G6 p (.dK (putK [(.inr ("plain" : Str), .ref l0), (.inr ("sides" : Str), .ref l1), (.inr ("front" : Str), .ref l2), (.inr ("back" : Str), .ref l3), (.inr ("round" : Str), .ref l4)] (.inr ("all" : Str)) (.ref l5))) = K6 at b6 e6 ⊢
    have B6 := (B5.trans (SameB.of s6)).trans b6
    have q0 := (q0.same s6).keep f6 b6
    have q1 := (q1.same s6).keep f6 b6
    have q2 := (q2.same s6).keep f6 b6
    have q3 := (q3.same s6).keep f6 b6
    have q4 := (q4.same s6).keep f6 b6
    have q5 := q5.keep f6 b6
    obtain ⟨r, hr9, hlot⟩ := lot_rest z (List.contains_iff_mem.mp hz)
    refine ret_go (lot_run [(0, 1, 2)] (by decide) fun l9 G9 s9 q9 => ?_)
    have pk : Paired (fun (kv : Key × V) (d : Str × List Turn) => kv.1 = Sum.inr d.1 ∧ ∃ l, kv.2 = V.ref l ∧ LotL G9 l d.2) [(.inr ("plain" : Str), .ref l0), (.inr ("sides" : Str), .ref l1), (.inr ("front" : Str), .ref l2), (.inr ("back" : Str), .ref l3), (.inr ("round" : Str), .ref l4), (.inr ("all" : Str), .ref l5)] restD := .cons ⟨rfl, l0, rfl, q0.same s9⟩ (.cons ⟨rfl, l1, rfl, q1.same s9⟩ (.cons ⟨rfl, l2, rfl, q2.same s9⟩ (.cons ⟨rfl, l3, rfl, q3.same s9⟩ (.cons ⟨rfl, l4, rfl, q4.same s9⟩ (.cons ⟨rfl, l5, rfl, q5.same s9⟩ (.nil))))))
    obtain ⟨lx, hv, qx⟩ := lots_val pk hr9
    obtain ⟨t9, e9, p9⟩ := q9
    obtain ⟨tx, ex, px⟩ := qx
    have lx5 : r.length ≤ 5 := rest_len z r hr9
    have := pf_len p9
    have := pf_len px
    refine ⟨_, rfl, _, rfl, p, .ref lx, rfl, .inl ⟨_, .inr z, .inl (s9 _ _ e6), rfl, hv.symm⟩, l9, lx, _, _, rfl, rfl, e9, ex, by rw [List.length_map, List.length_map, sizeLine_eq]; simp only [List.length_singleton] at *; omega, fun R nR => ?_⟩
    have sR := same_new (o := .lst (t9.map V.ref ++ tx.map V.ref)) nR
    refine q R _ (fun b o e => sR _ _ (s9 _ _ (B6 b o (ne_of_none e np) e))) ⟨t9 ++ tx, by rw [upd_same, List.map_append], ?_⟩
    rw [hlot]
    exact paired_app (paired_imp (fun _ _ e => sR _ _ e) p9) (paired_imp (fun _ _ e => sR _ _ e) px)
theorem c_limages (T : Bt mg) (k_lturns : Cal P w K mg base 1 "_law_turns" spLturns) (F : FnP K "_law_images" s_limages f fd) (hm : mg "_law_images" = some (.ref f)) : Cal P w K mg base 2 "_law_images" (spLimages K) := by
  have hnd := sc_limages.nd
  refine cal_mk F hm sc_limages (fun _ _ _ _ _ _ us hl => match us, hl with | [_, _], _ => rfl) (fun vs H Q E h => ?_) (fun cdv A outer s H vs Q E hr h => ?_)
  · obtain ⟨z, q9, t, rfl, _⟩ := h
    rfl
  · obtain ⟨z, q9, t, rfl, hz, e9, q⟩ := h
    have hu65 : (A.deeper (envOfC "_law_images" (defScope s_limages) s.heap.objs.size f cdv)).units + 65 < cLine := by
      have := hr.un
      omega
    refine ⟨_, (pss_cons (ps_set (i := 2) hnd rfl (by first | exact Or.inl rfl | exact Or.inr rfl) (pe_lst pa_nil))
      (pss_cons (ps_for PassesOwn.never (by rfl) (pi_list (pe_cal k_lturns hr (by omega) (by rfl) (pa_cons (pv 0) pa_nil))) (pg_name (i := 3) hnd rfl (by first | exact Or.inl rfl | exact Or.inr rfl))
      (pss_cons (ps_set (i := 4) hnd rfl (by first | exact Or.inl rfl | exact Or.inr rfl) (pe_tup (pa_cons (pe_ix (show IxR _ (rIxT K) from ix_tup) (pv 1) (pe_ix (show IxR _ (rIxT K) from ix_tup) (pv 3) pe_int (fun _ _ => rfl)) (fun _ _ => rfl)) (pa_cons (pe_ix (show IxR _ (rIxT K) from ix_tup) (pv 1) (pe_ix (show IxR _ (rIxT K) from ix_tup) (pv 3) pe_int (fun _ _ => rfl)) (fun _ _ => rfl)) (pa_cons (pe_ix (show IxR _ (rIxT K) from ix_tup) (pv 1) (pe_ix (show IxR _ (rIxT K) from ix_tup) (pv 3) pe_int (fun _ _ => rfl)) (fun _ _ => rfl)) pa_nil)))))
      (pss_one (ps_set (i := 2) hnd rfl (by first | exact Or.inl rfl | exact Or.inr rfl) (pe_ifExp (pt_cmpR (op_inD hu65) (pv 4) (pv 2) (by rfl)) (pv 2) (pe_op op_cat (pv 2) (pe_lst (pa_cons (pv 4) pa_nil))))))))
      (pss_one (ps_ret (pv 2))))), ?_⟩
    refine ⟨Nat.le_of_ble_eq_true rfl, fun L nL => gname_go ?_⟩
    have s0 := same_new (o := .lst []) nL
    have t0 : TrpsAt (upd H L (.lst [])) L [] := ⟨[], upd_same, .nil⟩
    generalize upd H L (.lst []) = G0 at s0 t0 ⊢
    refine ⟨_, rfl, z, rfl, hz, fun lp H2 s2 LL => ?_⟩
    obtain ⟨us, e2, p2⟩ := LL
    have ul := pf_len p2
    have lot6 := lots_len6 z (List.contains_iff_mem.mp hz)
    have ok := fun u hu => List.all_eq_true.mp (lots_okU z (List.contains_iff_mem.mp hz)) u hu
    refine ⟨lp, rfl, ⟨_, SqL.of e2⟩, ?_⟩
    refine for_list (xs := us.map V.ref) (fun i σ' G => Same H2 G ∧ ∃ (l : Addr) (x3 x4 : Option V), σ' = [some (.str z), some (.ref q9), some (.ref l), x3, x4] ∧ H l = none ∧ TrpsAt G l (imgsL t ((lotOf z).take i))) ⟨Same.refl _, L, _, _, rfl, nL, t0.same s2⟩ (fun i σ' G _ h => SqL.of (h.1 _ _ e2)) ?_ ?_
    · rintro i x σ' G hx ⟨sg, l, x3, x4, rfl, hl0, tl⟩
      rw [List.getElem?_map] at hx
      obtain ⟨ua, hua, rfl⟩ := Option.map_eq_some_iff.mp hx
      obtain ⟨u, hu, eu⟩ := pairedNth p2 hua
      have ou := ok u (List.mem_of_getElem? hu)
      unfold okU at ou
      have o1 := (He.ba ou).1
      have o2 := (He.ba (He.ba ou).2).1
      have o3 := (He.ba (He.ba ou).2).2
      have il := (List.getElem?_eq_some_iff.mp hu).1
      have eu' := SqT.of (K := K) (sg _ _ eu)
      have sq : SqT K G q9 (tV t) := sqT_same e9 ((s0.trans s2).trans sg)
      refine gname_go ?_
      refine ⟨_, rfl, _, rfl, ua, _, _, _, rfl, rfl, eu', atI_nat (j := 0) rfl, q9, _, _, _, rfl, rfl, sq, pl_at o1, _, rfl, _, rfl, ua, _, _, _, rfl, rfl, eu', atI_nat (j := 1) rfl, q9, _, _, _, rfl, rfl, sq, pl_at o2, _, rfl, _, rfl, ua, _, _, _, rfl, rfl, eu', atI_nat (j := 2) rfl, q9, _, _, _, rfl, rfl, sq, pl_at o3, Nat.le_of_ble_eq_true rfl, fun R nR => gname_go ?_⟩
      have sR := same_new (o := .tup [.int (pl t u.1 : Nat), .int (pl t u.2.1 : Nat), .int (pl t u.2.2 : Nat)]) nR
      have eR : TrpAt (upd G R (.tup [.int (pl t u.1 : Nat), .int (pl t u.2.1 : Nat), .int (pl t u.2.2 : Nat)])) R (imgT t u) := upd_same
      generalize upd G R (.tup [.int (pl t u.1 : Nat), .int (pl t u.2.1 : Nat), .int (pl t u.2.2 : Nat)]) = G1 at sR eR ⊢
      have tl1 := tl.same sR
      refine ⟨_, rfl, _, rfl, _, _, dp_trp (SqT.of eR), dp_trpL tl1, rfl, ?_, ?_⟩
      · exact shaped_trps _
      rw [any_trp]
      refine ⟨_, rfl, ?_⟩
      by_cases c : imgT t u ∈ imgsL t ((lotOf z).take i)
      · refine iteT2 (decide_eq_true c) ⟨_, rfl, sg.trans sR, l, _, _, rfl, hl0, ?_⟩
        rw [imgs_take hu, if_pos c]
        exact tl1
      · obtain ⟨qs, el, pq⟩ := tl1
        have := pf_len pq
        have := imgs_len (t := t) ((lotOf z).take i) []
        rw [List.length_take] at this
        refine iteN2 (decide_eq_false c) ⟨_, rfl, _, rfl, Nat.le_of_ble_eq_true rfl, fun L9 n9 => ?_⟩
        have s9 := same_new (o := .lst [.ref R]) n9
        refine ⟨l, L9, _, _, rfl, rfl, s9 _ _ el, upd_same, ?_, fun L8 n8 => ⟨(sg.trans sR).trans (s9.trans (same_new n8)), L8, _, _, rfl, none_back (((s0.trans s2).trans sg).trans (sR.trans s9)) n8, ?_⟩⟩
        · rw [List.length_map, List.length_singleton, sizeLine_eq]
          unfold imgsL at pq
          have h9 := pf_len pq
          simp only [List.length_nil] at this
          omega
        · have s8 := same_new (o := .lst (qs.map V.ref ++ [.ref R])) n8
          rw [imgs_take hu, if_neg c]
          exact ⟨qs ++ [R], by rw [upd_same, List.map_append]; rfl, paired_app (paired_imp (fun _ _ e => s8 _ _ (s9 _ _ e)) pq) (.cons (s8 _ _ (s9 _ _ eR)) .nil)⟩
    · rintro σ' G ⟨sg, l, x3, x4, rfl, hl0, tl⟩
      rw [List.length_map, ul, List.take_length] at tl
      exact ⟨_, rfl, q l G ((s0.trans s2).trans sg) hl0 tl⟩
end
end L2.K19
set_option Elab.async false
set_option linter.all false
set_option maxRecDepth 100000
set_option maxHeartbeats 8000000
namespace L2.K19
open PySem PySem.Spec PyProof.Rows L2.Tb
open SX (S)
theorem Pk.ne {H : Hp} {p L : Addr} (h : Pk H p) (n : H L = none) : L ≠ p := fun z => by
  obtain ⟨g, m, c, ep, _⟩ := h.ex
  rw [z, ep] at n
  cases n
theorem asg_last {te : TE} {g : TG} {D : Ends} {σ : St} {H : Hp} (h : te σ H fun v H' => g v σ H' D.nx) : tAsg te g D σ H := h
theorem sig_go {t : TS} {D : Ends} {σ σ' : St} {H : Hp} (e : σ = σ') (h : t D σ' H) : t D σ H := e ▸ h
theorem asg_all {te : TE} {g : TG} {u : TS} {D : Ends} {σ : St} {H : Hp} (Pv : V → Hp → Prop) (h : ∀ Q : VK, (∀ v G, Pv v G → Q v G) → te σ H Q) (hk : ∀ v G, Pv v G → g v σ G (u D)) : tSeq (tAsg te g) u D σ H := h _ hk
abbrev s_lnames : Stmt := top 62
abbrev N_lnames : List Str := ["_law_purse_here", "_law_length", "_law_words", "_law_signs", "_law_found", "_law_k", "_law_size_here", "_law_called", "_law_j", "_law_spare", "_law_left_one"]
theorem sc_lnames : FnScope N_lnames ["_law_purse_here", "_law_length"] (defScope s_lnames) := ⟨rfl, rfl, rfl, by decide +kernel, rfl, by decide +kernel, by decide +kernel⟩
structure NamesL (ls : List (List Nat)) : Prop where
  ok : ∀ l ∈ ls, nameB l = true
  nd : ls.Nodup
def word10 : List V := [.str (Str.ofString "same"), .str (Str.ofString "go"), .str (Str.ofString "unlike"), .str (Str.ofString "plain"), .str (Str.ofString "calm"), .str (Str.ofString "a"), .str (Str.ofString "b"), .str (Str.ofString "k0"), .str (Str.ofString "all"), .str (Str.ofString "s")]
theorem word10_at : ∀ k : Nat, k < 10 → ∃ l : List Nat, word10[k]? = some (.str (S l)) ∧ nameB l = true := by
  intro k hk
  have go : ∀ z : Str, word10[k]? = some (.str z) → nameB z.cps.toList = true → ∃ l : List Nat, word10[k]? = some (.str (S l)) ∧ nameB l = true := fun z h1 h2 => ⟨z.cps.toList, by rw [h1, ← str_S z], h2⟩
  rcases (show k = 0 ∨ k = 1 ∨ k = 2 ∨ k = 3 ∨ k = 4 ∨ k = 5 ∨ k = 6 ∨ k = 7 ∨ k = 8 ∨ k = 9 by omega) with rfl | rfl | rfl | rfl | rfl | rfl | rfl | rfl | rfl | rfl
  all_goals exact go _ rfl (by decide +kernel)
theorem joinL_one : ∀ cs : List Nat, TL.joinL [] (cs.map fun c => [c]) = cs
  | [] => rfl
  | [c] => rfl
  | c :: d :: r => by
    have ih := joinL_one (d :: r)
    show [c] ++ ([] ++ TL.joinL [] ((d :: r).map fun c => [c])) = _
    rw [ih]
    rfl
def zName (j : Nat) : List Nat := [122, 48 + j]
theorem zName_at : ∀ j : Nat, j < 9 → Str.ofString "z" ++ Str.ofString (toString (0 + (j : Int))) = S (zName j) := by
  intro j hj
  rcases (show j = 0 ∨ j = 1 ∨ j = 2 ∨ j = 3 ∨ j = 4 ∨ j = 5 ∨ j = 6 ∨ j = 7 ∨ j = 8 by omega) with rfl | rfl | rfl | rfl | rfl | rfl | rfl | rfl | rfl
  all_goals decide +kernel
theorem zName_len : ∀ j : Nat, j < 9 → (Str.ofString "z").length + (Str.ofString (toString (0 + (j : Int)))).length = 2 := by
  intro j hj
  rcases (show j = 0 ∨ j = 1 ∨ j = 2 ∨ j = 3 ∨ j = 4 ∨ j = 5 ∨ j = 6 ∨ j = 7 ∨ j = 8 by omega) with rfl | rfl | rfl | rfl | rfl | rfl | rfl | rfl | rfl
  all_goals decide +kernel
theorem zName_ok : ∀ j : Nat, j < 9 → nameB (zName j) = true := by
  intro j hj
  rcases (show j = 0 ∨ j = 1 ∨ j = 2 ∨ j = 3 ∨ j = 4 ∨ j = 5 ∨ j = 6 ∨ j = 7 ∨ j = 8 by omega) with rfl | rfl | rfl | rfl | rfl | rfl | rfl | rfl | rfl
  all_goals decide +kernel
theorem zs_nd (m : Nat) : ((List.range m).map zName).Nodup := by
  rw [List.Nodup, List.pairwise_map]
  refine (List.nodup_range (n := m)).imp fun {a b} h e => h ?_
  unfold zName at e
  injection e with _ e
  injection e with e _
  omega
/-- one that is not there yet -/
theorem spare_some {ls : List (List Nat)} {m : Nat} {l : List Nat} (h : ls.length < m) : ∃ x r, (l :: (List.range m).map zName).filter (fun x => decide (x ∉ ls)) = x :: r := by
  cases hf : (l :: (List.range m).map zName).filter (fun x => decide (x ∉ ls)) with
  | cons a r => exact ⟨a, r, rfl⟩
  | nil =>
    have all : ∀ x ∈ (List.range m).map zName, x ∈ ls := fun x hx => by
      by_cases cx : x ∈ ls
      · exact cx
      · have := (List.mem_filter (p := fun l => decide (l ∉ ls))).mpr ⟨List.mem_cons_of_mem l hx, (decide_eq_true cx : decide (x ∉ ls) = true)⟩
        rw [hf] at this
        cases this
    have := nodup_sub (zs_nd m) all
    rw [List.length_map, List.length_range] at this
    omega
def spLnames : Sp := fun vs H Q _ => ∃ (p : Addr) (m : Nat), vs = [.ref p, .int (m : Int)] ∧ Pk H p ∧ m ≤ 9 ∧ ∀ (ls : List (List Nat)) (L : Addr) (H' : Hp), ls.length = m → NamesL ls → SameB p H H' → Pk H' p → L ≠ p → H L = none → H' L = some (.lst (ls.map nmV)) → Q (.ref L) H'
section
variable {P : Program} {w : World} {K : PySem.W.Frag} {mg : Str → Option Value} {base : Heap} {f : Addr} {fd : FuncData}
theorem c_lnames (T : Bt mg) (mstr : mg "str" = none) (k_pick : Cal P w K mg base 1 "_law_pick" spPick) (F : FnP K "_law_names" s_lnames f fd) (hm : mg "_law_names" = some (.ref f)) : Cal P w K mg base 2 "_law_names" spLnames := by
  have hnd := sc_lnames.nd
  refine cal_mk F hm sc_lnames (fun _ _ _ _ _ _ us hl => match us, hl with | [_, _], _ => rfl) (fun vs H Q E h => ?_) (fun cdv A outer s H vs Q E hr h => ?_)
  · obtain ⟨p, m, rfl, _⟩ := h
    rfl
  · obtain ⟨p, m, rfl, hp, hm9, q⟩ := h
    refine ⟨_, (pss_cons (ps_set (i := 2) hnd rfl (by first | exact Or.inl rfl | exact Or.inr rfl) (pe_lst (pa_cons pe_str (pa_cons pe_str (pa_cons pe_str (pa_cons pe_str (pa_cons pe_str (pa_cons pe_str (pa_cons pe_str (pa_cons pe_str (pa_cons pe_str (pa_cons pe_str pa_nil))))))))))))
      (pss_cons (ps_set (i := 3) hnd rfl (by first | exact Or.inl rfl | exact Or.inr rfl) pe_str)
      (pss_cons (ps_set (i := 4) hnd rfl (by first | exact Or.inl rfl | exact Or.inr rfl) (pe_lst pa_nil))
      (pss_cons (ps_for PassesOwn.never (by rfl) (pi_range1 (by rfl) T.m_range (pa_cons (pv 1) pa_nil)) (pg_name (i := 5) hnd rfl (by first | exact Or.inl rfl | exact Or.inr rfl))
      (pss_cons (ps_set (i := 6) hnd rfl (by first | exact Or.inl rfl | exact Or.inr rfl) (pe_ifExp (pt_cmpR op_eq (pe_cal k_pick hr (by omega) (by rfl) (pa_cons (pv 0) (pa_cons pe_int pa_nil))) pe_int (nomark _)) (pe_cal k_pick hr (by omega) (by rfl) (pa_cons (pv 0) (pa_cons pe_int pa_nil))) (pe_cal k_pick hr (by omega) (by rfl) (pa_cons (pv 0) (pa_cons pe_int pa_nil)))))
      (pss_cons (ps_set (i := 7) hnd rfl (by first | exact Or.inl rfl | exact Or.inr rfl) (pe_ix ix_str (pv 3) (pe_cal k_pick hr (by omega) (by rfl) (pa_cons (pv 0) (pa_cons pe_int pa_nil))) (fun _ _ => rfl)))
      (pss_cons (ps_set (i := 7) hnd rfl (by first | exact Or.inl rfl | exact Or.inr rfl) (pe_op op_add_str (pv 7) (pe_join pe_str (pe_lc (own := [("_law_j", 8)]) (tt := tYes) (by rfl) hnd (pi_range1 (by rfl) T.m_range (pa_cons (pv 6) pa_nil)) (blkOk_by (own := [("_law_j", 8)]) (N := N_lnames) (sc := defScope s_lnames) (by decide +kernel)) (fun _ _ _ _ _ => (pg_name (i := 8) hnd rfl (by first | exact Or.inl rfl | exact Or.inr rfl))) (fun _ _ _ _ _ => pts_nil) (fun _ _ _ _ _ => (pe_ix ix_str (pv 3) (pe_cal k_pick hr (by omega) (by rfl) (pa_cons (pv 0) (pa_cons pe_int pa_nil))) (fun _ _ => rfl)))))))
      (pss_cons (ps_set (i := 7) hnd rfl (by first | exact Or.inl rfl | exact Or.inr rfl) (pe_ifExp (pt_cmpR op_eq (pe_cal k_pick hr (by omega) (by rfl) (pa_cons (pv 0) (pa_cons pe_int pa_nil))) pe_int (nomark _)) (pe_ix (show IxR _ (rIxL K) from ix_list) (pv 2) (pe_cal k_pick hr (by omega) (by rfl) (pa_cons (pv 0) (pa_cons pe_int pa_nil))) (fun _ _ => rfl)) (pv 7)))
      (pss_cons (ps_set (i := 9) hnd rfl (by first | exact Or.inl rfl | exact Or.inr rfl) (pe_op op_cat (pe_lst (pa_cons (pv 7) pa_nil)) (pe_lc (own := [("_law_j", 8)]) (tt := tYes) (by rfl) hnd (pi_range1 (by rfl) T.m_range (pa_cons (pv 1) pa_nil)) (blkOk_by (own := [("_law_j", 8)]) (N := N_lnames) (sc := defScope s_lnames) (by decide +kernel)) (fun _ _ _ _ _ => (pg_name (i := 8) hnd rfl (by first | exact Or.inl rfl | exact Or.inr rfl))) (fun _ _ _ _ _ => pts_nil) (fun _ _ _ _ _ => (pe_op op_add_str pe_str (pe_callTy call_str_int (by rfl) mstr (by decide +kernel) (pa_cons (pv 8) pa_nil)))))))
      (pss_one (ps_expr (pe_bm PySem.F.plainAttrs_list PySem.F.slot_list_append PySem.F.type_list_append mt_append (pv 4) (pa_cons (pe_ix (show IxR _ (rIxL K) from ix_list) (pe_lc (own := [("_law_left_one", 10)]) (by rfl) hnd (pi_list (pv 9)) (blkOk_by (own := [("_law_left_one", 10)]) (N := N_lnames) (sc := defScope s_lnames) (by decide +kernel)) (fun _ _ _ _ _ => (pg_name (i := 10) hnd rfl (by first | exact Or.inl rfl | exact Or.inr rfl))) (fun _ _ _ _ _ => (pts_one (pt_cmpR (show OpR _ (compareOp .NotIn) (rIn K true) from op_notIn_seq) (pv 10) (pv 4) (by rfl)))) (fun _ _ _ _ _ => (pv 10))) pe_int (fun _ _ => rfl)) pa_nil))))))))))
      (pss_one (ps_ret (pv 4))))))), ?_⟩
    refine ⟨Nat.le_of_ble_eq_true rfl, fun W nW => gname_go ?_⟩
    try dsimp only
    refine gname_go ?_
    show tSeq _ _ _ _ (upd H W (.lst word10))
    try dsimp only
    refine ⟨Nat.zero_le _, fun L nL => gname_go ?_⟩
    try dsimp only
    have nWp : W ≠ p := hp.ne nW
    have sW := same_new (o := .lst word10) nW
    have nLW : L ≠ W := fun z => by
      rw [z] at nL
      exact absurd (nL.symm.trans (upd_same (H := H) (a := W) (o := .lst word10))) (fun z => by cases z)
    have nLH : H L = none := none_back sW nL
    have nLp : L ≠ p := hp.ne nLH
    have s0 : Same H (upd (upd H W (.lst word10)) L (.lst [])) := sW.trans (same_new (o := .lst []) nL)
    have eL : (upd (upd H W (.lst word10)) L (.lst [])) L = some (.lst ([] : List V)) := upd_same
    have eW : (upd (upd H W (.lst word10)) L (.lst [])) W = some (.lst word10) := (same_new (o := .lst []) nL) _ _ upd_same
    have u0 := hp.same s0
    generalize upd (upd H W (.lst word10)) L (.lst []) = G0 at s0 eL eW u0 ⊢
    have l36 : (Str.ofString "abcdefghijklmnopqrstuvwxyz0123456789").length ≤ sizeLine := by
      rw [show (Str.ofString "abcdefghijklmnopqrstuvwxyz0123456789").length = 36 by decide +kernel, sizeLine_eq]
      decide
    refine ⟨_, rfl, (m : Int), rfl, by omega, by omega, ?_⟩
    refine for_range (n := ((m : Nat) : Int).toNat) (fun i σ' G => ∃ (ls : List (List Nat)) (x5 x6 x7 x9 : Option V), σ' = [some (.ref p), some (.int (m : Int)), some (.ref W), some (.str (Str.ofString "abcdefghijklmnopqrstuvwxyz0123456789")), some (.ref L), x5, x6, x7, none, x9, none] ∧ G L = some (.lst (ls.map nmV)) ∧ G W = some (.lst word10) ∧ ls.length = i ∧ NamesL ls ∧ SameB p H G ∧ Pk G p)
      ⟨[], _, _, _, _, rfl, eL, eW, rfl, ⟨fun l h => (by cases h), List.nodup_nil⟩, SameB.of s0, u0⟩ ?_ ?_
    · rintro i σ' G hi ⟨ls, x5, x6, x7, x9, rfl, eL, eW, ll, nl, sG, uG⟩
      have hi : i < m := by
        rw [Int.toNat_natCast] at hi
        exact hi
      refine gname_go ?_
      try dsimp only
      refine asg_all (fun v G1 => ∃ d : Nat, v = .int (d : Int) ∧ d ≤ 7 ∧ SameB p G G1 ∧ Pk G1 p) (fun Q9 hQ => ?_) ?_
      · refine ⟨_, rfl, p, 4, rfl, uG, by decide, by decide, fun d G1 hd b1 pk1 => ⟨rfl, _, rfl, ?_⟩⟩
        by_cases c : d = 0
        · exact iteT2 (decide_eq_true (by rw [c]; rfl)) ⟨_, rfl, p, 8, rfl, pk1, by decide, by decide, fun e G2 he b2 pk2 => hQ _ _ ⟨e, rfl, by omega, b1.trans b2, pk2⟩⟩
        · exact iteN2 (decide_eq_false fun e => c (by injection e with e; omega)) ⟨_, rfl, p, 2, rfl, pk1, by decide, by decide, fun e G2 he b2 pk2 => hQ _ _ ⟨e, rfl, by omega, b1.trans b2, pk2⟩⟩
      rintro _ G1 ⟨sz, rfl, sz7, b1, pk1⟩
      refine gname_go ?_
      try dsimp only
      refine asg_all (fun v G2 => ∃ c : Nat, v = .str (S [c]) ∧ lowB c = true ∧ SameB p G1 G2 ∧ Pk G2 p) (fun Q9 hQ => ?_) ?_
      · refine ⟨_, rfl, _, rfl, p, 26, rfl, pk1, by decide, by decide, fun k G2 hk b2 pk2 => ?_⟩
        obtain ⟨ha, hs⟩ := sign_at k (by omega)
        refine ⟨_, _, _, rfl, rfl, l36, atI_nat ha, ?_⟩
        exact hQ _ _ ⟨signAt k, rfl, by unfold signAt; rw [if_pos hk]; simp only [lowB, Bool.and_eq_true, Nat.ble_eq]; omega, b2, pk2⟩
      rintro _ G2 ⟨c1, rfl, hc1, b2, pk2⟩
      refine gname_go ?_
      try dsimp only
      refine asg_all (fun v G3 => ∃ l : List Nat, v = .str (S l) ∧ nameB l = true ∧ SameB p G2 G3 ∧ Pk G3 p) (fun Q9 hQ => ?_) ?_
      · refine ⟨_, rfl, ⟨_, rfl⟩, _, rfl, (sz : Int), rfl, by omega, by omega, fun D nD => ?_⟩
        have nDp : D ≠ p := pk2.ne nD
        have sD := same_new (o := .lst []) nD
        refine lc_range (n := ((sz : Nat) : Int).toNat) (fun j G => SameB p G2 G ∧ Pk G p ∧ ∃ cs : List Nat, G D = some (.lst (cs.map fun c => V.str (S [c]))) ∧ cs.length = j ∧ cs.all signB = true) ⟨SameB.of sD, pk2.same sD, [], upd_same, rfl, rfl⟩ ?_ ?_
        · rintro j G hj ⟨bG, uG, cs, eD, cl, ca⟩
          rw [Int.toNat_natCast] at hj
          refine gname_go ⟨rfl, ?_⟩
          unfold tYes
          dsimp only
          rw [if_pos rfl]
          refine ⟨_, rfl, _, rfl, p, 36, rfl, uG, by decide, by decide, fun k G5 hk b5 pk5 => ?_⟩
          obtain ⟨ha, hs⟩ := sign_at k (by omega)
          refine ⟨_, _, _, rfl, rfl, l36, atI_nat ha, ?_⟩
          have eD5 := b5 _ _ nDp eD
          refine ⟨_, eD5, by rw [List.length_map, cl, sizeLine_eq]; omega, fun b o nb e => ?_, ?_, cs ++ [signAt k], by rw [upd_same, List.map_append]; rfl, by rw [List.length_append, cl]; rfl, ?_⟩
          · rw [upd_ne (ne_of_none e nD)]
            exact b5 _ _ nb (bG _ _ nb e)
          · obtain ⟨g, mm, c, ep, r⟩ := pk5.ex
            exact ⟨g, mm, c, (upd_ne (Ne.symm nDp)).trans ep, r⟩
          · rw [List.all_append, ca, List.all_cons, hs]
            rfl
        · rintro G ⟨bG, uG, cs, eD, cl, ca⟩
          rw [Int.toNat_natCast] at cl
          refine ⟨_, D, cs.map fun c => S [c], rfl, rfl, .inl (SqL.of (by rw [eD, List.map_map]; rfl)), ?_, ?_⟩
          · have : ((cs.map fun c => S [c]).map (·.length)) = List.replicate cs.length 1 := by
              rw [List.map_map, List.map_congr_left (g := fun _ => 1) (fun c _ => SX.S_len _)]
              exact List.map_const' ..
            rw [this, List.sum_replicate_nat, cl]
            show sz * 1 + _ * 0 ≤ _
            omega
          · rw [show (Str.ofString "") = S [] by decide +kernel, show (cs.map fun c => S [c]) = (cs.map fun c => [c]).map S by rw [List.map_map]; rfl, SX.join_S, joinL_one]
            refine ⟨_, _, rfl, rfl, ?_, ?_⟩
            · rw [SX.S_len, SX.S_len, sizeLine_eq, cl]
              show 1 + sz ≤ _
              omega
            · rw [SX.S_cat]
              refine hQ _ _ ⟨[c1] ++ cs, rfl, ?_, bG, uG⟩
              show (lowB c1 && (Nat.ble cs.length 7 && cs.all signB)) = true
              rw [hc1, ca, cl, Nat.ble_eq.mpr sz7]
              rfl
      rintro _ G3 ⟨l1, rfl, hl1, b3, pk3⟩
      refine gname_go ?_
      try dsimp only
      have b13 := (b1.trans b2).trans b3
      have eW3 := b13 _ _ nWp eW
      have eL3 := b13 _ _ nLp eL
      refine asg_all (fun v G4 => ∃ l : List Nat, v = .str (S l) ∧ nameB l = true ∧ SameB p G3 G4 ∧ Pk G4 p) (fun Q9 hQ => ?_) ?_
      · refine ⟨_, rfl, p, 5, rfl, pk3, by decide, by decide, fun d G4 hd b4 pk4 => ⟨rfl, _, rfl, ?_⟩⟩
        by_cases c : d = 0
        · refine iteT2 (decide_eq_true (by rw [c]; rfl)) ⟨_, rfl, _, rfl, p, 10, rfl, pk4, by decide, by decide, fun e G5 he b5 pk5 => ?_⟩
          obtain ⟨l, hl, hn⟩ := word10_at e he
          exact ⟨W, word10, _, _, rfl, rfl, SqL.of (b5 _ _ nWp (b4 _ _ nWp eW3)), atI_nat hl, hQ _ _ ⟨l, rfl, hn, b4.trans b5, pk5⟩⟩
        · exact iteN2 (decide_eq_false fun e => c (by injection e with e; omega)) ⟨_, rfl, hQ _ _ ⟨l1, rfl, hl1, b4, pk4⟩⟩
      rintro _ G4 ⟨l2, rfl, hl2, b4, pk4⟩
      refine gname_go ?_
      try dsimp only
      have eW4 := b4 _ _ nWp eW3
      have eL4 := b4 _ _ nLp eL3
      have b04 := (sG.trans b13).trans b4
      refine asg_all (fun v G5 => ∃ Z, v = .ref Z ∧ Same G4 G5 ∧ G5 Z = some (.lst ((l2 :: (List.range m).map zName).map nmV))) (fun Q9 hQ => ?_) ?_
      · refine ⟨_, rfl, Nat.le_of_ble_eq_true rfl, fun A nA => ⟨_, rfl, (m : Int), rfl, by omega, by omega, fun D nD => ?_⟩⟩
        have sA := same_new (o := .lst [.str (S l2)]) nA
        have eA := upd_same (H := G4) (a := A) (o := .lst [.str (S l2)])
        generalize upd G4 A (.lst [.str (S l2)]) = GA at sA eA nD ⊢
        refine lc_range (n := ((m : Nat) : Int).toNat) (fun j G => Same GA G ∧ G D = some (.lst (((List.range j).map zName).map nmV))) ⟨same_new nD, upd_same⟩ ?_ ?_
        · rintro j G hj ⟨sGj, eD⟩
          rw [Int.toNat_natCast] at hj
          refine gname_go ⟨rfl, ?_⟩
          unfold tYes
          dsimp only
          rw [if_pos rfl]
          refine ⟨_, rfl, _, rfl, ?_, _, _, rfl, rfl, ?_⟩
          · exact Nat.lt_of_le_of_lt (Nat.log2_le_self _) (by omega)
          have hz := zName_at j (by omega)
          have lz := zName_len j (by omega)
          refine ⟨by rw [lz, sizeLine_eq]; omega, ?_⟩
          rw [hz]
          refine ⟨_, eD, by rw [List.length_map, List.length_map, List.length_range, sizeLine_eq]; omega, same_put nD sGj, ?_⟩
          rw [upd_same, List.range_succ, List.map_append, List.map_append]
          rfl
        · rintro G ⟨sGj, eD⟩
          rw [Int.toNat_natCast] at eD
          refine ⟨A, D, _, _, rfl, rfl, sGj _ _ eA, eD, by rw [List.length_map, List.length_map, List.length_range, sizeLine_eq]; show 1 + m ≤ _; omega, fun R nR => ?_⟩
          exact hQ _ _ ⟨R, rfl, (sA.trans sGj).trans (same_new nR), by rw [upd_same]; rfl⟩
      rintro _ G5 ⟨Z, rfl, s5, eZ⟩
      refine gname_go ?_
      try dsimp only
      have eW5 := s5 _ _ eW4
      have eL5 := s5 _ _ eL4
      have pk5 := pk4.same s5
      have b05 := b04.trans (SameB.of s5)
      obtain ⟨x9, r9, hf⟩ := spare_some (l := l2) (ls := ls) (m := m) (by omega)
      refine ⟨_, rfl, .inl ⟨rfl, _, SqL.of eL5⟩, _, rfl, Z, rfl, ⟨_, SqL.of eZ⟩, fun D nD => ?_⟩
      refine lc_list (xs := (l2 :: (List.range m).map zName).map nmV) (fun j G6 => Same G5 G6 ∧ G6 D = some (.lst ((((l2 :: (List.range m).map zName).take j).filter fun l => decide (l ∉ ls)).map nmV))) ⟨same_new nD, upd_same⟩ (fun j G6 _ y => SqL.of (y.1 _ _ eZ)) ?_ ?_
      · rintro j y G6 hj ⟨s6, e6⟩
        rw [List.getElem?_map] at hj
        obtain ⟨a, ha, rfl⟩ := Option.map_eq_some_iff.mp hj
        refine ⟨rfl, _, rfl, _, rfl, L, _, rfl, .inl (SqL.of (s6 _ _ eL5)), rfl, names_flat ls, _, rfl, ?_⟩
        rw [if_pos rfl, inV_names]
        by_cases c2 : a ∈ ls
        · rw [decide_eq_true c2]
          refine iteF ⟨s6, ?_⟩
          rw [take_at ha, List.filter_append, List.filter_cons_of_neg (by simpa using c2), List.filter_nil, List.append_nil]
          exact e6
        · rw [decide_eq_false c2]
          refine iteT ⟨_, rfl, _, e6, ?_, same_pt nD s6, ?_⟩
          · rw [List.length_map, sizeLine_eq]
            have := List.length_filter_le (fun l => decide (l ∉ ls)) ((l2 :: (List.range m).map zName).take j)
            have h9 : (l2 :: (List.range m).map zName).length = m + 1 := by rw [List.length_cons, List.length_map, List.length_range]
            rw [List.length_take] at this
            omega
          · rw [upd_same, take_at ha, List.filter_append, List.filter_cons_of_pos (by simpa using c2), List.filter_nil, List.map_append]
            rfl
      · rintro G6 ⟨s6, e6⟩
        rw [List.length_map, List.take_length, hf] at e6
        have hin : x9 ∈ (l2 :: (List.range m).map zName).filter fun x => decide (x ∉ ls) := by rw [hf]; exact List.mem_cons_self
        obtain ⟨hx1, hx2⟩ := List.mem_filter.mp hin
        have hx2 : x9 ∉ ls := of_decide_eq_true hx2
        have hx1 : nameB x9 = true := by
          rcases List.mem_cons.mp hx1 with rfl | hx1
          · exact hl2
          · obtain ⟨j, hj, rfl⟩ := List.mem_map.mp hx1
            exact zName_ok j (by rw [List.mem_range] at hj; omega)
        have eL6 := s6 _ _ eL5
        refine ⟨D, _, _, _, rfl, rfl, SqL.of e6, atI_nat (j := 0) rfl, L, _, _, rfl, rfl, eL6, by rw [List.length_map, ll, sizeLine_eq]; omega, ?_⟩
        have b06 := b05.trans (SameB.of s6)
        refine ⟨ls ++ [x9], _, _, _, _, rfl, by rw [upd_same, List.map_append]; rfl, (upd_ne (Ne.symm nLW)).trans (s6 _ _ eW5), by rw [List.length_append, ll]; rfl, ⟨fun l hl => ?_, ?_⟩, fun b o nb e => ?_, ?_⟩
        · rcases List.mem_append.mp hl with hl | hl
          · exact nl.ok l hl
          · rw [List.mem_singleton.mp hl]
            exact hx1
        · refine List.nodup_append.mpr ⟨nl.nd, (List.nodup_cons.mpr ⟨fun h => (by cases h), List.nodup_nil⟩), fun a ha b hb => ?_⟩
          rw [List.mem_singleton.mp hb]
          exact fun e => hx2 (by rw [← e]; exact ha)
        · rw [upd_ne (ne_of_none e nLH)]
          exact b06 b o nb e
        · obtain ⟨g, mm, c, ep, r⟩ := (pk5.same s6).ex
          exact ⟨g, mm, c, (upd_ne (Ne.symm nLp)).trans ep, r⟩
    · rintro σ' G ⟨ls, x5, x6, x7, x9, rfl, eL, eW, ll, nl, sG, uG⟩
      exact ⟨_, rfl, q ls L G (by rw [ll, Int.toNat_natCast]) nl sG uG nLp nLH eL⟩
end
end L2.K19
set_option Elab.async false
set_option linter.all false
set_option maxRecDepth 100000
set_option maxHeartbeats 8000000
namespace L2.K19
open PySem PySem.Spec PyProof.Rows L2.Tb
open SX (S)
abbrev s_lform : Stmt := top 63
abbrev N_lform : List Str := ["_law_purse_here", "_law_names_here", "_law_size_here", "_law_sign", "_law_first"]
theorem sc_lform : FnScope N_lform ["_law_purse_here", "_law_names_here", "_law_size_here"] (defScope s_lform) := ⟨rfl, rfl, rfl, by decide +kernel, rfl, by decide +kernel, by decide +kernel⟩
abbrev s_lmade : Stmt := top 64
abbrev N_lmade : List Str := ["_law_form_here", "_law_left", "_law_right_here"]
theorem sc_lmade : FnScope N_lmade ["_law_form_here"] (defScope s_lmade) := ⟨rfl, rfl, rfl, by decide +kernel, rfl, by decide +kernel, by decide +kernel⟩
/-! ### the law's formulas: pairs of the empty text and a name, tuples of a sign and two formulas -/
inductive TrW (H : Hp) : V → Fm → Prop where
  | lt {a : Addr} {n : List Nat} : H a = some (.tup [.str (S []), .str (S n)]) → TrW H (.ref a) (.lt n)
  | op {a : Addr} {vl vr : V} {s : Nat} {l r : Fm} : H a = some (.tup [.str (S (sgL s)), vl, vr]) → TrW H vl l → TrW H vr r → TrW H (.ref a) (.op s l r)
theorem TrW.mono {H H' : Hp} (k : ∀ b xs, H b = some (.tup xs) → H' b = some (.tup xs)) {v : V} {f : Fm} (h : TrW H v f) : TrW H' v f := by
  induction h with
  | lt e => exact .lt (k _ _ e)
  | op e _ _ i1 i2 => exact .op (k _ _ e) i1 i2
theorem TrW.same {H H' : Hp} {v : V} {f : Fm} (h : TrW H v f) (s : Same H H') : TrW H' v f := h.mono fun b xs e => s _ _ e
theorem tup_keep {H H' : Hp} {p : Addr} (hp : Pk H p) (s : SameB p H H') : ∀ b xs, H b = some (.tup xs) → H' b = some (.tup xs) := fun b xs e => by
  obtain ⟨g, m, c, ep, _⟩ := hp.ex
  exact s b _ (fun z => by
    rw [z, ep] at e
    cases e) e
theorem TrW.B {H H' : Hp} {p : Addr} {v : V} {f : Fm} (h : TrW H v f) (hp : Pk H p) (s : SameB p H H') : TrW H' v f := h.mono (tup_keep hp s)
theorem sgL_no (s : Nat) : decide (V.str (S (sgL s)) = V.str (Str.ofString "")) = false := by
  refine decide_eq_false fun e => ?_
  rw [cons_S] at e
  injection e with e
  have := SX.S_inj e
  unfold sgL at this
  split at this <;> cases this
def sign4 : List V := [.str (Str.ofString "*"), .str (Str.ofString "//"), .str (Str.ofString ">>"), .str (Str.ofString "*")]
theorem sign4_at : ∀ k : Nat, k < 4 → ∃ s, s < 3 ∧ sign4[k]? = some (.str (S (sgL s))) := by
  intro k hk
  rcases (show k = 0 ∨ k = 1 ∨ k = 2 ∨ k = 3 by omega) with rfl | rfl | rfl | rfl
  · exact ⟨0, by decide, by decide +kernel⟩
  · exact ⟨1, by decide, by decide +kernel⟩
  · exact ⟨2, by decide, by decide +kernel⟩
  · exact ⟨0, by decide, by decide +kernel⟩
theorem name_at {ls : List (List Nat)} {k : Nat} (h : k < ls.length) : ∃ l, l ∈ ls ∧ (ls.map nmV)[k]? = some (.str (S l)) := ⟨ls[k], List.getElem_mem h, by rw [List.getElem?_map, List.getElem?_eq_getElem h]; rfl⟩
def spLform (n : Nat) : Sp := fun vs H Q _ => ∃ (p L : Addr) (ls : List (List Nat)) (m : Nat), vs = [.ref p, .ref L, .int (m : Int)] ∧ Pk H p ∧ H L = some (.lst (ls.map nmV)) ∧ L ≠ p ∧ 0 < ls.length ∧ ls.length ≤ 100 ∧ (∀ l ∈ ls, nameB l = true) ∧ m ≤ n ∧ m ≤ 100 ∧
  ∀ (v : V) (f : Fm) (H' : Hp), SameB p H H' → Pk H' p → TrW H' v f → f.ok = true → f.ops = m → Q v H'
def spLfA : Nat → Sp
  | 0 => fun _ _ _ _ => False
  | n + 1 => spLform n
def spLmade (FC : Addr) (n : Nat) : Sp := fun vs H Q _ => ∃ (v : V) (f : Fm), vs = [v] ∧ TrW H v f ∧ f.ok = true ∧ f.ops ≤ 8 ∧ f.dep ≤ n ∧ ∀ x H', Same H H' → FmAt FC H' x f → Q (.ref x) H'
def spLzA (FC : Addr) : Nat → Sp
  | 0 => fun _ _ _ _ => False
  | n + 1 => spLmade FC n
open PySem.W in
def BinM (P : Program) (w : World) (K : PySem.W.Frag) (mg : Str → Option Value) (base : Heap) (FC CF CM : Addr) (op : Operator) (i : Nat) : Prop := ∃ f fd, findIn K (.ref FC) (PySem.dunder op.info.2) = some (some (.ref f)) ∧ isFn K (.ref f) = true ∧ findIn K (.ref FC) (dunderR op.info.2) = some none ∧
  FnOk P w K mg base (L2.CX P w) 9 f fd ["self", "other"] (spFop i K FC CF CM) ∧ Binds K fd ["self", "other"] []
section
variable {P : Program} {w : World} {K : PySem.W.Frag} {mg : Str → Option Value} {base : Heap} {f : Addr} {fd : FuncData} {FC CNotAFormula CTooMany CInvalidName : Addr}
theorem c_lform_false (F : FnP K "_law_form" s_lform f fd) (hm : mg "_law_form" = some (.ref f)) : Cal P w K mg base 1 "_law_form" (spLfA 0) :=
  ⟨f, fd, ["_law_purse_here", "_law_names_here", "_law_size_here"], ⟨fun _ _ _ _ h => h.elim, fun _ _ _ _ _ _ _ _ _ _ _ _ _ h => h.elim⟩, hm, F.kp, F.bindsN fun _ _ _ _ _ _ us hl => match us, hl with | [_, _, _], _ => rfl⟩
theorem c_lform_step (T : Bt mg) (k_pick : Cal P w K mg base 1 "_law_pick" spPick) (F : FnP K "_law_form" s_lform f fd) (hm : mg "_law_form" = some (.ref f)) (n : Nat) (k_lform : Cal P w K mg base (n + 1) "_law_form" (spLfA n)) : Cal P w K mg base (n + 1 + 1) "_law_form" (spLform n) := by
  have hnd := sc_lform.nd
  refine cal_mk F hm sc_lform (fun _ _ _ _ _ _ us hl => match us, hl with | [_, _, _], _ => rfl) (fun vs H Q E h => ?_) (fun cdv A outer s H vs Q E hr h => ?_)
  · obtain ⟨p, L, ls, m, rfl, _⟩ := h
    rfl
  · obtain ⟨p, L, ls, m, rfl, hp, eL, nLp, l0, l100, hn, hmn, m100, q⟩ := h
    refine ⟨_, (pss_cons (ps_if (pt_cmpR op_eq (pv 2) pe_int (nomark _))
      (pss_one (ps_ret (pe_tup (pa_cons pe_str (pa_cons (pe_ix (show IxR _ (rIxL K) from ix_list) (pv 1) (pe_cal k_pick hr (by omega) (by rfl) (pa_cons (pv 0) (pa_cons (pe_callB call_len_seq (by rfl) T.m_len (by decide +kernel) (pa_cons (pv 1) pa_nil)) pa_nil))) (fun _ _ => rfl)) pa_nil)))))
      pss_nil)
      (pss_cons (ps_set (i := 3) hnd rfl (by first | exact Or.inl rfl | exact Or.inr rfl) (pe_ix (show IxR _ (rIxL K) from ix_list) (pe_lst (pa_cons pe_str (pa_cons pe_str (pa_cons pe_str (pa_cons pe_str pa_nil))))) (pe_cal k_pick hr (by omega) (by rfl) (pa_cons (pv 0) (pa_cons pe_int pa_nil))) (fun _ _ => rfl)))
      (pss_cons (ps_set (i := 4) hnd rfl (by first | exact Or.inl rfl | exact Or.inr rfl) (pe_cal k_pick hr (by omega) (by rfl) (pa_cons (pv 0) (pa_cons (pv 2) pa_nil))))
      (pss_one (ps_ret (pe_tup (pa_cons (pv 3) (pa_cons (pe_cal k_lform hr (by omega) (by rfl) (pa_cons (pv 0) (pa_cons (pv 1) (pa_cons (pv 4) pa_nil)))) (pa_cons (pe_cal k_lform hr (by omega) (by rfl) (pa_cons (pv 0) (pa_cons (pv 1) (pa_cons (pe_op op_sub (pe_op op_sub (pv 2) pe_int) (pv 4)) pa_nil)))) pa_nil))))))))), ?_⟩
    refine ⟨_, rfl, rfl, _, rfl, ?_⟩
    by_cases c : m = 0
    · subst c
      refine iteT2 (decide_eq_true rfl) ?_
      refine ⟨_, rfl, _, rfl, _, rfl, L, _, rfl, .inl (SqL.of eL), p, (ls.map nmV).length, rfl, hp, by rw [List.length_map]; exact l0, ?_, fun k H1 hk b1 pk1 => ?_⟩
      · rw [List.length_map]
        exact Nat.lt_of_le_of_lt l100 (by decide)
      · rw [List.length_map] at hk
        obtain ⟨l, hl, el⟩ := name_at hk
        refine ⟨L, _, _, .str (S l), rfl, rfl, SqL.of (b1 _ _ nLp eL), atI_nat el, Nat.le_of_ble_eq_true rfl, fun R nR => ?_⟩
        exact q _ (.lt l) _ (b1.trans (SameB.of (same_new nR))) (pk1.same (same_new nR)) (.lt (by rw [upd_same, cons_S])) (hn l hl) rfl
    · refine iteN2 (decide_eq_false fun e => c (by injection e with e; omega)) ?_
      cases n with
      | zero => omega
      | succ n =>
        have m200 : m < 2 ^ 200 := Nat.lt_of_le_of_lt m100 (by decide)
        refine ⟨Nat.le_of_ble_eq_true rfl, fun W nW => ?_⟩
        have sW := same_new (o := .lst sign4) nW
        have eW := upd_same (H := H) (a := W) (o := .lst sign4)
        have nWp := hp.ne nW
        refine ⟨_, rfl, p, 4, rfl, hp.same sW, by decide, by decide, fun k G1 hk b1 pk1 => ?_⟩
        obtain ⟨s0, hs0, es⟩ := sign4_at k hk
        refine ⟨W, sign4, _, _, rfl, rfl, SqL.of (b1 _ _ nWp eW), atI_nat es, gname_go ?_⟩
        try dsimp only
        have b01 : SameB p H G1 := (SameB.of sW).trans b1
        refine ⟨_, rfl, _, rfl, p, m, rfl, pk1, by omega, m200, fun j G2 hj b2 pk2 => gname_go ?_⟩
        try dsimp only
        have b02 := b01.trans b2
        refine ⟨_, rfl, _, rfl, _, rfl, _, rfl, p, L, ls, j, rfl, pk2, b02 _ _ nLp eL, nLp, l0, l100, hn, by omega, by omega, fun v1 f1 G3 b3 pk3 t1 ok1 o1 => ?_⟩
        have b03 := b02.trans b3
        refine ⟨_, rfl, _, rfl, _, rfl, _, _, rfl, rfl, _, rfl, _, _, rfl, rfl, p, L, ls, m - 1 - j, by rw [show ((m - 1 - j : Nat) : Int) = (m : Int) - 1 - (j : Int) by omega]; rfl, pk3, b03 _ _ nLp eL, nLp, l0, l100, hn, by omega, by omega, fun v2 f2 G4 b4 pk4 t2 ok2 o2 => ?_⟩
        have b04 := b03.trans b4
        refine ⟨Nat.le_of_ble_eq_true rfl, fun R nR => ?_⟩
        have sR := same_new (o := .tup [.str (S (sgL s0)), v1, v2]) nR
        exact q _ (.op s0 f1 f2) _ (b04.trans (SameB.of sR)) (pk4.same sR) (.op upd_same ((t1.B pk3 b4).same sR) (t2.same sR)) (Fm.ok_mk hs0 ok1 ok2) (by simp only [Fm.ops]; omega)
theorem c_lform (T : Bt mg) (k_pick : Cal P w K mg base 1 "_law_pick" spPick) (F : FnP K "_law_form" s_lform f fd) (hm : mg "_law_form" = some (.ref f)) : ∀ n, Cal P w K mg base (n + 1 + 1) "_law_form" (spLform n)
  | 0 => c_lform_step T k_pick F hm 0 (c_lform_false F hm)
  | n + 1 => c_lform_step T k_pick F hm (n + 1) (c_lform T k_pick F hm n)
theorem c_lmade_false (F : FnP K "_law_made" s_lmade f fd) (hm : mg "_law_made" = some (.ref f)) : Cal P w K mg base 10 "_law_made" (spLzA FC 0) :=
  ⟨f, fd, ["_law_form_here"], ⟨fun _ _ _ _ h => h.elim, fun _ _ _ _ _ _ _ _ _ _ _ _ _ h => h.elim⟩, hm, F.kp, F.bindsN fun _ _ _ _ _ _ us hl => match us, hl with | [_], _ => rfl⟩
theorem c_lmade_step (T : Bt mg) (FF : FoF K mg FC) (sfF : PySem.W.selfFirst K FC = true) (MU : BinM P w K mg base FC CNotAFormula CTooMany .Mult 0) (FD : BinM P w K mg base FC CNotAFormula CTooMany .FloorDiv 1) (RS : BinM P w K mg base FC CNotAFormula CTooMany .RShift 2)
    (x_letter : CalX P w K mg base 8 "letter" (spLetter K FC CInvalidName)) (F : FnP K "_law_made" s_lmade f fd) (hm : mg "_law_made" = some (.ref f)) (n : Nat) (k_lmade : Cal P w K mg base (10 + n) "_law_made" (spLzA FC n)) : Cal P w K mg base (10 + n + 1) "_law_made" (spLmade FC n) := by
  have hnd := sc_lmade.nd
  obtain ⟨fm, fdm, hsM, hfM, hrM, Fm_, Bm⟩ := MU
  obtain ⟨fv, fdv, hsD, hfD, hrD, Fd_, Bd_⟩ := FD
  obtain ⟨fq, fdq, hsR, hfR, hrR, Fr_, Br⟩ := RS
  refine cal_mk F hm sc_lmade (fun _ _ _ _ _ _ us hl => match us, hl with | [_], _ => rfl) (fun vs H Q E h => ?_) (fun cdv A outer s H vs Q E hr h => ?_)
  · obtain ⟨v, f0, rfl, _⟩ := h
    rfl
  · obtain ⟨v, f0, rfl, ht, okf, o8, hd, q⟩ := h
    refine ⟨_, (pss_cons (ps_if (pt_cmpR op_eq (pe_ix (show IxR _ (rIxT K) from ix_tup) (pv 0) pe_int (fun _ _ => rfl)) pe_str (nomark _))
      (pss_one (ps_ret (pe_calX x_letter hr (by omega) (by rfl) pass_none (pa_cons (pe_ix (show IxR _ (rIxT K) from ix_tup) (pv 0) pe_int (fun _ _ => rfl)) pa_nil))))
      pss_nil)
      (pss_cons (ps_par (i := 1) (j := 2) (by rfl) hnd rfl rfl (by decide) (by rfl) (by rfl) (pa_cons (pe_cal k_lmade hr (by omega) (by rfl) (pa_cons (pe_ix (show IxR _ (rIxT K) from ix_tup) (pv 0) pe_int (fun _ _ => rfl)) pa_nil)) (pa_cons (pe_cal k_lmade hr (by omega) (by rfl) (pa_cons (pe_ix (show IxR _ (rIxT K) from ix_tup) (pv 0) pe_int (fun _ _ => rfl)) pa_nil)) pa_nil)) (by rfl))
      (pss_cons (ps_if (pt_cmpR op_eq (pe_ix (show IxR _ (rIxT K) from ix_tup) (pv 0) pe_int (fun _ _ => rfl)) pe_str (nomark _))
      (pss_one (ps_ret (pe_op (show OpR _ (binaryOp .Mult) (rOwnBinA K FC .Mult (spFop 0 K FC CNotAFormula CTooMany) L2.E0) from op_ownBinA Fm_ (hr.mono (by omega)) sfF hsM hfM hrM Bm pass_none) (pv 1) (pv 2))))
      pss_nil)
      (pss_one (ps_ret (pe_ifExp (pt_cmpR op_eq (pe_ix (show IxR _ (rIxT K) from ix_tup) (pv 0) pe_int (fun _ _ => rfl)) pe_str (nomark _)) (pe_op (show OpR _ (binaryOp .FloorDiv) (rOwnBinA K FC .FloorDiv (spFop 1 K FC CNotAFormula CTooMany) L2.E0) from op_ownBinA Fd_ (hr.mono (by omega)) sfF hsD hfD hrD Bd_ pass_none) (pv 1) (pv 2)) (pe_op (show OpR _ (binaryOp .RShift) (rOwnBinA K FC .RShift (spFop 2 K FC CNotAFormula CTooMany) L2.E0) from op_ownBinA Fr_ (hr.mono (by omega)) sfF hsR hfR hrR Br pass_none) (pv 1) (pv 2)))))))), ?_⟩
    cases ht with
    | lt e =>
      rename_i a nm
      refine ⟨_, rfl, a, _, _, .str (S []), rfl, rfl, SqT.of e, atI_nat (j := 0) rfl, rfl, _, rfl, iteT2 (decide_eq_true (by rw [cons_S])) ?_⟩
      exact ⟨_, rfl, a, _, _, .str (S nm), rfl, rfl, SqT.of e, atI_nat (j := 1) rfl, _, rfl, .inl ⟨_, rfl, okf, fun x H' s hx => q x H' s hx⟩⟩
    | op e hl hr_ =>
      rename_i a vl vr s0 l r
      refine ⟨_, rfl, a, _, _, .str (S (sgL s0)), rfl, rfl, SqT.of e, atI_nat (j := 0) rfl, rfl, _, rfl, iteN2 (sgL_no s0) ?_⟩
      obtain ⟨hs0, okl, okr⟩ := Fm.ok_op okf
      simp only [Fm.ops] at o8
      simp only [Fm.dep] at hd
      cases n with
      | zero => omega
      | succ n =>
        refine ⟨_, rfl, a, _, _, vl, rfl, rfl, SqT.of e, atI_nat (j := 1) rfl, vl, l, rfl, hl, okl, by omega, by omega, fun x1 H1 s1 h1 => ?_⟩
        refine ⟨_, rfl, a, _, _, vr, rfl, rfl, SqT.of (s1 _ _ e), atI_nat (j := 2) rfl, vr, r, rfl, hr_.same s1, okr, by omega, by omega, fun x2 H2 s2 h2 => ⟨_, _, rfl, ?_⟩⟩
        try dsimp only
        have h1' := h1.same s2
        have s12 := s1.trans s2
        obtain ⟨d1, f1, e1⟩ := h1'.ins
        refine ⟨_, rfl, a, _, _, .str (S (sgL s0)), rfl, rfl, SqT.of (s12 _ _ e), atI_nat (j := 0) rfl, rfl, _, rfl, ?_⟩
        have c42 : (Str.ofString "*") = S [42] := by decide +kernel
        have c47 : (Str.ofString "//") = S [47, 47] := by decide +kernel
        rw [c42, dec_str]
        have fin : ∀ i : Nat, i = s0 → spFop i K FC CNotAFormula CTooMany [.ref x1, .ref x2] H2 Q E0 := fun i hi => by
          subst hi
          exact ⟨rfl, i, x1, .ref x2, l, rfl, hs0, h1', okl, by omega, .inl ⟨x2, r, rfl, h2, okr, by omega, .inl ⟨by omega, fun x H' s hx => q x H' (s12.trans s) hx⟩⟩⟩
        rcases (show s0 = 0 ∨ s0 = 1 ∨ s0 = 2 by omega) with rfl | rfl | rfl
        · exact iteT2 (by decide +kernel) ⟨_, rfl, _, rfl, x1, d1, f1, .ref FC, rfl, e1, h2.ty FF, .inr (.inl rfl), fin 0 rfl⟩
        · refine iteN2 (by decide +kernel) ?_
          refine ⟨_, rfl, a, _, _, .str (S (sgL 1)), rfl, rfl, SqT.of (s12 _ _ e), atI_nat (j := 0) rfl, rfl, _, rfl, ?_⟩
          rw [c47, dec_str]
          exact iteT2 (by decide +kernel) ⟨_, rfl, _, rfl, x1, d1, f1, .ref FC, rfl, e1, h2.ty FF, .inr (.inl rfl), fin 1 rfl⟩
        · refine iteN2 (by decide +kernel) ?_
          refine ⟨_, rfl, a, _, _, .str (S (sgL 2)), rfl, rfl, SqT.of (s12 _ _ e), atI_nat (j := 0) rfl, rfl, _, rfl, ?_⟩
          rw [c47, dec_str]
          exact iteN2 (by decide +kernel) ⟨_, rfl, _, rfl, x1, d1, f1, .ref FC, rfl, e1, h2.ty FF, .inr (.inl rfl), fin 2 rfl⟩
theorem c_lmade (T : Bt mg) (FF : FoF K mg FC) (sfF : PySem.W.selfFirst K FC = true) (MU : BinM P w K mg base FC CNotAFormula CTooMany .Mult 0) (FD : BinM P w K mg base FC CNotAFormula CTooMany .FloorDiv 1) (RS : BinM P w K mg base FC CNotAFormula CTooMany .RShift 2)
    (x_letter : CalX P w K mg base 8 "letter" (spLetter K FC CInvalidName)) (F : FnP K "_law_made" s_lmade f fd) (hm : mg "_law_made" = some (.ref f)) : ∀ n, Cal P w K mg base (10 + n + 1) "_law_made" (spLmade FC n)
  | 0 => c_lmade_step T FF sfF MU FD RS x_letter F hm 0 (c_lmade_false F hm)
  | n + 1 => c_lmade_step T FF sfF MU FD RS x_letter F hm (n + 1) (c_lmade T FF sfF MU FD RS x_letter F hm n)
end
end L2.K19
set_option Elab.async false
set_option linter.all false
set_option maxRecDepth 100000
set_option maxHeartbeats 8000000
namespace L2.K19
open PySem PySem.Spec PyProof.Rows L2.Tb
open SX (S)
/-! ### the law's parts -/
abbrev s_lparts : Stmt := top 65
abbrev N_lparts : List Str := ["_law_forms", "_law_found", "_law_form_here", "_law_more", "_law_part"]
theorem sc_lparts : FnScope N_lparts ["_law_forms"] (defScope s_lparts) := ⟨rfl, rfl, rfl, by decide +kernel, rfl, by decide +kernel, by decide +kernel⟩
/-- a formula of the law as data -/
def fD : Fm → PyData
  | .lt n => .tuple [.str (S []), .str (S n)]
  | .op s l r => .tuple [.str (S (sgL s)), fD l, fD r]
theorem TrW.dp {K : PySem.W.Frag} {H : Hp} {v : V} {f : Fm} (h : TrW H v f) : Dp K H v (fD f) := by
  induction h with
  | lt e => exact .tup (SqT.of e) (.cons (.str _) (.cons (.str _) .nil))
  | op e _ _ i1 i2 => exact .tup (SqT.of e) (.cons (.str _) (.cons i1 (.cons i2 .nil)))
theorem sgL_inj {s t : Nat} (hs : s < 3) (ht : t < 3) (h : sgL s = sgL t) : s = t := by
  rcases (show s = 0 ∨ s = 1 ∨ s = 2 by omega) with rfl | rfl | rfl <;> rcases (show t = 0 ∨ t = 1 ∨ t = 2 by omega) with rfl | rfl | rfl <;> first | rfl | exact absurd h (by decide)
theorem S_dec {a b : List Nat} : decide (S a = S b) = decide (a = b) := decide_eq_decide.mpr ⟨fun h => SX.S_inj h, fun h => by rw [h]⟩
theorem strOk_of {l : List Nat} (h : ∀ c ∈ l, c < 128) : PyData.strOk (S l) = true := by
  unfold PyData.strOk
  rw [← Array.all_toList]
  exact List.all_eq_true.mpr fun c hc => decide_eq_true (Nat.lt_trans (h c hc) (by decide))
theorem name_asc {l : List Nat} (h : nameB l = true) : ∀ c ∈ l, c < 128 := by
  cases l with
  | nil => exact fun c hc => by cases hc
  | cons a r =>
    simp only [nameB, lowB, Bool.and_eq_true, Nat.ble_eq] at h
    intro c hc
    rcases List.mem_cons.mp hc with rfl | hc
    · omega
    · have := List.all_eq_true.mp h.2.2 c hc
      simp only [signB, lowB, Bool.or_eq_true, Bool.and_eq_true, Nat.ble_eq] at this
      omega
theorem sgL_asc (s : Nat) : ∀ c ∈ sgL s, c < 128 := by
  unfold sgL
  split <;> decide
theorem sgL_ne (s : Nat) : (S [] == S (sgL s)) = false ∧ (S (sgL s) == S []) = false := by
  have h : ¬ sgL s = [] := by unfold sgL; split <;> decide
  exact ⟨(SX.S_beq_eq).trans (decide_eq_false fun z => h z.symm), (SX.S_beq_eq).trans (decide_eq_false h)⟩
theorem eqv_st (a b : Str) : PyData.eqv (.str a) (.str b) = (a == b) := by rw [PyData.eqv]
theorem eqv_tp (xs ys : List PyData) : PyData.eqv (.tuple xs) (.tuple ys) = PyData.eqvAll xs ys := by rw [PyData.eqv]
theorem eqvA_cons (x y : PyData) (xs ys : List PyData) : PyData.eqvAll (x :: xs) (y :: ys) = (PyData.eqv x y && PyData.eqvAll xs ys) := by rw [PyData.eqvAll]
theorem eqv_lo (a b c : Str) (x y : PyData) (h : (a == c) = false) : PyData.eqv (.tuple [.str a, .str b]) (.tuple [.str c, x, y]) = false := by
  rw [eqv_tp, eqvA_cons, eqv_st, h, Bool.false_and]
theorem eqv_ol (a b c : Str) (x y : PyData) (h : (c == a) = false) : PyData.eqv (.tuple [.str c, x, y]) (.tuple [.str a, .str b]) = false := by
  rw [eqv_tp, eqvA_cons, eqv_st, h, Bool.false_and]
theorem eqv_oo (a b : Str) (x y x' y' : PyData) : PyData.eqv (.tuple [.str a, x, y]) (.tuple [.str b, x', y']) = ((a == b) && (PyData.eqv x x' && PyData.eqv y y')) := by
  rw [eqv_tp, eqvA_cons, eqv_st, eqvA_cons, eqvA_cons, show PyData.eqvAll [] [] = true from by rw [PyData.eqvAll], Bool.and_true]
theorem fD_eqv (f g : Fm) (h1 : f.ok = true) (h2 : g.ok = true) : PyData.eqv (fD f) (fD g) = decide (f = g) := by
  induction f generalizing g with
  | lt n =>
    cases g with
    | lt m =>
      simp only [fD, PyData.eqv, PyData.eqvAll, BEq.rfl, Bool.true_and, Bool.and_true]
      rw [show (S n == S m) = decide (n = m) from SX.S_beq_eq]
      exact decide_eq_decide.mpr ⟨fun h => by rw [h], fun h => by injection h⟩
    | op s l r => exact (eqv_lo _ _ _ _ _ (sgL_ne s).1).trans (decide_eq_false fun z => by cases z).symm
  | op s l r i1 i2 =>
    cases g with
    | lt n => exact (eqv_ol _ _ _ _ _ (sgL_ne s).2).trans (decide_eq_false fun z => by cases z).symm
    | op s' l' r' =>
      obtain ⟨a1, a2, a3⟩ := Fm.ok_op h1
      obtain ⟨b1, b2, b3⟩ := Fm.ok_op h2
      refine (eqv_oo _ _ _ _ _ _).trans ?_
      rw [i1 l' a2 b2, i2 r' a3 b3, show (S (sgL s) == S (sgL s')) = decide (sgL s = sgL s') from SX.S_beq_eq]
      by_cases e1 : s = s'
      · subst e1
        by_cases e2 : l = l'
        · by_cases e3 : r = r' <;> simp [e2, e3]
        · simp [e2]
      · have : ¬ sgL s = sgL s' := fun z => e1 (sgL_inj a1 b1 z)
        simp [e1, this]
theorem fD_lay : ∀ f : Fm, f.ok = true → PyData.canLay0 (fD f) = true
  | .lt n, h => by
    have h1 := strOk_of (name_asc h)
    have h0 : PyData.strOk (S []) = true := strOk_of fun c hc => by cases hc
    simp [fD, PyData.canLay0, PyData.canLayAll0, h0, h1]
  | .op s l r, h => by
    obtain ⟨_, hl, hr⟩ := Fm.ok_op h
    have h1 := fD_lay l hl
    have h2 := fD_lay r hr
    simp [fD, PyData.canLay0, PyData.canLayAll0, h1, h2, strOk_of (sgL_asc s)]
theorem fD_depth : ∀ f : Fm, (fD f).depth ≤ f.dep + 1
  | .lt n => by simp [fD, PyData.depth, PyData.depthAll, Fm.dep]
  | .op s l r => by
    have h1 := fD_depth l
    have h2 := fD_depth r
    simp only [fD, PyData.depth, PyData.depthAll, Fm.dep]
    omega
theorem shaped_fD {f : Fm} (hk : f.ok = true) (h : f.dep ≤ 50) : SeqAt.shaped (fD f) = true := by
  show (PyData.canLay0 (fD f) && decide ((fD f).depth ≤ 64)) = true
  rw [Bool.and_eq_true]
  exact ⟨fD_lay f hk, decide_eq_true (by have := fD_depth f; omega)⟩
theorem shaped_fDs {fs : List Fm} (hk : ∀ f ∈ fs, f.ok = true) (h : ∀ f ∈ fs, f.dep ≤ 50) : SeqAt.shaped (.list (fs.map fD)) = true := by
  show (PyData.canLay0 (.list (fs.map fD)) && decide (PyData.depth (.list (fs.map fD)) ≤ 64)) = true
  have lay : ∀ fs : List Fm, (∀ f ∈ fs, f.ok = true) → PyData.canLayAll0 (fs.map fD) = true := fun fs => by
    induction fs with
    | nil => exact fun _ => rfl
    | cons f fs ih =>
      intro hk
      rw [List.map_cons]
      simp only [PyData.canLayAll0, Bool.and_eq_true]
      exact ⟨fD_lay f (hk f List.mem_cons_self), ih fun x hx => hk x (List.mem_cons_of_mem _ hx)⟩
  have dep : ∀ fs : List Fm, (∀ f ∈ fs, f.dep ≤ 50) → PyData.depthAll (fs.map fD) ≤ 51 := fun fs => by
    induction fs with
    | nil => exact fun _ => by simp [PyData.depthAll]
    | cons f fs ih =>
      intro h
      have h1 := fD_depth f
      have h2 := h f List.mem_cons_self
      have h3 := ih fun x hx => h x (List.mem_cons_of_mem _ hx)
      simp only [List.map_cons, PyData.depthAll]
      omega
  rw [Bool.and_eq_true]
  exact ⟨by simp only [PyData.canLay0]; exact lay fs hk, decide_eq_true (by have := dep fs h; simp only [PyData.depth]; omega)⟩
/-- each once, the first ones kept -/
def insF (found : List Fm) (f : Fm) : List Fm := if f ∈ found then found else found ++ [f]
def ddF (fs : List Fm) : List Fm := fs.foldl insF []
def moreF : Fm → List Fm
  | .lt n => [.lt n]
  | .op s l r => ddF (moreF l ++ moreF r) ++ [.op s l r]
def lpartsF (fs : List Fm) : List Fm := ddF (fs.flatMap moreF)
theorem insF_mem {found : List Fm} {f x : Fm} : x ∈ insF found f ↔ x ∈ found ∨ x = f := by
  unfold insF
  split
  · rename_i h
    exact ⟨.inl, fun e => e.elim id fun e => e ▸ h⟩
  · rw [List.mem_append, List.mem_singleton]
theorem insF_nd {found : List Fm} {f : Fm} (h : found.Nodup) : (insF found f).Nodup := by
  unfold insF
  split
  · exact h
  · rename_i c
    exact List.nodup_append.mpr ⟨h, by simp, fun a ha b hb => by rw [List.mem_singleton.mp hb]; exact fun e => c (e ▸ ha)⟩
theorem foldF : ∀ (l acc : List Fm), acc.Nodup → (l.foldl insF acc).Nodup ∧ (∀ x, x ∈ l.foldl insF acc ↔ x ∈ acc ∨ x ∈ l) ∧ (l.foldl insF acc).length ≤ acc.length + l.length
  | [], acc, h => ⟨h, fun x => by simp, Nat.le_refl _⟩
  | f :: l, acc, h => by
    obtain ⟨h1, h2, h3⟩ := foldF l (insF acc f) (insF_nd h)
    have h4 : (insF acc f).length ≤ acc.length + 1 := by
      unfold insF
      split <;> simp
    refine ⟨h1, fun x => ?_, by rw [List.foldl_cons, List.length_cons]; omega⟩
    rw [List.foldl_cons, h2, insF_mem, List.mem_cons]
    exact ⟨fun h => h.elim (fun h => h.elim .inl fun h => .inr (.inl h)) fun h => .inr (.inr h), fun h => h.elim (fun h => .inl (.inl h)) fun h => h.elim (fun h => .inl (.inr h)) .inr⟩
theorem ddF_nd (l : List Fm) : (ddF l).Nodup := (foldF l [] .nil).1
theorem ddF_mem {l : List Fm} {x : Fm} : x ∈ ddF l ↔ x ∈ l := by
  have := (foldF l [] .nil).2.1 x
  rw [show ddF l = l.foldl insF [] from rfl, this]
  simp
theorem ddF_len (l : List Fm) : (ddF l).length ≤ l.length := by
  have := (foldF l [] .nil).2.2
  rw [List.length_nil, Nat.zero_add] at this
  exact this
theorem moreF_subs : ∀ (f x : Fm), x ∈ moreF f ↔ x ∈ subsF f
  | .lt n, x => by simp [moreF, subsF]
  | .op s l r, x => by
    simp only [moreF, subsF, List.mem_append, ddF_mem, List.mem_singleton, moreF_subs l x, moreF_subs r x]
    constructor
    · rintro ((h | h) | h)
      · exact .inl (.inr h)
      · exact .inr h
      · exact .inl (.inl h)
    · rintro ((h | h) | h)
      · exact .inr h
      · exact .inl (.inl h)
      · exact .inl (.inr h)
theorem moreF_len : ∀ f : Fm, (moreF f).length ≤ 2 * f.ops + 1
  | .lt n => by simp [moreF]
  | .op s l r => by
    have h1 := moreF_len l
    have h2 := moreF_len r
    have h3 := ddF_len (moreF l ++ moreF r)
    rw [List.length_append] at h3
    simp only [moreF, Fm.ops, List.length_append, List.length_singleton]
    omega
theorem subs_dep : ∀ (f g : Fm), g ∈ subsF f → g.dep ≤ f.dep
  | .lt n, g, h => by
    simp only [subsF, List.mem_singleton] at h
    rw [h]
    exact Nat.le_refl _
  | .op s l r, g, h => by
    simp only [subsF, List.mem_append, List.mem_singleton] at h
    rcases h with (h | h) | h
    · rw [h]
      exact Nat.le_refl _
    · have := subs_dep l g h
      simp only [Fm.dep]
      omega
    · have := subs_dep r g h
      simp only [Fm.dep]
      omega
theorem mem_lparts {fs : List Fm} {x : Fm} : x ∈ lpartsF fs ↔ ∃ f ∈ fs, x ∈ subsF f := by
  unfold lpartsF
  rw [ddF_mem, List.mem_flatMap]
  exact ⟨fun ⟨f, h, e⟩ => ⟨f, h, (moreF_subs f x).mp e⟩, fun ⟨f, h, e⟩ => ⟨f, h, (moreF_subs f x).mpr e⟩⟩
def spLparts (n : Nat) : Sp := fun vs H Q _ => ∃ (L : Addr) (us : List V) (fs : List Fm), vs = [.ref L] ∧ H L = some (.lst us) ∧ Paired (TrW H) us fs ∧ (∀ f ∈ fs, f.ok = true ∧ f.dep ≤ n ∧ f.ops ≤ 20) ∧ n ≤ 50 ∧ (fs.flatMap moreF).length ≤ 1000 ∧
  ∀ (R : Addr) (rs : List V) (H' : Hp), Same H H' → H R = none → H' R = some (.lst rs) → Paired (TrW H') rs (lpartsF fs) → Q (.ref R) H'
def spLpA : Nat → Sp
  | 0 => fun _ _ _ _ => False
  | n + 1 => spLparts n
theorem dp_trs {K : PySem.W.Frag} {H : Hp} : ∀ {us : List V} {fs : List Fm}, Paired (TrW H) us fs → DpAll K H us (fs.map fD)
  | _, _, .nil => .nil
  | _, _, .cons h r => .cons h.dp (dp_trs r)
theorem any_fD {f : Fm} (hf : f.ok = true) : ∀ {fs : List Fm}, (∀ g ∈ fs, g.ok = true) → ((fs.map fD).any fun z => PyData.eqv z (fD f)) = decide (f ∈ fs)
  | [], _ => rfl
  | g :: fs, h => by
    rw [List.map_cons, List.any_cons, fD_eqv g f (h g List.mem_cons_self) hf, any_fD hf fun x hx => h x (List.mem_cons_of_mem _ hx)]
    by_cases e : g = f
    · subst e
      simp
    · have e2 : ¬ f = g := fun z => e z.symm
      simp [e, e2]
section
variable {P : Program} {w : World} {K : PySem.W.Frag} {mg : Str → Option Value} {base : Heap} {f : Addr} {fd : FuncData}
theorem c_lparts_false (F : FnP K "_law_parts" s_lparts f fd) (hm : mg "_law_parts" = some (.ref f)) : Cal P w K mg base 1 "_law_parts" (spLpA 0) :=
  ⟨f, fd, ["_law_forms"], ⟨fun _ _ _ _ h => h.elim, fun _ _ _ _ _ _ _ _ _ _ _ _ _ h => h.elim⟩, hm, F.kp, F.bindsN fun _ _ _ _ _ _ us hl => match us, hl with | [_], _ => rfl⟩
theorem c_lparts_step (F : FnP K "_law_parts" s_lparts f fd) (hm : mg "_law_parts" = some (.ref f)) (n : Nat) (k_lparts : Cal P w K mg base (n + 1) "_law_parts" (spLpA n)) : Cal P w K mg base (n + 1 + 1) "_law_parts" (spLparts n) := by
  have hnd := sc_lparts.nd
  refine cal_mk F hm sc_lparts (fun _ _ _ _ _ _ us hl => match us, hl with | [_], _ => rfl) (fun vs H Q E h => ?_) (fun cdv A outer s H vs Q E hr h => ?_)
  · obtain ⟨L, us, fs, rfl, _⟩ := h
    rfl
  · obtain ⟨L, us, fs, rfl, eL, pL, okf, n50, few, q⟩ := h
    have hu65 : (A.deeper (envOfC "_law_parts" (defScope s_lparts) s.heap.objs.size f cdv)).units + 65 < cLine := by
      have := hr.un
      omega
    refine ⟨_, (pss_cons (ps_set (i := 1) hnd rfl (by first | exact Or.inl rfl | exact Or.inr rfl) (pe_lst pa_nil))
      (pss_cons (ps_for PassesOwn.never (by rfl) (pi_list (pv 0)) (pg_name (i := 2) hnd rfl (by first | exact Or.inl rfl | exact Or.inr rfl))
      (pss_cons (ps_set (i := 3) hnd rfl (by first | exact Or.inl rfl | exact Or.inr rfl) (pe_ifExp (pt_cmpR op_eq (pe_ix (show IxR _ (rIxT K) from ix_tup) (pv 2) pe_int (fun _ _ => rfl)) pe_str (nomark _)) (pe_lst (pa_cons (pv 2) pa_nil)) (pe_op op_cat (pe_cal k_lparts hr (by omega) (by rfl) (pa_cons (pe_lst (pa_cons (pe_ix (show IxR _ (rIxT K) from ix_tup) (pv 2) pe_int (fun _ _ => rfl)) (pa_cons (pe_ix (show IxR _ (rIxT K) from ix_tup) (pv 2) pe_int (fun _ _ => rfl)) pa_nil))) pa_nil)) (pe_lst (pa_cons (pv 2) pa_nil)))))
      (pss_one (ps_for PassesOwn.never (by rfl) (pi_list (pv 3)) (pg_name (i := 4) hnd rfl (by first | exact Or.inl rfl | exact Or.inr rfl))
      (pss_one (ps_if (pt_cmpR (show OpR _ (compareOp .NotIn) (rNotInD K) from op_notInD hu65) (pv 4) (pv 1) (by rfl))
      (pss_one (ps_expr (pe_bm PySem.F.plainAttrs_list PySem.F.slot_list_append PySem.F.type_list_append mt_append (pv 1) (pa_cons (pv 4) pa_nil))))
      pss_nil))))))
      (pss_one (ps_ret (pv 1))))), ?_⟩
    refine ⟨Nat.le_of_ble_eq_true rfl, fun R nR => gname_go ?_⟩
    try dsimp only
    have s0 := same_new (o := .lst []) nR
    have lL := pL.length
    refine ⟨_, rfl, L, rfl, ⟨_, SqL.of (s0 _ _ eL)⟩, ?_⟩
    refine for_it (walk_list (K := K) (a := L) (xs := us)) (fun i σ' G => Same H G ∧ ∃ (x2 x3 x4 : Option V) (rs : List V), σ' = [some (.ref L), some (.ref R), x2, x3, x4] ∧ G R = some (.lst rs) ∧ Paired (TrW G) rs (ddF ((fs.take i).flatMap moreF)))
      ⟨s0, _, _, _, [], rfl, upd_same, .nil⟩ (fun i σ' G _ h => SqL.of (h.1 _ _ eL)) ?_ ?_
    · rintro i v σ' G G' hi ⟨sG, x2, x3, x4, rs, rfl, eR, pR⟩ ⟨rfl, hx⟩
      have li : i < fs.length := by omega
      have h2 : fs[i]? = some fs[i] := List.getElem?_eq_getElem li
      have ht := (paired_get2 pL i _ _ hx h2).same sG
      have mf := List.getElem_mem li
      generalize fs[i] = f0 at h2 ht mf
      obtain ⟨okf0, dep0, ops0⟩ := okf f0 mf
      have pfx : (fs.take (i + 1)).flatMap moreF = (fs.take i).flatMap moreF ++ moreF f0 := by rw [get_take h2, List.flatMap_append, List.flatMap_cons, List.flatMap_nil, List.append_nil]
      have okpre : ∀ g ∈ (fs.take i).flatMap moreF, g.ok = true ∧ g.dep ≤ 50 := fun g hg => by
        obtain ⟨f1, hf1, hg⟩ := List.mem_flatMap.mp hg
        obtain ⟨a, b, _⟩ := okf f1 (List.mem_of_mem_take hf1)
        exact ⟨(subs_ok f1 g a ((moreF_subs f1 g).mp hg)).1, Nat.le_trans (subs_dep f1 g ((moreF_subs f1 g).mp hg)) (by omega)⟩
      have lall : ((fs.take i).flatMap moreF).length + (moreF f0).length ≤ 1000 := by
        have e : fs.flatMap moreF = (fs.take (i + 1)).flatMap moreF ++ (fs.drop (i + 1)).flatMap moreF := by rw [← List.flatMap_append, List.take_append_drop]
        rw [e, pfx] at few
        simp only [List.length_append] at few
        omega
      rw [pfx]
      generalize (fs.take i).flatMap moreF = pre at pR okpre lall
      refine gname_go ?_
      -- what it holds, and itself
      refine asg_cut (fun w9 G1 => ∃ L9 ws, w9 = .ref L9 ∧ Same H G1 ∧ G1 R = some (.lst rs) ∧ Paired (TrW G1) rs (ddF pre) ∧ G1 L9 = some (.lst ws) ∧ L9 ≠ R ∧ Paired (TrW G1) ws (moreF f0)) ?_ fun hQ => ?_
      · rintro w9 G1 ⟨L9, ws, rfl, s1, eR1, pR1, eL9, nLR, pW⟩
        have lW := pW.length
        refine gname_go ?_
        try dsimp only
        refine ⟨_, rfl, L9, rfl, ⟨_, SqL.of eL9⟩, ?_⟩
        refine for_it (walk_list (K := K) (a := L9) (xs := ws)) (fun j σ' G2 => Same H G2 ∧ G2 L9 = some (.lst ws) ∧ (∀ b xs, G1 b = some (.tup xs) → G2 b = some (.tup xs)) ∧ ∃ (x4 : Option V) (rs : List V), σ' = [some (.ref L), some (.ref R), some v, some (.ref L9), x4] ∧ G2 R = some (.lst rs) ∧ Paired (TrW G2) rs (ddF (pre ++ (moreF f0).take j)))
          ⟨s1, eL9, fun _ _ e => e, _, rs, rfl, eR1, by rw [List.take_zero, List.append_nil]; exact pR1⟩ (fun j σ' G2 _ h => SqL.of h.2.1) ?_ ?_
        · rintro j y σ' G2 G2' hj ⟨s2, eL2, k2, x4, rs, rfl, eR2, pR2⟩ ⟨rfl, hy⟩
          have lj : j < (moreF f0).length := by omega
          have h3 : (moreF f0)[j]? = some (moreF f0)[j] := List.getElem?_eq_getElem lj
          have hy2 := (paired_get2 pW j _ _ hy h3).mono k2
          have mg' := List.getElem_mem lj
          generalize (moreF f0)[j] = g0 at h3 hy2 mg'
          have okg := subs_ok f0 g0 okf0 ((moreF_subs f0 g0).mp mg')
          have dpg := subs_dep f0 g0 ((moreF_subs f0 g0).mp mg')
          have okall : ∀ x ∈ ddF (pre ++ (moreF f0).take j), x.ok = true ∧ x.dep ≤ 50 := fun x hx => by
            rcases List.mem_append.mp (ddF_mem.mp hx) with h | h
            · exact okpre x h
            · have hx := (moreF_subs f0 x).mp (List.mem_of_mem_take h)
              exact ⟨(subs_ok f0 x okf0 hx).1, Nat.le_trans (subs_dep f0 x hx) (by omega)⟩
          have snoc : ddF (pre ++ (moreF f0).take (j + 1)) = insF (ddF (pre ++ (moreF f0).take j)) g0 := by
            rw [get_take h3, ← List.append_assoc]
            unfold ddF
            rw [List.foldl_append]
            rfl
          refine gname_go ?_
          try dsimp only
          refine ⟨_, rfl, _, rfl, _, _, hy2.dp, .lst (SqL.of eR2) (dp_trs pR2), shaped_fD okg.1 (by omega), shaped_fDs (fun x hx => (okall x hx).1) (fun x hx => (okall x hx).2), _, rfl, ?_⟩
          rw [any_fD okg.1 fun x hx => (okall x hx).1]
          by_cases c : g0 ∈ ddF (pre ++ (moreF f0).take j)
          · rw [decide_eq_true c]
            refine iteF ⟨s2, eL2, k2, _, rs, rfl, eR2, ?_⟩
            rw [snoc]
            unfold insF
            rw [if_pos c]
            exact pR2
          · rw [decide_eq_false c]
            have lr := pR2.length
            have l3 := ddF_len (pre ++ (moreF f0).take j)
            rw [List.length_append, List.length_take] at l3
            have k3 : ∀ b xs, G2' b = some (.tup xs) → (upd G2' R (.lst (rs ++ [y]))) b = some (.tup xs) := fun b xs e => by
              rw [upd_ne (ne_of e eR2 (by intro z; cases z))]
              exact e
            refine iteT ⟨_, rfl, .inl ⟨rfl, _, SqL.of eR2⟩, _, rfl, R, rs, y, rfl, rfl, eR2, by rw [sizeLine_eq]; omega, same_pt nR s2, by rw [upd_ne nLR]; exact eL2, fun b xs e => k3 _ _ (k2 _ _ e), _, rs ++ [y], rfl, upd_same, ?_⟩
            rw [snoc]
            unfold insF
            rw [if_neg c]
            exact paired_app (paired_imp (fun _ _ h => h.mono k3) pR2) (.cons (hy2.mono k3) .nil)
        · rintro σ' G2 ⟨s2, eL2, k2, x4, rs, rfl, eR2, pR2⟩
          rw [lW, List.take_length] at pR2
          exact ⟨s2, _, _, _, rs, rfl, eR2, pR2⟩
      · cases ht with
        | lt e =>
          rename_i a nm
          refine ⟨_, rfl, a, _, _, .str (S []), rfl, rfl, SqT.of e, atI_nat (j := 0) rfl, rfl, _, rfl, iteT2 (decide_eq_true (by rw [cons_S])) ⟨_, rfl, Nat.le_of_ble_eq_true rfl, fun L9 n9 => hQ _ _ ?_⟩⟩
          have s9 := same_new (o := .lst [V.ref a]) n9
          exact ⟨L9, [.ref a], rfl, sG.trans s9, s9 _ _ eR, paired_imp (fun _ _ h => h.same s9) pR, upd_same, Ne.symm (ne_of_none eR n9), .cons (.lt (s9 _ _ e)) .nil⟩
        | op e hl hr_ =>
          rename_i a vl vr s9 l r
          obtain ⟨_, okl, okr⟩ := Fm.ok_op okf0
          simp only [Fm.dep] at dep0
          simp only [Fm.ops] at ops0
          refine ⟨_, rfl, a, _, _, .str (S (sgL s9)), rfl, rfl, SqT.of e, atI_nat (j := 0) rfl, rfl, _, rfl, iteN2 (sgL_no s9) ?_⟩
          cases n with
          | zero => omega
          | succ n =>
            refine ⟨_, rfl, a, _, _, vl, rfl, rfl, SqT.of e, atI_nat (j := 1) rfl, _, rfl, a, _, _, vr, rfl, rfl, SqT.of e, atI_nat (j := 2) rfl, Nat.le_of_ble_eq_true rfl, fun L8 n8 => ?_⟩
            have s8 := same_new (o := .lst [vl, vr]) n8
            have hlr : ([l, r].flatMap moreF) = moreF l ++ moreF r := by simp
            have lm : (moreF l ++ moreF r).length ≤ 1000 := by
              have h1 := moreF_len l
              have h2 := moreF_len r
              have h9 := few
              have h3 : 0 < 1 := by decide
              rw [List.length_append]
              omega
            refine ⟨L8, [vl, vr], [l, r], rfl, upd_same, .cons (hl.same s8) (.cons (hr_.same s8) .nil), ?_, by omega, by rw [hlr]; exact lm, fun R2 rs2 H' s' nR2 eR2 pR2 => ?_⟩
            · intro g hg
              simp only [List.mem_cons, List.not_mem_nil, or_false] at hg
              rcases hg with rfl | rfl
              · exact ⟨okl, by omega, by omega⟩
              · exact ⟨okr, by omega, by omega⟩
            · refine ⟨_, rfl, Nat.le_of_ble_eq_true rfl, fun L7 n7 => ?_⟩
              have s7 := same_new (o := .lst [V.ref a]) n7
              have l2 := pR2.length
              have l3 := ddF_len (moreF l ++ moreF r)
              have el : lpartsF [l, r] = ddF (moreF l ++ moreF r) := by unfold lpartsF; rw [hlr]
              rw [el] at pR2 l2
              refine ⟨R2, L7, rs2, [.ref a], rfl, rfl, s7 _ _ eR2, upd_same, by rw [sizeLine_eq]; simp only [List.length_singleton]; omega, fun L9 n9 => hQ _ _ ?_⟩
              have s9' := same_new (o := .lst (rs2 ++ [V.ref a])) n9
              have sa := (s8.trans s').trans (s7.trans s9')
              exact ⟨L9, rs2 ++ [.ref a], rfl, sG.trans sa, sa _ _ eR, paired_imp (fun _ _ h => h.same sa) pR, upd_same, Ne.symm (ne_of_none (s7 _ _ (s' _ _ (s8 _ _ eR))) n9), paired_app (paired_imp (fun _ _ h => h.same (s7.trans s9')) pR2) (.cons ((TrW.op e hl hr_).same sa) .nil)⟩
    · rintro σ' G ⟨sG, x2, x3, x4, rs, rfl, eR, pR⟩
      rw [lL, List.take_length] at pR
      exact ⟨_, rfl, q R rs G sG nR eR pR⟩
theorem c_lparts (F : FnP K "_law_parts" s_lparts f fd) (hm : mg "_law_parts" = some (.ref f)) : ∀ n, Cal P w K mg base (n + 1 + 1) "_law_parts" (spLparts n)
  | 0 => c_lparts_step F hm 0 (c_lparts_false F hm)
  | n + 1 => c_lparts_step F hm (n + 1) (c_lparts F hm n)
end
end L2.K19
set_option Elab.async false
set_option linter.all false
set_option maxRecDepth 100000
set_option maxHeartbeats 8000000
namespace L2.K19
open PySem PySem.Spec PyProof.Rows L2.Tb
open SX (S)
/-! ### the law's own closing: its pieces -/
abbrev s_ltriple : Stmt := top 66
abbrev N_ltriple : List Str := ["_law_form_here", "_law_sign", "_law_left", "_law_right_here"]
theorem sc_ltriple : FnScope N_ltriple ["_law_form_here"] (defScope s_ltriple) := ⟨rfl, rfl, rfl, by decide +kernel, rfl, by decide +kernel, by decide +kernel⟩
abbrev s_lsize : Stmt := top 73
abbrev N_lsize : List Str := ["_law_form_here"]
theorem sc_lsize : FnScope N_lsize ["_law_form_here"] (defScope s_lsize) := ⟨rfl, rfl, rfl, by decide +kernel, rfl, by decide +kernel, by decide +kernel⟩
abbrev s_ljoined : Stmt := top 68
abbrev N_ljoined : List Str := ["_law_marks_here", "_law_left_one", "_law_right_one", "_law_keep", "_law_gone", "_law_mark"]
theorem sc_ljoined : FnScope N_ljoined ["_law_marks_here", "_law_left_one", "_law_right_one"] (defScope s_ljoined) := ⟨rfl, rfl, rfl, by decide +kernel, rfl, by decide +kernel, by decide +kernel⟩
abbrev s_lrows : Stmt := top 67
abbrev N_lrows : List Str := ["_law_ruled", "_law_parts_here", "_law_found", "_law_part", "_law_left_one", "_law_k"]
theorem sc_lrows : FnScope N_lrows ["_law_ruled", "_law_parts_here"] (defScope s_lrows) := ⟨rfl, rfl, rfl, by decide +kernel, rfl, by decide +kernel, by decide +kernel⟩
def trW (s : Nat) (x y z : V) : List V := match s with
  | 0 => [x, y, z]
  | 1 => [z, y, x]
  | _ => [x, z, y]
def spLtriple : Sp := fun vs H Q _ => ∃ (a : Addr) (vl vr : V) (s : Nat), vs = [.ref a] ∧ H a = some (.tup [.str (S (sgL s)), vl, vr]) ∧ s < 3 ∧ ∀ (R : Addr) H', Same H H' → H' R = some (.tup (trW s vl vr (.ref a))) → Q (.ref R) H'
def spLsize (n : Nat) : Sp := fun vs H Q _ => ∃ (v : V) (f : Fm), vs = [v] ∧ TrW H v f ∧ f.dep ≤ n ∧ f.ops ≤ 100 ∧ Q (.int (f.ops : Nat)) H
def spLsA : Nat → Sp
  | 0 => fun _ _ _ _ => False
  | n + 1 => spLsize n
def trF (s : Nat) (l r : Fm) : List Fm := match s with
  | 0 => [l, r, .op s l r]
  | 1 => [.op s l r, r, l]
  | _ => [l, .op s l r, r]
def ixE (fs : List Fm) (f : Fm) : Nat := fs.findIdx fun g => decide (g = f)
theorem ixE_at {fs : List Fm} {f : Fm} (h : f ∈ fs) : ∃ hl : ixE fs f < fs.length, fs[ixE fs f] = f := by
  have lt : ixE fs f < fs.length := List.findIdx_lt_length_of_exists ⟨_, h, decide_eq_true rfl⟩
  exact ⟨lt, of_decide_eq_true (List.findIdx_getElem (w := lt) (p := fun g : Fm => decide (g = f)))⟩
/-- the triples of an operation with all images, in the law's order -/
def rowO (z : Str) (all : List Fm) : Fm → List Trp
  | .lt _ => []
  | .op s l r => imgsL (trS s (ixE all l) (ixE all r) (ixE all (.op s l r))) (lotOf z)
def rowsG (z : Str) (all fs : List Fm) : List Trp := fs.flatMap (rowO z all)
def rowsF (z : Str) (b : Bool) (fs : List Fm) : List Trp := rowsG z fs fs ++ calmP b fs.length
def ClosedE (fs : List Fm) : Prop := ∀ s l r, Fm.op s l r ∈ fs → l ∈ fs ∧ r ∈ fs
theorem imgsL_len {z : Str} (hz : wordsD.contains z = true) (t : Trp) : (imgsL t (lotOf z)).length ≤ 6 := by
  have h6 := lots_len6 z (List.contains_iff_mem.mp hz)
  have := imgs_len (t := t) (lotOf z) []
  unfold imgsL
  simp only [List.length_nil] at this
  omega
theorem rowsG_len {z : Str} (hz : wordsD.contains z = true) (all : List Fm) : ∀ fs : List Fm, (rowsG z all fs).length ≤ 6 * fs.length
  | [] => Nat.le_refl _
  | f :: fs => by
    have ih := rowsG_len hz all fs
    have h : (rowO z all f).length ≤ 6 := by
      unfold rowO
      split
      · exact Nat.zero_le _
      · exact imgsL_len hz _
    unfold rowsG at ih ⊢
    rw [List.flatMap_cons, List.length_append, List.length_cons]
    omega
theorem ix_ok {fs : List Fm} {f : Fm} (h : f ∈ fs) (ok : ∀ g ∈ fs, g.ok = true) : (fs.map fD)[ixE fs f]? = some (fD f) ∧ PyData.eqv (fD f) (fD f) = true ∧ ∀ (m : Nat) (z' : PyData), m < ixE fs f → (fs.map fD)[m]? = some z' → PyData.eqv z' (fD f) = false := by
  obtain ⟨lt, e⟩ := ixE_at h
  refine ⟨by rw [List.getElem?_map, List.getElem?_eq_getElem lt, e]; rfl, (fD_eqv f f (ok f h) (ok f h)).trans (decide_eq_true rfl), fun m z' hm hz => ?_⟩
  have lm : m < fs.length := by omega
  rw [List.getElem?_map, List.getElem?_eq_getElem lm] at hz
  obtain rfl := Option.some.inj hz
  rw [fD_eqv _ f (ok _ (List.getElem_mem lm)) (ok f h)]
  have := List.not_of_lt_findIdx (p := fun g : Fm => decide (g = f)) (xs := fs) hm
  simpa using this
def spLrows : Sp := fun vs H Q _ => ∃ (rk L : Addr) (z : Str) (b : Bool) (us : List V) (fs : List Fm), vs = [.ref rk, .ref L] ∧ H rk = some (.tup [.str z, .bl b]) ∧ wordsD.contains z = true ∧ H L = some (.lst us) ∧ Paired (TrW H) us fs ∧ (∀ f ∈ fs, f.ok = true ∧ f.dep ≤ 50) ∧ ClosedE fs ∧ fs.length ≤ 100 ∧
  ∀ (R : Addr) (H' : Hp), Same H H' → TrpsAt H' R (rowsF z b fs) → Q (.ref R) H'
section
variable {P : Program} {w : World} {K : PySem.W.Frag} {mg : Str → Option Value} {base : Heap} {f : Addr} {fd : FuncData}
theorem c_ltriple (F : FnP K "_law_triple" s_ltriple f fd) (hm : mg "_law_triple" = some (.ref f)) : Cal P w K mg base 1 "_law_triple" spLtriple := by
  have hnd := sc_ltriple.nd
  refine cal_mk F hm sc_ltriple (fun _ _ _ _ _ _ us hl => match us, hl with | [_], _ => rfl) (fun vs H Q E h => ?_) (fun cdv A outer s H vs Q E hr h => ?_)
  · obtain ⟨a, vl, vr, s0, rfl, _⟩ := h
    rfl
  · obtain ⟨a, vl, vr, s0, rfl, e, hs, q⟩ := h
    refine ⟨_, (pss_cons (ps_asg (pv 0) (pg_tup (by rfl) (pgs_cons (pg_name (i := 1) hnd rfl (by first | exact Or.inl rfl | exact Or.inr rfl)) (pgs_cons (pg_name (i := 2) hnd rfl (by first | exact Or.inl rfl | exact Or.inr rfl)) (pgs_cons (pg_name (i := 3) hnd rfl (by first | exact Or.inl rfl | exact Or.inr rfl)) pgs_nil)))))
      (pss_cons (ps_if (pt_cmpR op_eq (pv 1) pe_str (nomark _))
      (pss_one (ps_ret (pe_tup (pa_cons (pv 2) (pa_cons (pv 3) (pa_cons (pv 0) pa_nil))))))
      pss_nil)
      (pss_one (ps_ret (pe_ifExp (pt_cmpR op_eq (pv 1) pe_str (nomark _)) (pe_tup (pa_cons (pv 0) (pa_cons (pv 3) (pa_cons (pv 2) pa_nil)))) (pe_tup (pa_cons (pv 2) (pa_cons (pv 0) (pa_cons (pv 3) pa_nil))))))))), ?_⟩
    refine ⟨_, rfl, a, _, rfl, SqT.of e, rfl, _, _, rfl, _, _, rfl, _, _, rfl, rfl, ?_⟩
    try dsimp only
    have c42 : (Str.ofString "*") = S [42] := by decide +kernel
    have c47 : (Str.ofString "//") = S [47, 47] := by decide +kernel
    refine ⟨_, rfl, rfl, _, rfl, ?_⟩
    rw [c42, dec_str]
    rcases (show s0 = 0 ∨ s0 = 1 ∨ s0 = 2 by omega) with rfl | rfl | rfl
    · exact iteT2 (by decide +kernel) ⟨_, rfl, _, rfl, _, rfl, Nat.le_of_ble_eq_true rfl, fun R nR => q R _ (same_new nR) upd_same⟩
    · refine iteN2 (by decide +kernel) ?_
      refine ⟨_, rfl, rfl, _, rfl, ?_⟩
      rw [c47, dec_str]
      exact iteT2 (by decide +kernel) ⟨_, rfl, _, rfl, _, rfl, Nat.le_of_ble_eq_true rfl, fun R nR => q R _ (same_new nR) upd_same⟩
    · refine iteN2 (by decide +kernel) ?_
      refine ⟨_, rfl, rfl, _, rfl, ?_⟩
      rw [c47, dec_str]
      exact iteN2 (by decide +kernel) ⟨_, rfl, _, rfl, _, rfl, Nat.le_of_ble_eq_true rfl, fun R nR => q R _ (same_new nR) upd_same⟩
theorem c_lsize_false (F : FnP K "_law_size" s_lsize f fd) (hm : mg "_law_size" = some (.ref f)) : Cal P w K mg base 1 "_law_size" (spLsA 0) :=
  ⟨f, fd, ["_law_form_here"], ⟨fun _ _ _ _ h => h.elim, fun _ _ _ _ _ _ _ _ _ _ _ _ _ h => h.elim⟩, hm, F.kp, F.bindsN fun _ _ _ _ _ _ us hl => match us, hl with | [_], _ => rfl⟩
theorem c_lsize_step (F : FnP K "_law_size" s_lsize f fd) (hm : mg "_law_size" = some (.ref f)) (n : Nat) (k_lsize : Cal P w K mg base (n + 1) "_law_size" (spLsA n)) : Cal P w K mg base (n + 1 + 1) "_law_size" (spLsize n) := by
  have hnd := sc_lsize.nd
  refine cal_mk F hm sc_lsize (fun _ _ _ _ _ _ us hl => match us, hl with | [_], _ => rfl) (fun vs H Q E h => ?_) (fun cdv A outer s H vs Q E hr h => ?_)
  · obtain ⟨v, f0, rfl, _⟩ := h
    rfl
  · obtain ⟨v, f0, rfl, ht, hd, ho, q⟩ := h
    refine ⟨_, (pss_one (ps_ret (pe_ifExp (pt_cmpR op_eq (pe_ix (show IxR _ (rIxT K) from ix_tup) (pv 0) pe_int (fun _ _ => rfl)) pe_str (nomark _)) pe_int (pe_op op_add (pe_op op_add pe_int (pe_cal k_lsize hr (by omega) (by rfl) (pa_cons (pe_ix (show IxR _ (rIxT K) from ix_tup) (pv 0) pe_int (fun _ _ => rfl)) pa_nil))) (pe_cal k_lsize hr (by omega) (by rfl) (pa_cons (pe_ix (show IxR _ (rIxT K) from ix_tup) (pv 0) pe_int (fun _ _ => rfl)) pa_nil)))))), ?_⟩
    cases ht with
    | lt e =>
      rename_i a nm
      exact ⟨_, rfl, a, _, _, .str (S []), rfl, rfl, SqT.of e, atI_nat (j := 0) rfl, rfl, _, rfl, iteT2 (decide_eq_true (by rw [cons_S])) q⟩
    | op e hl hr_ =>
      rename_i a vl vr s0 l r
      simp only [Fm.dep] at hd
      simp only [Fm.ops] at ho
      refine ⟨_, rfl, a, _, _, .str (S (sgL s0)), rfl, rfl, SqT.of e, atI_nat (j := 0) rfl, rfl, _, rfl, iteN2 (sgL_no s0) ?_⟩
      cases n with
      | zero => omega
      | succ n =>
        refine ⟨_, rfl, a, _, _, vl, rfl, rfl, SqT.of e, atI_nat (j := 1) rfl, vl, l, rfl, hl, by omega, by omega, ?_⟩
        refine ⟨_, _, rfl, rfl, _, rfl, a, _, _, vr, rfl, rfl, SqT.of e, atI_nat (j := 2) rfl, vr, r, rfl, hr_, by omega, by omega, _, _, rfl, rfl, ?_⟩
        have e9 : ((Fm.op s0 l r).ops : Int) = 1 + (l.ops : Int) + (r.ops : Int) := by simp only [Fm.ops]; omega
        rw [e9] at q
        exact q
theorem c_lsize (F : FnP K "_law_size" s_lsize f fd) (hm : mg "_law_size" = some (.ref f)) : ∀ n, Cal P w K mg base (n + 1 + 1) "_law_size" (spLsize n)
  | 0 => c_lsize_step F hm 0 (c_lsize_false F hm)
  | n + 1 => c_lsize_step F hm (n + 1) (c_lsize F hm n)
theorem c_ljoined (F : FnP K "_law_joined" s_ljoined f fd) (hm : mg "_law_joined" = some (.ref f)) : Cal P w K mg base 2 "_law_joined" spMerged := by
  have hnd := sc_ljoined.nd
  refine cal_mk F hm sc_ljoined (fun _ _ _ _ _ _ us hl => match us, hl with | [_, _, _], _ => rfl) (fun vs H Q E h => ?_) (fun cdv A outer s H vs Q E hr h => ?_)
  · obtain ⟨C, cs, a, b, rfl, _⟩ := h
    rfl
  · obtain ⟨C, cs, a, b, rfl, eC, ha, hb, few, q⟩ := h
    have sC := SqL.of (K := K) eC
    refine ⟨_, (pss_cons (ps_pairL rfl (pa_cons (pe_ix (show IxR _ (rIxL K) from ix_list) (pv 0) (pv 1) (fun _ _ => rfl)) (pa_cons (pe_ix (show IxR _ (rIxL K) from ix_list) (pv 0) (pv 2) (fun _ _ => rfl)) pa_nil)) (pgs_cons (pg_name (i := 3) hnd rfl (by first | exact Or.inl rfl | exact Or.inr rfl)) (pgs_cons (pg_name (i := 4) hnd rfl (by first | exact Or.inl rfl | exact Or.inr rfl)) pgs_nil)) (by rfl) (by rfl) (by rfl))
      (pss_one (ps_ret (pe_lc (own := [("_law_mark", 5)]) (tt := tYes) (by rfl) hnd (pi_list (pv 0)) (blkOk_by (own := [("_law_mark", 5)]) (N := N_ljoined) (sc := defScope s_ljoined) (by decide +kernel)) (fun _ _ _ _ _ => (pg_name (i := 5) hnd rfl (by first | exact Or.inl rfl | exact Or.inr rfl))) (fun _ _ _ _ _ => pts_nil) (fun _ _ _ _ _ => (pe_ifExp (pt_cmpR op_eq (pv 5) (pv 4) (nomark _)) (pv 3) (pv 5))))))), ?_⟩
    refine ⟨_, rfl, _, rfl, C, _, _, _, rfl, rfl, sC, at_ints ha, _, rfl, _, rfl, C, _, _, _, rfl, rfl, sC, at_ints hb, rfl, _, _, rfl, _, _, rfl, rfl, ?_⟩
    try dsimp only
    refine ⟨_, rfl, C, rfl, ⟨_, sC⟩, fun R nR => ?_⟩
    refine lc_it (walk_list (K := K) (a := C) (xs := intsV cs)) (fun i G => Same H G ∧ G R = some (.lst (intsV ((mergeC cs a b).take i)))) ⟨same_new nR, upd_same⟩ (fun i G _ h => SqL.of (h.1 _ _ eC)) ?_ ?_
    · rintro i x G G' hi ⟨sG, eR⟩ ⟨rfl, hx⟩
      unfold intsV at hi hx
      rw [List.length_map] at hi
      have h1 : cs[i]? = some cs[i] := List.getElem?_eq_getElem hi
      generalize cs[i] = n at h1
      rw [List.getElem?_map, h1] at hx
      obtain rfl := Option.some.inj hx
      have e2 : (mergeC cs a b)[i]? = some (if n = g0 cs b then g0 cs a else n) := by unfold mergeC; rw [List.getElem?_map, h1]; rfl
      have lb : (mergeC cs a b).length ≤ 100000 := by rw [mergeC_len]; exact few
      have eqd : decide (V.int (n : Int) = V.int (g0 cs b : Nat)) = decide (n = g0 cs b) := decide_eq_decide.mpr ⟨fun h => by injection h with h; omega, fun h => by rw [h]⟩
      refine ⟨rfl, ?_⟩
      unfold tYes
      dsimp only
      rw [if_pos rfl]
      have ln : (intsV ((mergeC cs a b).take i)).length < sizeLine := by
        unfold intsV
        rw [List.length_map, List.length_take, sizeLine_eq]
        omega
      have fin : ∀ m : Nat, (mergeC cs a b)[i]? = some m → upd G' R (.lst (intsV ((mergeC cs a b).take i) ++ [.int (m : Nat)])) R = some (.lst (intsV ((mergeC cs a b).take (i + 1)))) := fun m hm => by
        rw [upd_same, get_take hm]
        unfold intsV
        rw [List.map_append]
        rfl
      refine ⟨_, rfl, _, rfl, rfl, _, rfl, ?_⟩
      by_cases c : n = g0 cs b
      · rw [if_pos c] at e2
        exact iteT2 (eqd.trans (decide_eq_true c)) ⟨_, rfl, _, eR, ln, same_pt nR sG, fin _ e2⟩
      · rw [if_neg c] at e2
        exact iteN2 (eqd.trans (decide_eq_false c)) ⟨_, rfl, _, eR, ln, same_pt nR sG, fin _ e2⟩
    · rintro G ⟨sG, eG⟩
      rw [show (intsV cs).length = (mergeC cs a b).length by rw [mergeC_len]; exact List.length_map _, List.take_length] at eG
      exact q R G sG nR eG
end
section
variable {P : Program} {w : World} {K : PySem.W.Frag} {mg : Str → Option Value} {base : Heap} {f : Addr} {fd : FuncData}
theorem c_lrows (T : Bt mg) (k_limages : Cal P w K mg base 2 "_law_images" (spLimages K)) (k_ltriple : Cal P w K mg base 1 "_law_triple" spLtriple) (F : FnP K "_law_rows" s_lrows f fd) (hm : mg "_law_rows" = some (.ref f)) : Cal P w K mg base 3 "_law_rows" spLrows := by
  have hnd := sc_lrows.nd
  refine cal_mk F hm sc_lrows (fun _ _ _ _ _ _ us hl => match us, hl with | [_, _], _ => rfl) (fun vs H Q E h => ?_) (fun cdv A outer s H vs Q E hr h => ?_)
  · obtain ⟨rk, L, z, b, us, fs, rfl, _⟩ := h
    rfl
  · obtain ⟨rk, L, z, b, us, fs, rfl, erk, hz, eL, pL, ok, cl, l100, q⟩ := h
    have hu65 : (A.deeper (envOfC "_law_rows" (defScope s_lrows) s.heap.objs.size f cdv)).units + 65 < cLine := by
      have := hr.un
      omega
    have lus := pL.length
    have ok1 : ∀ f ∈ fs, f.ok = true := fun f h => (ok f h).1
    have shL : SeqAt.shaped (.list (fs.map fD)) = true := shaped_fDs ok1 fun f h => (ok f h).2
    refine ⟨_, (pss_cons (ps_set (i := 2) hnd rfl (by first | exact Or.inl rfl | exact Or.inr rfl) (pe_lst pa_nil))
      (pss_cons (ps_for PassesOwn.never (by rfl) (pi_list (pv 1)) (pg_name (i := 3) hnd rfl (by first | exact Or.inl rfl | exact Or.inr rfl))
      (pss_one (ps_if (pt_cmpR op_ne (pe_ix (show IxR _ (rIxT K) from ix_tup) (pv 3) pe_int (fun _ _ => rfl)) pe_str (nomark _))
      (pss_one (ps_set (i := 2) hnd rfl (by first | exact Or.inl rfl | exact Or.inr rfl) (pe_op op_cat (pv 2) (pe_cal k_limages hr (by omega) (by rfl) (pa_cons (pe_ix (show IxR _ (rIxT K) from ix_tup) (pv 0) pe_int (fun _ _ => rfl)) (pa_cons (pe_callTy call_tuple_of (by rfl) T.m_tuple (by decide +kernel) (pa_cons (pe_lc (own := [("_law_left_one", 4)]) (tt := tYes) (by rfl) hnd (pi_tup (pe_cal k_ltriple hr (by omega) (by rfl) (pa_cons (pv 3) pa_nil))) (blkOk_by (own := [("_law_left_one", 4)]) (N := N_lrows) (sc := defScope s_lrows) (by decide +kernel)) (fun _ _ _ _ _ => (pg_name (i := 4) hnd rfl (by first | exact Or.inl rfl | exact Or.inr rfl))) (fun _ _ _ _ _ => pts_nil) (fun _ _ _ _ _ => (show PE _ _ (tBM K "list" (rIndexD K) (tVar 1) (tCons (tVar 4) tNil)) from (pe_bm PySem.F.plainAttrs_list PySem.F.slot_list_index PySem.F.type_list_index (show MtR _ "list.index" (rIndexD K) from mt_indexD hu65) (pv 1) (pa_cons (pv 4) pa_nil))))) pa_nil)) pa_nil))))))
      pss_nil)))
      (pss_one (ps_ret (pe_op op_cat (pv 2) (pe_ifExp (pt_val (pe_ix (show IxR _ (rIxT K) from ix_tup) (pv 0) pe_int (fun _ _ => rfl))) (pe_lc (own := [("_law_k", 5)]) (tt := tYes) (by rfl) hnd (pi_range1 (by rfl) T.m_range (pa_cons (pe_callB call_len_seq (by rfl) T.m_len (by decide +kernel) (pa_cons (pv 1) pa_nil)) pa_nil)) (blkOk_by (own := [("_law_k", 5)]) (N := N_lrows) (sc := defScope s_lrows) (by decide +kernel)) (fun _ _ _ _ _ => (pg_name (i := 5) hnd rfl (by first | exact Or.inl rfl | exact Or.inr rfl))) (fun _ _ _ _ _ => pts_nil) (fun _ _ _ _ _ => (pe_tup (pa_cons (pv 5) (pa_cons (pv 5) (pa_cons (pv 5) pa_nil)))))) (pe_lst pa_nil))))))), ?_⟩
    refine ⟨Nat.le_of_ble_eq_true rfl, fun F0 nF0 => gname_go ?_⟩
    try dsimp only
    have s0 := same_new (o := .lst []) nF0
    refine ⟨_, rfl, L, rfl, ⟨_, SqL.of (s0 _ _ eL)⟩, ?_⟩
    refine for_it (walk_list (K := K) (a := L) (xs := us)) (fun i σ' G => Same H G ∧ ∃ (Fo : Addr) (x3 : Option V), σ' = [some (.ref rk), some (.ref L), some (.ref Fo), x3, none, none] ∧ TrpsAt G Fo (rowsG z fs (fs.take i))) ⟨s0, F0, _, rfl, [], upd_same, .nil⟩ (fun i σ' G _ h => SqL.of (h.1 _ _ eL)) ?_ ?_
    · rintro i v σ' G G' hi ⟨sG, Fo, x3, rfl, tF⟩ ⟨rfl, hx⟩
      have li : i < fs.length := by omega
      have h2 : fs[i]? = some fs[i] := List.getElem?_eq_getElem li
      have ht := (paired_get2 pL i _ _ hx h2).same sG
      have mf := List.getElem_mem li
      generalize fs[i] = f0 at h2 ht mf
      have nxt : rowsG z fs (fs.take (i + 1)) = rowsG z fs (fs.take i) ++ rowO z fs f0 := by
        unfold rowsG
        rw [get_take h2, List.flatMap_append, List.flatMap_cons, List.flatMap_nil, List.append_nil]
      have lG := rowsG_len hz fs (fs.take i)
      rw [List.length_take] at lG
      rw [nxt]
      generalize rowsG z fs (fs.take i) = pre at tF lG
      refine gname_go ?_
      try dsimp only
      cases ht with
      | lt e =>
        rename_i a nm
        refine ⟨_, rfl, a, _, _, .str (S []), rfl, rfl, SqT.of e, atI_nat (j := 0) rfl, rfl, _, rfl, iteN2 (by rw [decide_eq_true (by rw [cons_S])]; rfl) ?_⟩
        exact ⟨sG, Fo, _, rfl, by rw [show rowO z fs (.lt nm) = [] from rfl, List.append_nil]; exact tF⟩
      | op e hl hr_ =>
        rename_i a vl vr s9 l r
        obtain ⟨hs, okl, okr⟩ := Fm.ok_op (ok1 _ mf)
        obtain ⟨ml, mr⟩ := cl _ _ _ mf
        refine ⟨_, rfl, a, _, _, .str (S (sgL s9)), rfl, rfl, SqT.of e, atI_nat (j := 0) rfl, rfl, _, rfl, iteT2 (by rw [sgL_no]; rfl) ?_⟩
        refine ⟨_, rfl, _, rfl, rk, _, _, .str z, rfl, rfl, SqT.of (sG _ _ erk), atI_nat (j := 0) rfl, ?_⟩
        refine ⟨_, rfl, a, vl, vr, s9, rfl, e, hs, fun R3 H3 s3 e3 => ?_⟩
        have sG3 := sG.trans s3
        refine ⟨R3, rfl, ⟨_, SqT.of e3⟩, fun D nD => ?_⟩
        have trees : Paired (TrW H3) (trW s9 vl vr (.ref a)) (trF s9 l r) := by
          have kA := hl.same s3
          have kB := hr_.same s3
          have kC : TrW H3 (.ref a) (.op s9 l r) := (TrW.op e hl hr_).same s3
          rcases (show s9 = 0 ∨ s9 = 1 ∨ s9 = 2 by omega) with rfl | rfl | rfl
          · exact .cons kA (.cons kB (.cons kC .nil))
          · exact .cons kC (.cons kB (.cons kA .nil))
          · exact .cons kA (.cons kC (.cons kB .nil))
        have tIn : ∀ g ∈ trF s9 l r, g ∈ fs := by
          rcases (show s9 = 0 ∨ s9 = 1 ∨ s9 = 2 by omega) with rfl | rfl | rfl <;> (intro g hg; simp only [trF, List.mem_cons, List.not_mem_nil, or_false] at hg; rcases hg with rfl | rfl | rfl <;> assumption)
        have tVe : tV (trS s9 (ixE fs l) (ixE fs r) (ixE fs (.op s9 l r))) = (trF s9 l r).map fun g => V.int (ixE fs g : Nat) := by
          rcases (show s9 = 0 ∨ s9 = 1 ∨ s9 = 2 by omega) with rfl | rfl | rfl <;> rfl
        have l3 : (trF s9 l r).length = 3 := by
          rcases (show s9 = 0 ∨ s9 = 1 ∨ s9 = 2 by omega) with rfl | rfl | rfl <;> rfl
        have lw := trees.length
        refine lc_it (walk_tup (K := K) (a := R3) (xs := trW s9 vl vr (.ref a))) (fun j G1 => Same H3 G1 ∧ G1 D = some (.lst ((tV (trS s9 (ixE fs l) (ixE fs r) (ixE fs (.op s9 l r)))).take j))) ⟨same_new nD, upd_same⟩ (fun j G1 _ h => SqT.of (h.1 _ _ e3)) ?_ ?_
        · rintro j y G1 G1' hj ⟨s1, eD⟩ ⟨rfl, hy⟩
          have lj : j < (trF s9 l r).length := by omega
          have h3 : (trF s9 l r)[j]? = some (trF s9 l r)[j] := List.getElem?_eq_getElem lj
          have hy2 := (paired_get2 trees j _ _ hy h3).same s1
          have mg' := tIn _ (List.getElem_mem lj)
          generalize (trF s9 l r)[j] = g0 at h3 hy2 mg'
          obtain ⟨i1, i2, i3⟩ := ix_ok mg' ok1
          have eL1 := s1 _ _ (sG3 _ _ eL)
          have pL1 : Paired (TrW G1') us fs := paired_imp (fun _ _ h => h.same (sG3.trans s1)) pL
          refine ⟨rfl, ?_⟩
          unfold tYes
          dsimp only
          rw [if_pos rfl]
          refine ⟨_, rfl, .inl ⟨rfl, _, SqL.of eL1⟩, _, rfl, L, y, fD g0, fs.map fD, ixE fs g0, fD g0, rfl, rfl, .lst (SqL.of eL1) (dp_trs pL1), hy2.dp, shL, shaped_fD (ok _ mg').1 (ok _ mg').2, i1, i2, i3, _, eD, ?_, same_pt nD s1, ?_⟩
          · rw [List.length_take, tVe, List.length_map, l3, sizeLine_eq]
            omega
          · have e5 : (tV (trS s9 (ixE fs l) (ixE fs r) (ixE fs (.op s9 l r))))[j]? = some (.int (ixE fs g0 : Nat)) := by rw [tVe, List.getElem?_map, h3]; rfl
            rw [upd_same, get_take e5]
        · rintro G1 ⟨s1, eD⟩
          rw [show (trW s9 vl vr (.ref a)).length = (tV (trS s9 (ixE fs l) (ixE fs r) (ixE fs (.op s9 l r)))).length by rw [tVe, List.length_map]; exact lw, List.take_length] at eD
          refine ⟨D, _, rfl, .inl ⟨SqL.of eD, fun p np => ?_⟩⟩
          have sp := same_new (o := .tup (tV (trS s9 (ixE fs l) (ixE fs r) (ixE fs (.op s9 l r))))) np
          refine ⟨z, p, trS s9 (ixE fs l) (ixE fs r) (ixE fs (.op s9 l r)), rfl, hz, SqT.of upd_same, fun l9 H' s' nl tl => ?_⟩
          have sa := ((s3.trans s1).trans sp).trans s'
          have tl6 := imgsL_len hz (trS s9 (ixE fs l) (ixE fs r) (ixE fs (.op s9 l r)))
          obtain ⟨qa, ea9, pa9⟩ := tF.same sa
          obtain ⟨qb, eb9, pb9⟩ := tl
          have la := pa9.length
          have lb := pb9.length
          refine ⟨Fo, l9, _, _, rfl, rfl, ea9, eb9, by rw [List.length_map, List.length_map, sizeLine_eq]; omega, fun p9 np9 => gname_go ?_⟩
          have s9' := same_new (o := .lst (qa.map V.ref ++ qb.map V.ref)) np9
          exact ⟨sG.trans (sa.trans s9'), p9, _, rfl, qa ++ qb, by rw [upd_same, List.map_append], paired_app (paired_imp (fun _ _ e => s9' _ _ e) pa9) (paired_imp (fun _ _ e => s9' _ _ e) pb9)⟩
    · rintro σ' G ⟨sG, Fo, x3, rfl, tF⟩
      rw [lus, List.take_length] at tF
      have lF := rowsG_len hz fs fs
      have fin : ∀ (D : Addr) (G1 : Hp), Same G G1 → TrpsAt G1 D (calmP b fs.length) → rCat (.ref Fo) (.ref D) G1 Q := fun D G1 s1 tD => by
        obtain ⟨qa, ea9, pa9⟩ := tF.same s1
        obtain ⟨qb, eb9, pb9⟩ := tD
        have la := pa9.length
        have lb := pb9.length
        have lc := calmP_len b fs.length
        refine ⟨Fo, D, _, _, rfl, rfl, ea9, eb9, by rw [List.length_map, List.length_map, sizeLine_eq]; omega, fun p9 np9 => ?_⟩
        have s9' := same_new (o := .lst (qa.map V.ref ++ qb.map V.ref)) np9
        exact q p9 _ (sG.trans (s1.trans s9')) ⟨qa ++ qb, by rw [upd_same, List.map_append], paired_app (paired_imp (fun _ _ e => s9' _ _ e) pa9) (paired_imp (fun _ _ e => s9' _ _ e) pb9)⟩
      refine ⟨_, rfl, _, rfl, rk, _, _, .bl b, rfl, rfl, SqT.of (sG _ _ erk), atI_nat (j := 1) rfl, b, rfl, ?_⟩
      cases b with
      | false => exact iteN2 rfl ⟨Nat.le_of_ble_eq_true rfl, fun D nD => fin D _ (same_new nD) ⟨[], upd_same, .nil⟩⟩
      | true =>
        refine iteT2 rfl ⟨_, rfl, L, us, rfl, .inl (SqL.of (sG _ _ eL)), _, rfl, by omega, by omega, fun D nD => ?_⟩
        refine lc_it (walk_range (lo := 0) (n := ((us.length : Nat) : Int).toNat)) (fun i G1 => Same G G1 ∧ TrpsAt G1 D (calmP true i)) ⟨same_new nD, [], upd_same, .nil⟩ (fun _ _ _ _ => trivial) ?_ ?_
        · rintro i x G1 G1' hi ⟨s1, qb, eb9, pb9⟩ ⟨rfl, rfl⟩
          have hi : i < us.length := by omega
          have lb := pb9.length
          have lc := calmP_len true i
          have nxt := calmP_next true i
          rw [if_pos rfl] at nxt
          refine ⟨rfl, ?_⟩
          unfold tYes
          dsimp only
          rw [if_pos rfl, Int.zero_add]
          refine ⟨_, rfl, _, rfl, _, rfl, Nat.le_of_ble_eq_true rfl, fun q1 n1 => ?_⟩
          have y1 := same_new (o := .tup [.int (i : Nat), .int (i : Nat), .int (i : Nat)]) n1
          have f1 : TrpAt (upd G1' q1 (.tup [.int (i : Nat), .int (i : Nat), .int (i : Nat)])) q1 (i, i, i) := upd_same
          generalize upd G1' q1 (.tup [.int (i : Nat), .int (i : Nat), .int (i : Nat)]) = G2 at y1 f1 ⊢
          have eb2 := y1 _ _ eb9
          refine ⟨_, eb2, by rw [List.length_map, sizeLine_eq]; omega, same_pt nD (s1.trans y1), qb ++ [q1], by rw [upd_same, List.map_append]; rfl, ?_⟩
          rw [nxt]
          refine paired_app (paired_imp (fun t T9 e => ?_) pb9) (.cons (by unfold TrpAt; rw [upd_ne (ne_of f1 eb2 (by intro z; cases z))]; exact f1) .nil)
          unfold TrpAt
          rw [upd_ne (ne_of (y1 _ _ e) eb2 (by intro z; cases z))]
          exact y1 _ _ e
        · rintro G1 ⟨s1, tD⟩
          rw [show ((us.length : Nat) : Int).toNat = fs.length by omega] at tD
          exact fin D G1 s1 tD
end
end L2.K19
set_option Elab.async false
set_option linter.all false
set_option maxRecDepth 100000
set_option maxHeartbeats 8000000
namespace L2.K19
open PySem PySem.Spec PyProof.Rows L2.Tb
open SX (S)
/-! ### the law's marks: the same passes -/
abbrev s_lmarks : Stmt := top 69
abbrev N_lmarks : List Str := ["_law_ruled", "_law_parts_here", "_law_known_facts", "_law_marks_here", "_law_left_one", "_law_right_one", "_law_rows_here", "_law_turn", "_law_before", "_law_seen", "_law_row", "_law_at", "_law_key", "_law_mate"]
theorem sc_lmarks : FnScope N_lmarks ["_law_ruled", "_law_parts_here", "_law_known_facts"] (defScope s_lmarks) := ⟨rfl, rfl, rfl, by decide +kernel, rfl, by decide +kernel, by decide +kernel⟩
theorem cutV_take {xs : List V} {k : Nat} (h : k ≤ xs.length) : cutV xs none (some (k : Int)) = xs.take k := by
  unfold cutV
  rw [HT.sIx_none, HT.sIx_nat, Nat.min_eq_left h, List.drop_zero, Nat.sub_zero]
theorem cutV_drop {xs : List V} {k : Nat} (h : k ≤ xs.length) : cutV xs (some (k : Int)) none = xs.drop k := by
  unfold cutV
  rw [HT.sIx_none, HT.sIx_nat, Nat.min_eq_left h]
  exact List.take_of_length_le (by rw [List.length_drop]; omega)
theorem slT_run {K : PySem.W.Frag} {H : Hp} {a : Addr} {xs : List V} {lo hi : Option Int} {Q : VK} (e : H a = some (.tup xs)) (q : ∀ R G, Same H G → G R = some (.tup (cutV xs lo hi)) → Q (.ref R) G) : rSlA K (.ref a) lo hi H Q := by
  refine ⟨a, xs, rfl, SqT.of e, fun hw => ?_, fun _ R nR => q R _ (same_new nR) upd_same⟩
  refine q a H (Same.refl _) ?_
  have : cutV xs lo hi = xs := by
    unfold cutV
    rw [hw.1, hw.2, List.drop_zero, Nat.sub_zero, List.take_length]
  rw [this]
  exact e
theorem row_rest {j : Nat} (hj : j < 3) (t : Trp) : (tV t).take j ++ (tV t).drop (j + 1) = [V.int (ot1 j t : Nat), V.int (ot2 j t : Nat)] := by
  rcases (show j = 0 ∨ j = 1 ∨ j = 2 by omega) with rfl | rfl | rfl <;> rfl
theorem row_at {j : Nat} (hj : j < 3) (t : Trp) : atI (tV t) (j : Int) = some (.int (thg j t : Nat)) := by
  rcases (show j = 0 ∨ j = 1 ∨ j = 2 by omega) with rfl | rfl | rfl
  · exact atI_nat (j := 0) rfl
  · exact atI_nat (j := 1) rfl
  · exact atI_nat (j := 2) rfl
theorem mate_val (S : Seen) (cs : List Nat) (t : Trp) (j : Nat) : ((lookK S (keyP cs t j)).map fun m => V.int (thg (keyP cs t j).1 m : Nat)).getD (.int (thg j t : Nat)) = V.int (thg j (mateP S cs t j) : Nat) := by
  unfold mateP
  cases lookK S (keyP cs t j) with
  | none => rfl
  | some m => rfl
def FactsW (H : Hp) (F : Addr) (facts : List (Fm × Fm)) : Prop := ∃ ps : List Addr, H F = some (.lst (ps.map V.ref)) ∧ Paired (fun p e => ∃ vl vr, H p = some (.tup [vl, vr]) ∧ TrW H vl e.1 ∧ TrW H vr e.2) ps facts
theorem FactsW.same {H H' : Hp} {F : Addr} {facts : List (Fm × Fm)} (h : FactsW H F facts) (s : Same H H') : FactsW H' F facts := let ⟨ps, a, b⟩ := h; ⟨ps, s _ _ a, paired_imp (fun _ _ ⟨l, r, e, h1, h2⟩ => ⟨l, r, s _ _ e, h1.same s, h2.same s⟩) b⟩
def leqsF (facts : List (Fm × Fm)) (fs : List Fm) : List (Nat × Nat) := facts.map fun e => (ixE fs e.1, ixE fs e.2)
/-- what has been seen, as the law keeps it -/
def SeenL (G : Hp) (D : Addr) (S : Seen) (bd : Nat) : Prop := ∃ kvs : List (List Key × V), G D = some (.dT kvs) ∧ kvs.length ≤ bd ∧ ∀ k, valV kvs (keyL k) = (lookK S k).map fun m => V.int (thg k.1 m : Nat)
theorem lookK_snoc (S : Seen) (k k' : Nat × Nat × Nat) (t : Trp) (h : lookK S k = none) : lookK (S ++ [(k, t)]) k' = if k' = k then some t else lookK S k' := by
  unfold lookK at h ⊢
  rw [List.find?_append]
  by_cases c : k' = k
  · subst c
    rw [if_pos rfl]
    rw [Option.map_eq_none_iff] at h
    rw [h]
    simp
  · rw [if_neg c]
    have : ¬ k = k' := fun z => c z.symm
    simp [this]
/-- -/
theorem SeenL.put {G : Hp} {D : Addr} {S : Seen} {bd : Nat} {kvs : List (List Key × V)} (n : kvs.length ≤ bd) (h : ∀ k, valV kvs (keyL k) = (lookK S k).map fun m => V.int (thg k.1 m : Nat)) (cs : List Nat) (t : Trp) (j : Nat) :
    SeenL (upd G D (.dT (putK kvs (keyL (keyP cs t j)) (V.int (thg j (mateP S cs t j) : Nat))))) D (seenP S cs t j) (bd + 1) := by
  refine ⟨_, upd_same, ?_, fun k => ?_⟩
  · have := length_putK kvs (keyL (keyP cs t j)) (V.int (thg j (mateP S cs t j) : Nat))
    omega
  · rw [valV_put]
    have ek : (keyL k = keyL (keyP cs t j)) ↔ k = keyP cs t j := by
      have := keyL_inj (a := k) (b := keyP cs t j)
      exact ⟨fun e => of_decide_eq_true (this.symm.trans (decide_eq_true e)), fun e => by rw [e]⟩
    by_cases c : k = keyP cs t j
    · rw [if_pos (ek.mpr c), c]
      unfold seenP mateP
      cases hl : lookK S (keyP cs t j) with
      | some m => dsimp only; rw [hl]; rfl
      | none => dsimp only; rw [lookK_snoc _ _ _ _ hl, if_pos rfl]; rfl
    · rw [if_neg (fun z => c (ek.mp z)), h k]
      unfold seenP
      cases hl : lookK S (keyP cs t j) with
      | some m => rfl
      | none => dsimp only; rw [lookK_snoc _ _ _ _ hl, if_neg c]
theorem imgs_go (t : Trp) : ∀ (lot : List Turn) (acc : List Trp) (x : Trp), x ∈ lot.foldl (fun acc u => if imgT t u ∈ acc then acc else acc ++ [imgT t u]) acc ↔ x ∈ acc ∨ ∃ u ∈ lot, imgT t u = x
  | [], acc, x => by simp
  | u :: lot, acc, x => by
    rw [List.foldl_cons, imgs_go t lot]
    by_cases c : imgT t u ∈ acc
    · rw [if_pos c]
      constructor
      · rintro (h | ⟨v, hv, e⟩)
        · exact .inl h
        · exact .inr ⟨v, List.mem_cons_of_mem _ hv, e⟩
      · rintro (h | ⟨v, hv, e⟩)
        · exact .inl h
        · rcases List.mem_cons.mp hv with rfl | hv
          · exact .inl (e ▸ c)
          · exact .inr ⟨v, hv, e⟩
    · rw [if_neg c, List.mem_append, List.mem_singleton]
      constructor
      · rintro ((h | h) | ⟨v, hv, e⟩)
        · exact .inl h
        · exact .inr ⟨u, List.mem_cons_self, h.symm⟩
        · exact .inr ⟨v, List.mem_cons_of_mem _ hv, e⟩
      · rintro (h | ⟨v, hv, e⟩)
        · exact .inl (.inl h)
        · rcases List.mem_cons.mp hv with rfl | hv
          · exact .inl (.inr e.symm)
          · exact .inr ⟨v, hv, e⟩
theorem imgsL_mem {t x : Trp} {lot : List Turn} : x ∈ imgsL t lot ↔ ∃ u ∈ lot, imgT t u = x := by
  have := imgs_go t lot [] x
  unfold imgsL
  rw [this]
  simp
/-- a pass of the law between two turns -/
structure MP (H : Hp) (D B : Addr) (rows : List Trp) (cs0 : List Nat) (G : Hp) (Cc : Addr) (i j : Nat) : Prop where
  sH : Same H G
  cl : G Cc = some (.lst (intsV (preF rows cs0 i j).1))
  sn : SeenL G D (preF rows cs0 i j).2 (3 * i + j)
  bf : G B = some (.lst (intsV cs0))
theorem MP.same {H : Hp} {D B : Addr} {rows : List Trp} {cs0 : List Nat} {G G' : Hp} {Cc : Addr} {i j : Nat} (h : MP H D B rows cs0 G Cc i j) (s : Same G G') : MP H D B rows cs0 G' Cc i j :=
  ⟨h.sH.trans s, s _ _ h.cl, let ⟨k, a, b, c⟩ := h.sn; ⟨k, s _ _ a, b, c⟩, s _ _ h.bf⟩
theorem MP.next {H : Hp} {D B : Addr} {rows : List Trp} {cs0 : List Nat} {G : Hp} {Cc : Addr} {i : Nat} {t : Trp} (ht : rows[i]? = some t) (h : MP H D B rows cs0 G Cc i 3) : MP H D B rows cs0 G Cc (i + 1) 0 :=
  ⟨h.sH, (preF_done ht) ▸ h.cl, (preF_done ht) ▸ (show SeenL G D (preF rows cs0 i 3).2 (3 * (i + 1) + 0) from h.sn), h.bf⟩
theorem rowsF_bd {z : Str} {b : Bool} {fs : List Fm} (cl : ClosedE fs) : ∀ t ∈ rowsF z b fs, thB fs.length t := fun t ht => by
  unfold rowsF at ht
  rcases List.mem_append.mp ht with ht | ht
  · obtain ⟨g, hg, ht⟩ := List.mem_flatMap.mp ht
    cases g with
    | lt n => cases ht
    | op s l r =>
      obtain ⟨ml, mr⟩ := cl _ _ _ hg
      obtain ⟨b1, _⟩ := ixE_at ml
      obtain ⟨b2, _⟩ := ixE_at mr
      obtain ⟨b3, _⟩ := ixE_at hg
      have bt : thB fs.length (trS s (ixE fs l) (ixE fs r) (ixE fs (.op s l r))) := by
        unfold trS
        split
        · exact ⟨b1, b2, b3⟩
        · exact ⟨b3, b2, b1⟩
        · exact ⟨b1, b3, b2⟩
      obtain ⟨u, _, e⟩ := imgsL_mem.mp ht
      rw [← e]
      exact imgT_bd bt u
  · unfold calmP at ht
    cases b with
    | false => cases ht
    | true =>
      obtain ⟨i, hi, rfl⟩ := List.mem_map.mp ht
      have := List.mem_range.mp hi
      exact ⟨this, this, this⟩
def spLmarks : Sp := fun vs H Q _ => ∃ (rk L K9 : Addr) (z : Str) (b : Bool) (us : List V) (fs : List Fm) (facts : List (Fm × Fm)), vs = [.ref rk, .ref L, .ref K9] ∧ H rk = some (.tup [.str z, .bl b]) ∧ wordsD.contains z = true ∧ H L = some (.lst us) ∧ Paired (TrW H) us fs ∧ (∀ f ∈ fs, f.ok = true ∧ f.dep ≤ 50) ∧ ClosedE fs ∧ 0 < fs.length ∧ fs.length ≤ 100 ∧
  FactsW H K9 facts ∧ (∀ e ∈ facts, e.1 ∈ fs ∧ e.2 ∈ fs) ∧ ∀ (R : Addr) (out : List Nat) (H' : Hp), Same H H' → H' R = some (.lst (intsV out)) → out.length = fs.length → (∀ i j, i < fs.length → j < fs.length → (g0 out i = g0 out j ↔ ClI (leqsF facts fs) (rowsF z b fs) i j)) → Q (.ref R) H'
section
variable {P : Program} {w : World} {K : PySem.W.Frag} {mg : Str → Option Value} {base : Heap} {f : Addr} {fd : FuncData}
theorem c_lmarks (T : Bt mg) (k_ljoined : Cal P w K mg base 2 "_law_joined" spMerged) (k_lrows : Cal P w K mg base 3 "_law_rows" spLrows) (F : FnP K "_law_marks" s_lmarks f fd) (hm : mg "_law_marks" = some (.ref f)) : Cal P w K mg base 5 "_law_marks" spLmarks := by
  have hnd := sc_lmarks.nd
  refine cal_mk F hm sc_lmarks (fun _ _ _ _ _ _ us hl => match us, hl with | [_, _, _], _ => rfl) (fun vs H Q E h => ?_) (fun cdv A outer s H vs Q E hr h => ?_)
  · obtain ⟨rk, L, K9, z, b, us, fs, facts, rfl, _⟩ := h
    rfl
  · obtain ⟨rk, L, K9, z, b, us, fs, facts, rfl, erk, hz, eL, pL, ok, cl, n0, l100, ⟨ps, eK, pK⟩, hin, q⟩ := h
    have hu65 : (A.deeper (envOfC "_law_marks" (defScope s_lmarks) s.heap.objs.size f cdv)).units + 65 < cLine := by
      have := hr.un
      omega
    have lus := pL.length
    have lps := pK.length
    have ok1 : ∀ f ∈ fs, f.ok = true := fun f h => (ok f h).1
    have shL : SeqAt.shaped (.list (fs.map fD)) = true := shaped_fDs ok1 fun f h => (ok f h).2
    have eqb : ∀ e ∈ leqsF facts fs, e.1 < fs.length ∧ e.2 < fs.length := fun e he => by
      obtain ⟨x, hx, rfl⟩ := List.mem_map.mp he
      exact ⟨(ixE_at (hin x hx).1).1, (ixE_at (hin x hx).2).1⟩
    have rbd := rowsF_bd (z := z) (b := b) cl
    refine ⟨_, (pss_cons (ps_set (i := 3) hnd rfl (by first | exact Or.inl rfl | exact Or.inr rfl) (pe_listRg (by rfl) (by rfl) T.m_list (prg_1 (by rfl) T.m_range (pe_callB call_len_seq (by rfl) T.m_len (by decide +kernel) (pa_cons (pv 1) pa_nil)))))
      (pss_cons (ps_for PassesOwn.never (by rfl) (pi_list (pv 2)) (pg_tup (by rfl) (pgs_cons (pg_name (i := 4) hnd rfl (by first | exact Or.inl rfl | exact Or.inr rfl)) (pgs_cons (pg_name (i := 5) hnd rfl (by first | exact Or.inl rfl | exact Or.inr rfl)) pgs_nil)))
      (pss_one (ps_set (i := 3) hnd rfl (by first | exact Or.inl rfl | exact Or.inr rfl) (pe_cal k_ljoined hr (by omega) (by rfl) (pa_cons (pv 3) (pa_cons (pe_bm PySem.F.plainAttrs_list PySem.F.slot_list_index PySem.F.type_list_index (show MtR _ "list.index" (rIndexD K) from mt_indexD hu65) (pv 1) (pa_cons (pv 4) pa_nil)) (pa_cons (pe_bm PySem.F.plainAttrs_list PySem.F.slot_list_index PySem.F.type_list_index (show MtR _ "list.index" (rIndexD K) from mt_indexD hu65) (pv 1) (pa_cons (pv 5) pa_nil)) pa_nil)))))))
      (pss_cons (ps_set (i := 6) hnd rfl (by first | exact Or.inl rfl | exact Or.inr rfl) (pe_cal k_lrows hr (by omega) (by rfl) (pa_cons (pv 0) (pa_cons (pv 1) pa_nil))))
      (pss_cons (ps_for PassesOwn.never (by rfl) (pi_range1 (by rfl) T.m_range (pa_cons (pe_callB call_len_seq (by rfl) T.m_len (by decide +kernel) (pa_cons (pv 1) pa_nil)) pa_nil)) (pg_name (i := 7) hnd rfl (by first | exact Or.inl rfl | exact Or.inr rfl))
      (pss_cons (ps_par (i := 8) (j := 9) (by rfl) hnd rfl rfl (by decide) (by rfl) (by rfl) (pa_cons (pe_callTy call_list_of (by rfl) T.m_list (by decide +kernel) (pa_cons (pv 3) pa_nil)) (pa_cons pe_dnewT pa_nil)) (by rfl))
      (pss_cons (ps_for PassesOwn.never (by rfl) (pi_list (pv 6)) (pg_name (i := 10) hnd rfl (by first | exact Or.inl rfl | exact Or.inr rfl))
      (pss_one (ps_for PassesOwn.never (by rfl) (pi_range1 (by rfl) T.m_range (pa_cons pe_int pa_nil)) (pg_name (i := 11) hnd rfl (by first | exact Or.inl rfl | exact Or.inr rfl))
      (pss_cons (ps_set (i := 12) hnd rfl (by first | exact Or.inl rfl | exact Or.inr rfl) (pe_op (show OpR _ (binaryOp .Add) (rCatA K) from op_catA) (pe_tup (pa_cons (pv 11) pa_nil)) (pe_callTy call_tuple_of (by rfl) T.m_tuple (by decide +kernel) (pa_cons (pe_lc (own := [("_law_left_one", 4)]) (tt := tYes) (by rfl) hnd (pi_tup (pe_op (show OpR _ (binaryOp .Add) (rCatA K) from op_catA) (pe_slice (show SlR _ (rSlA K) from sl_tupA) (pv 10) po_none (po_some (pv 11))) (pe_slice (show SlR _ (rSlA K) from sl_tupA) (pv 10) (po_some (pe_op op_add (pv 11) pe_int)) po_none))) (blkOk_by (own := [("_law_left_one", 4)]) (N := N_lmarks) (sc := defScope s_lmarks) (by decide +kernel)) (fun _ _ _ _ _ => (pg_name (i := 4) hnd rfl (by first | exact Or.inl rfl | exact Or.inr rfl))) (fun _ _ _ _ _ => pts_nil) (fun _ _ _ _ _ => (pe_ix (show IxR _ (rIxL K) from ix_list) (pv 3) (pv 4) (fun _ _ => rfl)))) pa_nil))))
      (pss_cons (ps_set (i := 13) hnd rfl (by first | exact Or.inl rfl | exact Or.inr rfl) (pe_dget2 (Nat.lt_of_le_of_lt (Nat.add_le_add_left (by decide) _) hr.units) (pv 9) (pv 12) (pe_ix (show IxR _ (rIxT K) from ix_tup) (pv 10) (pv 11) (fun _ _ => rfl)) ⟨by rfl, by rfl, by rfl, by rfl⟩))
      (pss_cons (ps_asg (pv 13) (pg_sub (pv 9) (pv 12) (set_dict (Nat.lt_of_le_of_lt (Nat.add_le_add_left (by decide) _) hr.units))))
      (pss_one (ps_if (pt_cmpR op_ne (pe_ix (show IxR _ (rIxL K) from ix_list) (pv 3) (pv 13) (fun _ _ => rfl)) (pe_ix (show IxR _ (rIxL K) from ix_list) (pv 3) (pe_ix (show IxR _ (rIxT K) from ix_tup) (pv 10) (pv 11) (fun _ _ => rfl)) (fun _ _ => rfl)) (nomark _))
      (pss_one (ps_set (i := 3) hnd rfl (by first | exact Or.inl rfl | exact Or.inr rfl) (pe_cal k_ljoined hr (by omega) (by rfl) (pa_cons (pv 3) (pa_cons (pv 13) (pa_cons (pe_ix (show IxR _ (rIxT K) from ix_tup) (pv 10) (pv 11) (fun _ _ => rfl)) pa_nil))))))
      pss_nil))))))))
      (pss_one (ps_if (pt_cmpR (show OpR _ (compareOp .Eq) (rEqD K) from op_eqD hr.units) (pv 3) (pv 8) (nomark _))
      (pss_one ps_break)
      pss_nil)))))
      (pss_one (ps_ret (pv 3))))))), ?_⟩
    refine ⟨_, rfl, L, us, rfl, .inl (SqL.of eL), _, rfl, RgOk.of_le (by omega) (by omega) (by omega) (by omega), fun C0 nC0 => gname_go ?_⟩
    rw [rg_ints, lus]
    have s0 := same_new (o := .lst (intsV (List.range fs.length))) nC0
    have eC0 : (upd H C0 (.lst (intsV (List.range fs.length)))) C0 = some (.lst (intsV (eqF (leqsF facts fs) fs.length 0))) := upd_same
    generalize upd H C0 (.lst (intsV (List.range fs.length))) = G0 at s0 eC0 ⊢
    refine ⟨_, rfl, K9, rfl, ⟨_, SqL.of (s0 _ _ eK)⟩, ?_⟩
    refine for_it (walk_list (K := K) (a := K9) (xs := ps.map V.ref)) (fun i σ' G => ∃ (Cc : Addr) (x4 x5 : Option V), σ' = [some (.ref rk), some (.ref L), some (.ref K9), some (.ref Cc), x4, x5, none, none, none, none, none, none, none, none] ∧ Same H G ∧ G Cc = some (.lst (intsV (eqF (leqsF facts fs) fs.length i))))
      ⟨C0, _, _, rfl, s0, eC0⟩ (fun i σ' G _ h => by obtain ⟨_, _, _, _, s1, _⟩ := h; exact SqL.of (s1 _ _ eK)) ?_ ?_
    · rintro i x σ' G G' hi ⟨Cc, x4, x5, rfl, sG, eC⟩ ⟨rfl, hx⟩
      rw [List.length_map] at hi
      have h1 : ps[i]? = some ps[i] := List.getElem?_eq_getElem hi
      have h2 : facts[i]? = some (facts[i]'(by omega)) := List.getElem?_eq_getElem (by omega)
      generalize ps[i] = p0 at h1
      generalize (facts[i]'(by omega)) = e0 at h2
      rw [List.getElem?_map, h1] at hx
      obtain rfl := Option.some.inj hx
      obtain ⟨vl, vr, ep, tl, tr⟩ := paired_get2 pK i _ _ h1 h2
      obtain ⟨m1, m2⟩ := hin e0 (List.mem_of_getElem? h2)
      obtain ⟨i1, i2, i3⟩ := ix_ok m1 ok1
      obtain ⟨j1, j2, j3⟩ := ix_ok m2 ok1
      obtain ⟨b1, _⟩ := ixE_at m1
      obtain ⟨b2, _⟩ := ixE_at m2
      have eL1 := sG _ _ eL
      have pL1 : Paired (TrW G') us fs := paired_imp (fun _ _ h => h.same sG) pL
      have le := eqF_len (leqsF facts fs) fs.length i
      have nx : eqF (leqsF facts fs) fs.length (i + 1) = mergeC (eqF (leqsF facts fs) fs.length i) (ixE fs e0.1) (ixE fs e0.2) := eqF_next (e := (ixE fs e0.1, ixE fs e0.2)) (by unfold leqsF; rw [List.getElem?_map, h2]; rfl)
      refine ⟨p0, _, rfl, SqT.of (sG _ _ ep), rfl, _, _, rfl, _, _, rfl, rfl, ?_⟩
      try dsimp only
      refine ⟨_, rfl, _, rfl, .inl ⟨rfl, _, SqL.of eL1⟩, _, rfl, L, vl, fD e0.1, fs.map fD, ixE fs e0.1, fD e0.1, rfl, rfl, .lst (SqL.of eL1) (dp_trs pL1), (tl.same sG).dp, shL, shaped_fD (ok _ m1).1 (ok _ m1).2, i1, i2, i3, ?_⟩
      refine ⟨_, rfl, .inl ⟨rfl, _, SqL.of eL1⟩, _, rfl, L, vr, fD e0.2, fs.map fD, ixE fs e0.2, fD e0.2, rfl, rfl, .lst (SqL.of eL1) (dp_trs pL1), (tr.same sG).dp, shL, shaped_fD (ok _ m2).1 (ok _ m2).2, j1, j2, j3, ?_⟩
      exact ⟨Cc, _, ixE fs e0.1, ixE fs e0.2, rfl, eC, by omega, by omega, by omega, fun R G1 s1 nR eR => gname_go ⟨R, _, _, rfl, sG.trans s1, by rw [nx]; exact eR⟩⟩
    · rintro σ' G ⟨Cc, x4, x5, rfl, sG, eC⟩
      rw [List.length_map, lps, show eqF (leqsF facts fs) fs.length facts.length = initF fs.length (leqsF facts fs) from by unfold eqF leqsF; rw [← List.length_map (f := fun e : Fm × Fm => (ixE fs e.1, ixE fs e.2)), List.take_length]] at eC
      refine ⟨_, rfl, _, rfl, rk, L, z, b, us, fs, rfl, sG _ _ erk, hz, sG _ _ eL, paired_imp (fun _ _ h => h.same sG) pL, ok, cl, l100, fun Rw G1 s1 tR => gname_go ?_⟩
      try dsimp only
      have c0 := Clo.start (im := rowsF z b fs) eqb
      have lrw : (rowsF z b fs).length ≤ 700 := by
        have h1 := rowsG_len hz fs fs
        have h2 := calmP_len b fs.length
        unfold rowsF
        rw [List.length_append]
        omega
      have hmu := fun cs => mu_le fs.length cs
      have eC1 := s1 _ _ eC
      have sH1 := sG.trans s1
      generalize rowsF z b fs = rows at tR c0 lrw rbd q
      generalize leqsF facts fs = eqs at c0 eC eC1 eqb q
      refine ⟨_, rfl, L, us, rfl, .inl (SqL.of (sH1 _ _ eL)), _, rfl, by omega, by omega, ?_⟩
      refine for_it (walk_range (lo := 0) (n := ((us.length : Nat) : Int).toNat)) (fun i σ' G => ∃ (Cc : Addr) (cs : List Nat) (y4 x7 x8 x9 x10 x11 x12 x13 : Option V), σ' = [some (.ref rk), some (.ref L), some (.ref K9), some (.ref Cc), y4, x5, some (.ref Rw), x7, x8, x9, x10, x11, x12, x13] ∧ Same G1 G ∧ G Cc = some (.lst (intsV cs)) ∧ Clo eqs rows fs.length cs ∧ mu fs.length cs + i ≤ fs.length)
        ⟨Cc, _, _, _, _, _, _, _, _, _, rfl, Same.refl _, eC1, c0, hmu _⟩ (fun _ _ _ _ _ => trivial) ?_ ?_
      · rintro i9 x σ' G2 G2' hi ⟨Cc, cs, y4, x7, x8, x9, x10, x11, x12, x13, rfl, sG2, eC2, clo, hmi⟩ ⟨rfl, rfl⟩
        dsimp only
        rw [Int.zero_add]
        have lcs := clo.cls.len
        obtain ⟨clo', step⟩ := clo.pass rbd
        refine gname_go ?_
        try dsimp only
        refine ⟨_, rfl, Cc, _, rfl, .inl (SqL.of eC2), fun B nB D nD => ⟨_, _, rfl, ?_⟩⟩
        have s2 := (same_new (o := .lst (intsV cs)) nB).trans (same_new (o := .dT []) nD)
        have eB : (upd (upd G2' B (.lst (intsV cs))) D (.dT [])) B = some (.lst (intsV cs)) := same_new nD _ _ upd_same
        have mp0 : MP G2' D B rows cs (upd (upd G2' B (.lst (intsV cs))) D (.dT [])) Cc 0 0 := ⟨s2, s2 _ _ eC2, ⟨[], upd_same, Nat.zero_le _, fun k => rfl⟩, eB⟩
        have nDG : G2' D = none := none_back (same_new (o := .lst (intsV cs)) nB) nD
        generalize upd (upd G2' B (.lst (intsV cs))) D (.dT []) = G3 at mp0 ⊢
        clear s2 eB nD nB
        try dsimp only
        obtain ⟨rq, eRw, pRw⟩ := tR.same sG2
        have lrq := pRw.length
        refine ⟨_, rfl, Rw, rfl, ⟨_, SqL.of (mp0.sH _ _ eRw)⟩, ?_⟩
        refine for_it (walk_list (K := K) (a := Rw) (xs := rq.map V.ref)) (fun i σ' G => ∃ (Cc : Addr) (y4 x10 x11 x12 x13 : Option V), σ' = [some (.ref rk), some (.ref L), some (.ref K9), some (.ref Cc), y4, x5, some (.ref Rw), some (.int (i9 : Int)), some (.ref B), some (.ref D), x10, x11, x12, x13] ∧ MP G2' D B rows cs G Cc i 0)
          ⟨Cc, _, _, _, _, _, rfl, mp0⟩ (fun i σ' G _ h => by obtain ⟨_, _, _, _, _, _, _, m⟩ := h; exact SqL.of (m.sH _ _ eRw)) ?_ ?_
        · rintro i x σ' G G' hi ⟨Cc, y4, x10, x11, x12, x13, rfl, mp⟩ ⟨rfl, hx⟩
          rw [List.length_map] at hi
          have h1 : rq[i]? = some rq[i] := List.getElem?_eq_getElem hi
          have h2 : rows[i]? = some (rows[i]'(by omega)) := List.getElem?_eq_getElem (by omega)
          generalize rq[i] = q0 at h1
          generalize (rows[i]'(by omega)) = t at h2
          rw [List.getElem?_map, h1] at hx
          obtain rfl := Option.some.inj hx
          have hq0 : TrpAt G2' q0 t := paired_get2 pRw i _ _ h1 h2
          have bt := rbd t (List.mem_of_getElem? h2)
          refine gname_go ?_
          try dsimp only
          refine ⟨3, rfl, by decide, by decide, ?_⟩
          refine for_it (walk_range (lo := 0) (n := (3 : Int).toNat)) (fun j σ' G => ∃ (Cc : Addr) (y4 x11 x12 x13 : Option V), σ' = [some (.ref rk), some (.ref L), some (.ref K9), some (.ref Cc), y4, x5, some (.ref Rw), some (.int (i9 : Int)), some (.ref B), some (.ref D), some (.ref q0), x11, x12, x13] ∧ MP G2' D B rows cs G Cc i j)
            ⟨Cc, _, _, _, _, rfl, mp⟩ (fun _ _ _ _ _ => trivial) ?_ ?_
          · rintro j x σ' G4 G4' hj ⟨Cc, y4, x11, x12, x13, rfl, mp⟩ ⟨rfl, rfl⟩
            have hj : j < 3 := hj
            dsimp only
            rw [Int.zero_add]
            obtain ⟨pl, _, pm⟩ := preF_ok rows cs i j
            have nx := preF_next (cs := cs) h2 hj
            refine gname_go ?_
            try dsimp only
            refine ⟨_, rfl, Nat.le_of_ble_eq_true rfl, fun q1 n1 => ?_⟩
            have y1 := same_new (o := .tup [V.int (j : Int)]) n1
            have eq1 : (upd G4' q1 (.tup [V.int (j : Int)])) q1 = some (.tup [V.int (j : Int)]) := upd_same
            generalize upd G4' q1 (.tup [V.int (j : Int)]) = G5 at y1 eq1 ⊢
            have mp5 := mp.same y1
            have eT5 := mp5.sH _ _ hq0
            have l3 : (tV t).length = 3 := rfl
            refine ⟨_, rfl, _, rfl, _, rfl, slT_run eT5 fun R1 G6 s6 e6 => ?_⟩
            have j1 : ((j : Int) + 1) = ((j + 1 : Nat) : Int) := by omega
            refine ⟨_, rfl, _, rfl, _, _, rfl, rfl, _, rfl, ?_⟩
            dsimp only [tNoPart]
            refine slT_run (s6 _ _ eT5) fun R2 G7 s7 e7 => ?_
            rw [cutV_take (by omega)] at e6
            rw [j1, cutV_drop (by omega)] at e7
            refine catA_go (s7 _ _ e6) e7 (by rw [List.length_take, List.length_drop]; omega) fun R3 G8 s8 e8 => ⟨R3, rfl, ⟨_, SqT.of e8⟩, fun D2 nD2 => ?_⟩
            rw [row_rest hj] at e8
            have s58 := (s6.trans s7).trans s8
            have mp8 := mp5.same s58
            have b1' : ot1 j t < (preF rows cs i j).1.length := by rw [pl, lcs]; exact ot1_lt bt
            have b2' : ot2 j t < (preF rows cs i j).1.length := by rw [pl, lcs]; exact ot2_lt bt
            have bt1 : thg j t < (preF rows cs i j).1.length := by rw [pl, lcs]; exact thg_lt bt
            have bm1 : thg j (mateP (preF rows cs i j).2 (preF rows cs i j).1 t j) < (preF rows cs i j).1.length := by
              rw [pl, lcs]
              unfold mateP
              cases hl : lookK (preF rows cs i j).2 (keyP (preF rows cs i j).1 t j) with
              | none => exact thg_lt bt
              | some m => exact thg_lt (rbd m (pm _ (lookK_mem hl)))
            have e1' : (preF rows cs i (j + 1)).1 = stpC (preF rows cs i j).2 (preF rows cs i j).1 t j := by rw [nx]; rfl
            have e2' : (preF rows cs i (j + 1)).2 = seenP (preF rows cs i j).2 (preF rows cs i j).1 t j := by rw [nx]; rfl
            obtain ⟨sH8, ec8, ⟨kvs, eD8, lk8, vk8⟩, bf8⟩ := mp8
            clear mp5 mp y1 mp0
            have lpc : (preF rows cs i j).1.length ≤ 100 := by rw [pl, lcs]; exact l100
            generalize (preF rows cs i j).1 = cs1 at *
            generalize (preF rows cs i j).2 = S1 at *
            have eq8 := s58 _ _ eq1
            refine lc_it (walk_tup (K := K) (a := R3) (xs := [V.int (ot1 j t : Nat), V.int (ot2 j t : Nat)])) (fun i G => Same G8 G ∧ G D2 = some (.lst ([V.int (g0 cs1 (ot1 j t) : Nat), V.int (g0 cs1 (ot2 j t) : Nat)].take i))) ⟨same_new nD2, upd_same⟩ (fun i G _ h => SqT.of (h.1 _ _ e8)) ?_ ?_
            · rintro k y G9 G9' hk ⟨s9, eD2⟩ ⟨rfl, hy⟩
              have hk : k < 2 := hk
              have sC9 : SqL K G9' Cc (intsV cs1) := SqL.of (s9 _ _ ec8)
              refine ⟨rfl, ?_⟩
              unfold tYes
              dsimp only
              rw [if_pos rfl]
              rcases (show k = 0 ∨ k = 1 by omega) with rfl | rfl
              · obtain rfl := Option.some.inj hy
                exact ⟨_, rfl, _, rfl, Cc, _, _, _, rfl, rfl, sC9, at_ints b1', _, eD2, Nat.le_of_ble_eq_true rfl, same_pt nD2 s9, upd_same⟩
              · obtain rfl := Option.some.inj hy
                exact ⟨_, rfl, _, rfl, Cc, _, _, _, rfl, rfl, sC9, at_ints b2', _, eD2, Nat.le_of_ble_eq_true rfl, same_pt nD2 s9, upd_same⟩
            · rintro G9 ⟨s9, eD2⟩
              have eD2 : G9 D2 = some (.lst [V.int (g0 cs1 (ot1 j t) : Nat), V.int (g0 cs1 (ot2 j t) : Nat)]) := eD2
              refine ⟨D2, _, rfl, .inl ⟨SqL.of eD2, fun R4 nR4 => ?_⟩⟩
              have s10 := same_new (o := .tup [V.int (g0 cs1 (ot1 j t) : Nat), V.int (g0 cs1 (ot2 j t) : Nat)]) nR4
              refine catA_go (s10 _ _ (s9 _ _ eq8)) upd_same (Nat.le_of_ble_eq_true rfl) fun R5 G11 s11 e11 => gname_go ?_
              have sa := (s9.trans s10).trans s11
              have eKey : G11 R5 = some (.tup ((keyL (keyP cs1 t j)).map kV)) := e11
              have eD11 := sa _ _ eD8
              have hsH := sH8.trans sa
              have eT11 := hsH _ _ hq0
              have ec11 := sa _ _ ec8
              have bf11 := sa _ _ bf8
              try dsimp only
              refine ⟨_, rfl, D, rfl, .inr ⟨kvs, .inl eD11⟩, _, rfl, _, rfl, _, rfl, q0, _, _, _, rfl, rfl, SqT.of eT11, row_at hj t, _, DGet.t (k := keyL (keyP cs1 t j)) eD11 eKey, gname_go ?_⟩
              rw [vk8, mate_val]
              try dsimp only
              refine ⟨_, rfl, _, rfl, _, rfl, D, _, rfl, DPut.t (k := keyL (keyP cs1 t j)) eD11 eKey (by rw [sizeLine_eq]; omega), ?_⟩
              have sn12 := SeenL.put (G := G11) (D := D) lk8 vk8 cs1 t j
              have sH12 := same_pt (o := .dT (putK kvs (keyL (keyP cs1 t j)) (V.int (thg j (mateP S1 cs1 t j) : Nat)))) nDG hsH
              have ec12 : (upd G11 D (.dT (putK kvs (keyL (keyP cs1 t j)) (V.int (thg j (mateP S1 cs1 t j) : Nat))))) Cc = some (.lst (intsV cs1)) := by
                rw [upd_ne (ne_of ec11 eD11 (by intro z; cases z))]
                exact ec11
              have bf12 : (upd G11 D (.dT (putK kvs (keyL (keyP cs1 t j)) (V.int (thg j (mateP S1 cs1 t j) : Nat))))) B = some (.lst (intsV cs)) := by
                rw [upd_ne (ne_of bf11 eD11 (by intro z; cases z))]
                exact bf11
              try dsimp only
              generalize upd G11 D (.dT (putK kvs (keyL (keyP cs1 t j)) (V.int (thg j (mateP S1 cs1 t j) : Nat)))) = G12 at sn12 sH12 ec12 bf12 ⊢
              have sC12 : SqL K G12 Cc (intsV cs1) := SqL.of ec12
              have eT12 := sH12 _ _ hq0
              unfold stpC at e1'
              generalize mateP S1 cs1 t j = m at *
              have ed : decide (V.int (g0 cs1 (thg j m) : Nat) = V.int (g0 cs1 (thg j t) : Nat)) = decide (g0 cs1 (thg j m) = g0 cs1 (thg j t)) := decide_eq_decide.mpr ⟨fun h => by injection h with h; omega, fun h => by rw [h]⟩
              refine ⟨_, rfl, _, rfl, Cc, _, _, _, rfl, rfl, sC12, at_ints bm1, _, rfl, _, rfl, _, rfl, q0, _, _, _, rfl, rfl, SqT.of eT12, row_at hj t, Cc, _, _, _, rfl, rfl, sC12, at_ints bt1, rfl, _, rfl, ?_⟩
              have bd9 : 3 * i + j + 1 = 3 * i + (j + 1) := by omega
              rw [bd9, ← e2'] at sn12
              by_cases c : g0 cs1 (thg j m) = g0 cs1 (thg j t)
              · refine iteN2 (by rw [ed, decide_eq_true c]; rfl) ?_
                rw [if_pos c] at e1'
                exact ⟨Cc, _, _, _, _, rfl, sH12, by rw [e1']; exact ec12, sn12, bf12⟩
              · refine iteT2 (by rw [ed, decide_eq_false c]; rfl) ?_
                rw [if_neg c] at e1'
                refine ⟨_, rfl, _, rfl, _, rfl, _, rfl, q0, _, _, _, rfl, rfl, SqT.of eT12, row_at hj t, Cc, cs1, thg j m, thg j t, rfl, ec12, bm1, bt1, by omega, fun R G13 s13 nR eR => gname_go ?_⟩
                obtain ⟨kv, k1, k2, k3⟩ := sn12
                exact ⟨R, _, _, _, _, rfl, sH12.trans s13, by rw [e1']; exact eR, ⟨kv, s13 _ _ k1, k2, k3⟩, s13 _ _ bf12⟩
          · rintro σ' G4 ⟨Cc, y4, x11, x12, x13, rfl, mp⟩
            exact ⟨Cc, _, _, _, _, _, rfl, MP.next h2 mp⟩
        · rintro σ' G ⟨Cc, y4, x10, x11, x12, x13, rfl, mp⟩
          rw [List.length_map, lrq] at mp
          have ecl := mp.cl
          rw [preF_end] at ecl
          refine ⟨_, rfl, _, rfl, _, _, dp_intsL ecl, dp_intsL mp.bf, shaped_ints _, shaped_ints _, _, rfl, ?_⟩
          rw [intsD_eqv]
          have sF : Same H G := sH1.trans (sG2.trans mp.sH)
          by_cases c : passF rows cs = cs
          · rw [decide_eq_true c]
            refine iteT ?_
            refine ⟨_, rfl, q Cc _ G sF ecl clo'.cls.len fun i j hi hj => ?_⟩
            rw [c]
            exact clo.iff eqb rbd c hi hj
          · rw [decide_eq_false c]
            refine iteF ?_
            have lt := step.resolve_left c
            exact ⟨Cc, _, _, _, _, _, _, _, _, _, rfl, sG2.trans mp.sH, ecl, clo', by omega⟩
      · rintro σ' G2 ⟨Cc, cs, y4, x7, x8, x9, x10, x11, x12, x13, rfl, sG2, eC2, clo, hmi⟩
        have := mu_pos clo.cls n0
        omega
end
end L2.K19
set_option Elab.async false
set_option linter.all false
set_option maxRecDepth 100000
set_option maxHeartbeats 8000000
namespace L2.K19
open PySem PySem.Spec PyProof.Rows L2.Tb
open SX (S)
/-! ### the law's facts -/
abbrev s_lfacts : Stmt := top 70
abbrev N_lfacts : List Str := ["_law_purse_here", "_law_names_here", "_law_length", "_law_most", "_law_found", "_law_k", "_law_left_one"]
theorem sc_lfacts : FnScope N_lfacts ["_law_purse_here", "_law_names_here", "_law_length", "_law_most"] (defScope s_lfacts) := ⟨rfl, rfl, rfl, by decide +kernel, rfl, by decide +kernel, by decide +kernel⟩
abbrev s_lsides : Stmt := top 74
abbrev N_lsides : List Str := ["_law_known_facts", "_law_found", "_law_left_one", "_law_right_one"]
theorem sc_lsides : FnScope N_lsides ["_law_known_facts"] (defScope s_lsides) := ⟨rfl, rfl, rfl, by decide +kernel, rfl, by decide +kernel, by decide +kernel⟩
abbrev s_ltold_facts : Stmt := top 75
abbrev N_ltold_facts : List Str := ["_law_known_facts", "_law_left_one", "_law_right_one"]
theorem sc_ltold_facts : FnScope N_ltold_facts ["_law_known_facts"] (defScope s_ltold_facts) := ⟨rfl, rfl, rfl, by decide +kernel, rfl, by decide +kernel, by decide +kernel⟩
/-- a pair of formulas of the law stands at a -/
def PrW (H : Hp) (a : Addr) (e : Fm × Fm) : Prop := ∃ vl vr, H a = some (.tup [vl, vr]) ∧ TrW H vl e.1 ∧ TrW H vr e.2
theorem PrW.mono {H H' : Hp} {a : Addr} {e : Fm × Fm} (h : PrW H a e) (k : ∀ b xs, H b = some (.tup xs) → H' b = some (.tup xs)) : PrW H' a e := let ⟨l, r, e1, h1, h2⟩ := h; ⟨l, r, k _ _ e1, h1.mono k, h2.mono k⟩
theorem FactsW.prs {H : Hp} {F : Addr} {facts : List (Fm × Fm)} (h : FactsW H F facts) : ∃ ps : List Addr, H F = some (.lst (ps.map V.ref)) ∧ Paired (PrW H) ps facts := h
theorem Pk.put {G : Hp} {p a : Addr} {o : HO} (h : Pk G p) (n : a ≠ p) : Pk (upd G a o) p := by
  obtain ⟨g, m9, c, ep, r⟩ := h.ex
  exact ⟨g, m9, c, (upd_ne n.symm).trans ep, r⟩
def spLfacts : Sp := fun vs H Q _ => ∃ (p L : Addr) (ls : List (List Nat)) (n m : Nat), vs = [.ref p, .ref L, .int (n : Int), .int (m : Int)] ∧ Pk H p ∧ H L = some (.lst (ls.map nmV)) ∧ L ≠ p ∧ 0 < ls.length ∧ ls.length ≤ 100 ∧ (∀ l ∈ ls, nameB l = true) ∧ n ≤ 10 ∧ m ≤ 8 ∧
  ∀ (R : Addr) (facts : List (Fm × Fm)) (H' : Hp), SameB p H H' → Pk H' p → H R = none → FactsW H' R facts → facts.length = n → (∀ e ∈ facts, (e.1.ok = true ∧ e.1.ops ≤ m) ∧ e.2.ok = true ∧ e.2.ops ≤ m) → Q (.ref R) H'
def spLsides : Sp := fun vs H Q _ => ∃ (F : Addr) (facts : List (Fm × Fm)), vs = [.ref F] ∧ FactsW H F facts ∧ facts.length ≤ 10 ∧ ∀ (R : Addr) (us : List V) (H' : Hp), Same H H' → H' R = some (.lst us) → Paired (TrW H') us (sidesF facts) → Q (.ref R) H'
def spLtoldFacts (FC : Addr) : Sp := fun vs H Q _ => ∃ (F : Addr) (facts : List (Fm × Fm)), vs = [.ref F] ∧ FactsW H F facts ∧ facts.length ≤ 10 ∧ (∀ e ∈ facts, (e.1.ok = true ∧ e.1.ops ≤ 8) ∧ e.2.ok = true ∧ e.2.ops ≤ 8) ∧ ∀ (R : Addr) (H' : Hp), Same H H' → FactsAt FC H' R facts → Q (.ref R) H'
theorem sides_len (facts : List (Fm × Fm)) : (sidesF facts).length = 2 * facts.length := by
  induction facts with
  | nil => rfl
  | cons e l ih =>
    unfold sidesF at ih ⊢
    rw [List.flatMap_cons, List.length_append, ih, List.length_cons]
    simp
    omega
section
variable {P : Program} {w : World} {K : PySem.W.Frag} {mg : Str → Option Value} {base : Heap} {f : Addr} {fd : FuncData} {FC : Addr}
theorem c_lsides (F : FnP K "_law_sides" s_lsides f fd) (hm : mg "_law_sides" = some (.ref f)) : Cal P w K mg base 1 "_law_sides" spLsides := by
  have hnd := sc_lsides.nd
  refine cal_mk F hm sc_lsides (fun _ _ _ _ _ _ us hl => match us, hl with | [_], _ => rfl) (fun vs H Q E h => ?_) (fun cdv A outer s H vs Q E hr h => ?_)
  · obtain ⟨F9, facts, rfl, _⟩ := h
    rfl
  · obtain ⟨F9, facts, rfl, hF, few, q⟩ := h
    obtain ⟨ps, eF, pF⟩ := hF.prs
    have lps := pF.length
    refine ⟨_, (pss_cons (ps_set (i := 1) hnd rfl (by first | exact Or.inl rfl | exact Or.inr rfl) (pe_lst pa_nil))
      (pss_cons (ps_for PassesOwn.never (by rfl) (pi_list (pv 0)) (pg_tup (by rfl) (pgs_cons (pg_name (i := 2) hnd rfl (by first | exact Or.inl rfl | exact Or.inr rfl)) (pgs_cons (pg_name (i := 3) hnd rfl (by first | exact Or.inl rfl | exact Or.inr rfl)) pgs_nil)))
      (pss_one (ps_set (i := 1) hnd rfl (by first | exact Or.inl rfl | exact Or.inr rfl) (pe_op op_cat (pv 1) (pe_lst (pa_cons (pv 2) (pa_cons (pv 3) pa_nil)))))))
      (pss_one (ps_ret (pv 1))))), ?_⟩
    refine ⟨Nat.le_of_ble_eq_true rfl, fun R0 nR0 => gname_go ?_⟩
    try dsimp only
    have s0 := same_new (o := .lst []) nR0
    refine ⟨_, rfl, F9, rfl, ⟨_, SqL.of (s0 _ _ eF)⟩, ?_⟩
    refine for_it (walk_list (K := K) (a := F9) (xs := ps.map V.ref)) (fun i σ' G => Same H G ∧ ∃ (R : Addr) (x2 x3 : Option V) (us : List V), σ' = [some (.ref F9), some (.ref R), x2, x3] ∧ G R = some (.lst us) ∧ Paired (TrW G) us (sidesF (facts.take i))) ⟨s0, R0, _, _, [], rfl, upd_same, .nil⟩ (fun i σ' G _ h => SqL.of (h.1 _ _ eF)) ?_ ?_
    · rintro i x σ' G G' hi ⟨sG, R, x2, x3, us, rfl, eR, pR⟩ ⟨rfl, hx⟩
      rw [List.length_map] at hi
      have h1 : ps[i]? = some ps[i] := List.getElem?_eq_getElem hi
      have h2 : facts[i]? = some (facts[i]'(by omega)) := List.getElem?_eq_getElem (by omega)
      generalize ps[i] = p0 at h1
      generalize (facts[i]'(by omega)) = e0 at h2
      rw [List.getElem?_map, h1] at hx
      obtain rfl := Option.some.inj hx
      obtain ⟨vl, vr, ep, tl, tr⟩ := paired_get2 pF i _ _ h1 h2
      have lu := pR.length
      rw [sides_len, List.length_take] at lu
      have nxt : sidesF (facts.take (i + 1)) = sidesF (facts.take i) ++ [e0.1, e0.2] := by
        unfold sidesF
        rw [get_take h2, List.flatMap_append]
        rfl
      refine ⟨p0, _, rfl, SqT.of (sG _ _ ep), rfl, _, _, rfl, _, _, rfl, rfl, ?_⟩
      try dsimp only
      refine ⟨_, rfl, _, rfl, _, rfl, Nat.le_of_ble_eq_true rfl, fun L8 n8 => ?_⟩
      have s8 := same_new (o := .lst [vl, vr]) n8
      refine ⟨R, L8, us, [vl, vr], rfl, rfl, s8 _ _ eR, upd_same, by rw [sizeLine_eq]; simp only [List.length_cons, List.length_nil]; omega, fun L7 n7 => gname_go ?_⟩
      have s7 := same_new (o := .lst (us ++ [vl, vr])) n7
      have sa := s8.trans s7
      exact ⟨sG.trans sa, L7, _, _, us ++ [vl, vr], rfl, upd_same, by rw [nxt]; exact paired_app (paired_imp (fun _ _ h => h.same sa) pR) (.cons (tl.same (sG.trans sa)) (.cons (tr.same (sG.trans sa)) .nil))⟩
    · rintro σ' G ⟨sG, R, x2, x3, us, rfl, eR, pR⟩
      rw [List.length_map, lps, List.take_length] at pR
      exact ⟨_, rfl, q R us G sG eR pR⟩
theorem c_ltold_facts (T : Bt mg) (k_lmade : Cal P w K mg base 19 "_law_made" (spLmade FC 8)) (F : FnP K "_law_told_facts" s_ltold_facts f fd) (hm : mg "_law_told_facts" = some (.ref f)) : Cal P w K mg base 21 "_law_told_facts" (spLtoldFacts FC) := by
  have hnd := sc_ltold_facts.nd
  refine cal_mk F hm sc_ltold_facts (fun _ _ _ _ _ _ us hl => match us, hl with | [_], _ => rfl) (fun vs H Q E h => ?_) (fun cdv A outer s H vs Q E hr h => ?_)
  · obtain ⟨F9, facts, rfl, _⟩ := h
    rfl
  · obtain ⟨F9, facts, rfl, hF, few, ok, q⟩ := h
    obtain ⟨ps, eF, pF⟩ := hF.prs
    have lps := pF.length
    refine ⟨_, (pss_one (ps_ret (pe_callTy call_tuple_of (by rfl) T.m_tuple (by decide +kernel) (pa_cons (pe_lc (own := [("_law_left_one", 1), ("_law_right_one", 2)]) (tt := tYes) (g := (gTup K 2 (gCons (gName 1) (gCons (gName 2) gNil)))) (by rfl) hnd (pi_list (pv 0)) (blkOk_by (own := [("_law_left_one", 1), ("_law_right_one", 2)]) (N := N_ltold_facts) (sc := defScope s_ltold_facts) (by decide +kernel)) (fun _ _ _ _ _ => (pg_tup (by rfl) (pgs_cons (pg_name (i := 1) hnd rfl (by first | exact Or.inl rfl | exact Or.inr rfl)) (pgs_cons (pg_name (i := 2) hnd rfl (by first | exact Or.inl rfl | exact Or.inr rfl)) pgs_nil)))) (fun _ _ _ _ _ => pts_nil) (fun _ _ _ _ _ => (pe_tup (pa_cons (pe_cal k_lmade hr (by omega) (by rfl) (pa_cons (pv 1) pa_nil)) (pa_cons (pe_cal k_lmade hr (by omega) (by rfl) (pa_cons (pv 2) pa_nil)) pa_nil))))) pa_nil)))), ?_⟩
    refine ⟨_, rfl, F9, rfl, ⟨_, SqL.of eF⟩, fun D nD => ?_⟩
    refine lc_it (walk_list (K := K) (a := F9) (xs := ps.map V.ref)) (fun i G => Same H G ∧ ∃ as9 : List Addr, G D = some (.lst (as9.map V.ref)) ∧ Paired (fun p e => ∃ l r, G p = some (.tup [.ref l, .ref r]) ∧ FmAt FC G l e.1 ∧ FmAt FC G r e.2) as9 (facts.take i)) ⟨same_new nD, [], upd_same, .nil⟩ (fun i G _ h => SqL.of (h.1 _ _ eF)) ?_ ?_
    · rintro i x G G' hi ⟨sG, as9, eD, pD⟩ ⟨rfl, hx⟩
      rw [List.length_map] at hi
      have h1 : ps[i]? = some ps[i] := List.getElem?_eq_getElem hi
      have h2 : facts[i]? = some (facts[i]'(by omega)) := List.getElem?_eq_getElem (by omega)
      generalize ps[i] = p0 at h1
      generalize (facts[i]'(by omega)) = e0 at h2
      rw [List.getElem?_map, h1] at hx
      obtain rfl := Option.some.inj hx
      obtain ⟨vl, vr, ep, tl, tr⟩ := paired_get2 pF i _ _ h1 h2
      obtain ⟨⟨o1, p1⟩, o2, p2⟩ := ok e0 (List.mem_of_getElem? h2)
      have lD := pD.length
      rw [List.length_take] at lD
      refine ⟨p0, _, rfl, SqT.of (sG _ _ ep), rfl, _, _, rfl, _, _, rfl, rfl, rfl, ?_⟩
      unfold tYes
      dsimp only
      rw [if_pos rfl]
      have dl := Fm.dep_ops e0.1
      have dr := Fm.dep_ops e0.2
      refine ⟨_, rfl, vl, e0.1, rfl, tl.same sG, o1, p1, by omega, fun x1 G1 s1 f1 => ?_⟩
      refine ⟨_, rfl, vr, e0.2, rfl, tr.same (sG.trans s1), o2, p2, by omega, fun x2 G2 s2 f2 => ⟨Nat.le_of_ble_eq_true rfl, fun q9 n9 => ?_⟩⟩
      have s9 := same_new (o := .tup [V.ref x1, V.ref x2]) n9
      have e9 : (upd G2 q9 (.tup [V.ref x1, V.ref x2])) q9 = some (.tup [V.ref x1, V.ref x2]) := upd_same
      have sa := (s1.trans s2).trans s9
      have f1' := f1.same (s2.trans s9)
      have f2' := f2.same s9
      generalize upd G2 q9 (.tup [V.ref x1, V.ref x2]) = G3 at e9 sa f1' f2' ⊢
      have eD3 := sa _ _ eD
      have sB : SameB D G3 (upd G3 D (.lst (as9.map V.ref ++ [.ref q9]))) := fun b o n e => (upd_ne n).trans e
      have hD : ∃ xs, G3 D = some (.lst xs) := ⟨_, eD3⟩
      refine ⟨_, eD3, by rw [List.length_map, sizeLine_eq]; omega, same_pt nD (sG.trans sa), as9 ++ [q9], by rw [upd_same, List.map_append]; rfl, ?_⟩
      rw [get_take h2]
      refine paired_app (paired_imp (fun p e h => ?_) pD) (.cons ⟨x1, x2, by rw [upd_ne (ne_of e9 eD3 (by intro z; cases z))]; exact e9, f1'.B sB hD, f2'.B sB hD⟩ .nil)
      obtain ⟨l, r, h3, h4, h5⟩ := h
      exact ⟨l, r, by rw [upd_ne (ne_of (sa _ _ h3) eD3 (by intro z; cases z))]; exact sa _ _ h3, (h4.same sa).B sB hD, (h5.same sa).B sB hD⟩
    · rintro G ⟨sG, as9, eD, pD⟩
      rw [List.length_map, lps, List.take_length] at pD
      refine ⟨D, _, rfl, .inl ⟨SqL.of eD, fun R nR => ?_⟩⟩
      have sR := same_new (o := .tup (as9.map V.ref)) nR
      exact q R _ (sG.trans sR) ⟨as9, upd_same, paired_imp (fun p e ⟨l, r, h3, h4, h5⟩ => ⟨l, r, sR _ _ h3, h4.same sR, h5.same sR⟩) pD⟩
theorem c_lfacts (T : Bt mg) (k_pick : Cal P w K mg base 1 "_law_pick" spPick) (k_lform : Cal P w K mg base 10 "_law_form" (spLform 8)) (F : FnP K "_law_facts" s_lfacts f fd) (hm : mg "_law_facts" = some (.ref f)) : Cal P w K mg base 11 "_law_facts" spLfacts := by
  have hnd := sc_lfacts.nd
  refine cal_mk F hm sc_lfacts (fun _ _ _ _ _ _ us hl => match us, hl with | [_, _, _, _], _ => rfl) (fun vs H Q E h => ?_) (fun cdv A outer s H vs Q E hr h => ?_)
  · obtain ⟨p, L, ls, n, m, rfl, _⟩ := h
    rfl
  · obtain ⟨p, L, ls, n, m, rfl, hp, eL, nLp, l0, l100, hn, n10, m8, q⟩ := h
    refine ⟨_, (pss_cons (ps_set (i := 4) hnd rfl (by first | exact Or.inl rfl | exact Or.inr rfl) (pe_lst pa_nil))
      (pss_cons (ps_for PassesOwn.never (by rfl) (pi_range1 (by rfl) T.m_range (pa_cons (pv 2) pa_nil)) (pg_name (i := 5) hnd rfl (by first | exact Or.inl rfl | exact Or.inr rfl))
      (pss_cons (ps_set (i := 6) hnd rfl (by first | exact Or.inl rfl | exact Or.inr rfl) (pe_cal k_lform hr (by omega) (by rfl) (pa_cons (pv 0) (pa_cons (pv 1) (pa_cons (pe_cal k_pick hr (by omega) (by rfl) (pa_cons (pv 0) (pa_cons (pe_op op_add (pv 3) pe_int) pa_nil))) pa_nil)))))
      (pss_one (ps_expr (pe_bm PySem.F.plainAttrs_list PySem.F.slot_list_append PySem.F.type_list_append mt_append (pv 4) (pa_cons (pe_tup (pa_cons (pv 6) (pa_cons (pe_cal k_lform hr (by omega) (by rfl) (pa_cons (pv 0) (pa_cons (pv 1) (pa_cons (pe_cal k_pick hr (by omega) (by rfl) (pa_cons (pv 0) (pa_cons (pe_op op_add (pv 3) pe_int) pa_nil))) pa_nil)))) pa_nil))) pa_nil))))))
      (pss_one (ps_ret (pv 4))))), ?_⟩
    refine ⟨Nat.le_of_ble_eq_true rfl, fun R nR => gname_go ?_⟩
    try dsimp only
    have s0 := same_new (o := .lst []) nR
    have nRp : R ≠ p := hp.ne nR
    refine ⟨_, rfl, _, rfl, by omega, by omega, ?_⟩
    refine for_it (walk_range (lo := 0) (n := ((n : Nat) : Int).toNat)) (fun i σ' G => SameB p H G ∧ Pk G p ∧ ∃ (x5 x6 : Option V) (ps : List Addr) (facts : List (Fm × Fm)), σ' = [some (.ref p), some (.ref L), some (.int (n : Int)), some (.int (m : Int)), some (.ref R), x5, x6] ∧ G R = some (.lst (ps.map V.ref)) ∧ Paired (PrW G) ps facts ∧ facts.length = i ∧ (∀ e ∈ facts, (e.1.ok = true ∧ e.1.ops ≤ m) ∧ e.2.ok = true ∧ e.2.ops ≤ m))
      ⟨.of s0, hp.same s0, _, _, [], [], rfl, upd_same, .nil, rfl, fun _ h => by cases h⟩ (fun _ _ _ _ _ => trivial) ?_ ?_
    · rintro i x σ' G G' hi ⟨bG, pk, x5, x6, ps, facts, rfl, eR, pR, lf, okf⟩ ⟨rfl, rfl⟩
      have hi : i < n := by omega
      have m200 : m + 1 < 2 ^ 200 := Nat.lt_of_le_of_lt (Nat.add_le_add_right m8 1) (by decide)
      refine gname_go ?_
      try dsimp only
      have em : ((m + 1 : Nat) : Int) = (m : Int) + 1 := by omega
      have nRp' := nRp
      refine ⟨_, rfl, _, rfl, _, rfl, _, rfl, _, _, rfl, rfl, p, m + 1, by rw [em]; rfl, pk, by omega, m200, fun k1 G1 hk1 b1 pk1 => ?_⟩
      refine ⟨p, L, ls, k1, rfl, pk1, b1 _ _ nLp (bG _ _ nLp eL), nLp, l0, l100, hn, by omega, by omega, fun v1 f1 G2 b2 pk2 t1 ok1 o1 => gname_go ?_⟩
      try dsimp only
      have b12 := b1.trans b2
      have eR2 := b12 _ _ nRp eR
      refine ⟨_, rfl, .inl ⟨rfl, _, SqL.of eR2⟩, _, rfl, _, rfl, _, rfl, _, rfl, _, rfl, _, _, rfl, rfl, p, m + 1, by rw [em]; rfl, pk2, by omega, m200, fun k2 G3 hk2 b3 pk3 => ?_⟩
      refine ⟨p, L, ls, k2, rfl, pk3, b3 _ _ nLp (b12 _ _ nLp (bG _ _ nLp eL)), nLp, l0, l100, hn, by omega, by omega, fun v2 f2 G4 b4 pk4 t2 ok2 o2 => ⟨Nat.le_of_ble_eq_true rfl, fun q9 n9 => ?_⟩⟩
      have s9 := same_new (o := .tup [v1, v2]) n9
      have b34 := b3.trans b4
      have e9 : (upd G4 q9 (.tup [v1, v2])) q9 = some (.tup [v1, v2]) := upd_same
      have t1' := (t1.B pk2 b34).same s9
      have t2' := t2.same s9
      have bAll : SameB p G' (upd G4 q9 (.tup [v1, v2])) := (b12.trans b34).trans (.of s9)
      have pk5 := pk4.same s9
      generalize upd G4 q9 (.tup [v1, v2]) = G5 at e9 t1' t2' bAll pk5 ⊢
      have eR5 := bAll _ _ nRp eR
      have lp := pR.length
      have k3 : ∀ b xs, G5 b = some (.tup xs) → (upd G5 R (.lst (ps.map V.ref ++ [.ref q9]))) b = some (.tup xs) := fun b xs e => by
        rw [upd_ne (ne_of e eR5 (by intro z; cases z))]
        exact e
      have bR : SameB p H (upd G5 R (.lst (ps.map V.ref ++ [.ref q9]))) := fun b o nb e => by
        rw [upd_ne (ne_of_none e nR)]
        exact bAll _ _ nb (bG _ _ nb e)
      have pkR : Pk (upd G5 R (.lst (ps.map V.ref ++ [.ref q9]))) p := pk5.put nRp
      refine ⟨R, ps.map V.ref, _, rfl, rfl, eR5, by rw [List.length_map, sizeLine_eq]; omega, bR, pkR, _, _, ps ++ [q9], facts ++ [(f1, f2)], rfl, by rw [upd_same, List.map_append]; rfl, ?_, by rw [List.length_append, List.length_singleton]; omega, fun e he => ?_⟩
      · exact paired_app (paired_imp (fun _ _ h => (h.mono (tup_keep pk bAll)).mono k3) pR) (.cons ⟨v1, v2, k3 _ _ e9, t1'.mono k3, t2'.mono k3⟩ .nil)
      · rcases List.mem_append.mp he with he | he
        · exact okf e he
        · rw [List.mem_singleton.mp he]
          exact ⟨⟨ok1, show f1.ops ≤ m by omega⟩, ok2, show f2.ops ≤ m by omega⟩
    · rintro σ' G ⟨bG, pk, x5, x6, ps, facts, rfl, eR, pR, lf, okf⟩
      exact ⟨_, rfl, q R facts G bG pk nR ⟨ps, eR, pR⟩ (by omega) okf⟩
end
end L2.K19
set_option Elab.async false
set_option linter.all false
set_option maxRecDepth 100000
set_option maxHeartbeats 8000000
namespace L2.K19
open PySem PySem.Spec PyProof.Rows L2.Tb
open SX (S)
/-! ### wider formulas -/
abbrev s_lwider : Stmt := top 71
abbrev N_lwider : List Str := ["_law_purse_here", "_law_ruled", "_law_form_here", "_law_right_one", "_law_plain"]
theorem sc_lwider : FnScope N_lwider ["_law_purse_here", "_law_ruled", "_law_form_here", "_law_right_one"] (defScope s_lwider) := ⟨rfl, rfl, rfl, by decide +kernel, rfl, by decide +kernel, by decide +kernel⟩
theorem sg0 : Str.ofString "*" = S (sgL 0) := by decide +kernel
theorem sg1 : Str.ofString "//" = S (sgL 1) := by decide +kernel
theorem sg2 : Str.ofString ">>" = S (sgL 2) := by decide +kernel
/-- a wider formula of f and g -/
def WidF (f g h : Fm) : Prop := h.ok = true ∧ (h.ops ≤ 2 * f.ops + 1 ∨ h.ops ≤ f.ops + 2 * g.ops + 2)
def spLwider : Sp := fun vs H Q _ => ∃ (p rk : Addr) (v w : V) (z : Str) (b : Bool) (f g : Fm), vs = [.ref p, .ref rk, v, w] ∧ Pk H p ∧ H rk = some (.tup [.str z, .bl b]) ∧ TrW H v f ∧ TrW H w g ∧ f.ok = true ∧ g.ok = true ∧ ∀ (u : V) (h : Fm) (H' : Hp), SameB p H H' → Pk H' p → TrW H' u h → WidF f g h → Q u H'
theorem mk_op {G : Hp} {q : Addr} {s : Nat} {x : Str} {v w : V} {l r : Fm} (n : G q = none) (hx : x = S (sgL s)) (hl : TrW G v l) (hr : TrW G w r) : TrW (upd G q (.tup [.str x, v, w])) (.ref q) (.op s l r) := by
  have s9 := same_new (o := .tup [.str x, v, w]) n
  exact .op (by rw [upd_same, hx]) (hl.same s9) (hr.same s9)
theorem two_R {G : Hp} {q1 q2 : Addr} {s1 s2 : Nat} {x1 x2 : Str} {a b c : V} {fa fb fc : Fm} (n1 : G q1 = none) (n2 : (upd G q1 (.tup [.str x2, b, c])) q2 = none) (e1 : x1 = S (sgL s1)) (e2 : x2 = S (sgL s2)) (ta : TrW G a fa) (tb : TrW G b fb) (tc : TrW G c fc) :
    Same G (upd (upd G q1 (.tup [.str x2, b, c])) q2 (.tup [.str x1, a, .ref q1])) ∧ TrW (upd (upd G q1 (.tup [.str x2, b, c])) q2 (.tup [.str x1, a, .ref q1])) (.ref q2) (.op s1 fa (.op s2 fb fc)) :=
  ⟨(same_new n1).trans (same_new n2), mk_op n2 e1 (ta.same (same_new n1)) (mk_op n1 e2 tb tc)⟩
theorem two_L {G : Hp} {q1 q2 : Addr} {s1 s2 : Nat} {x1 x2 : Str} {a b c : V} {fa fb fc : Fm} (n1 : G q1 = none) (n2 : (upd G q1 (.tup [.str x2, b, c])) q2 = none) (e1 : x1 = S (sgL s1)) (e2 : x2 = S (sgL s2)) (ta : TrW G a fa) (tb : TrW G b fb) (tc : TrW G c fc) :
    Same G (upd (upd G q1 (.tup [.str x2, b, c])) q2 (.tup [.str x1, .ref q1, a])) ∧ TrW (upd (upd G q1 (.tup [.str x2, b, c])) q2 (.tup [.str x1, .ref q1, a])) (.ref q2) (.op s1 (.op s2 fb fc) fa) :=
  ⟨(same_new n1).trans (same_new n2), mk_op n2 e1 (mk_op n1 e2 tb tc) (ta.same (same_new n1))⟩
section
variable {P : Program} {w : World} {K : PySem.W.Frag} {mg : Str → Option Value} {base : Heap} {f : Addr} {fd : FuncData}
theorem c_lwider (T : Bt mg) (k_pick : Cal P w K mg base 1 "_law_pick" spPick) (F : FnP K "_law_wider" s_lwider f fd) (hm : mg "_law_wider" = some (.ref f)) : Cal P w K mg base 2 "_law_wider" spLwider := by
  have hnd := sc_lwider.nd
  refine cal_mk F hm sc_lwider (fun _ _ _ _ _ _ us hl => match us, hl with | [_, _, _, _], _ => rfl) (fun vs H Q E h => ?_) (fun cdv A outer s H vs Q E hr h => ?_)
  · obtain ⟨p, rk, v, w9, z, b, f0, g0, rfl, _⟩ := h
    rfl
  · obtain ⟨p, rk, v, w9, z, b, f0, g0, rfl, hp, erk, tf, tg, okf, okg, q⟩ := h
    refine ⟨_, (pss_cons (ps_if (PW.pt (pw_and (pt_cmpR op_eq (pe_ix (show IxR _ (rIxT K) from ix_tup) (pv 2) pe_int (fun _ _ => rfl)) pe_str (nomark _)) (pw_and (pt_cmpR (show OpR _ (compareOp .In) (rIn K false) from op_in_seq) (pe_ix (show IxR _ (rIxT K) from ix_tup) (pv 1) pe_int (fun _ _ => rfl)) (pe_lst (pa_cons pe_str (pa_cons pe_str pa_nil))) (by rfl)) (pw_and1 (pt_cmpR op_eq (pe_cal k_pick hr (by omega) (by rfl) (pa_cons (pv 0) (pa_cons pe_int pa_nil))) pe_int (nomark _))))))
      (pss_one (ps_ret (pe_tup (pa_cons pe_str (pa_cons (pe_ix (show IxR _ (rIxT K) from ix_tup) (pv 2) pe_int (fun _ _ => rfl)) (pa_cons (pe_ix (show IxR _ (rIxT K) from ix_tup) (pv 2) pe_int (fun _ _ => rfl)) pa_nil))))))
      pss_nil)
      (pss_cons (ps_if (PW.pt (pw_and (pt_cmpR (show OpR _ (compareOp .In) (rIn K false) from op_in_seq) (pe_ix (show IxR _ (rIxT K) from ix_tup) (pv 1) pe_int (fun _ _ => rfl)) (pe_lst (pa_cons pe_str (pa_cons pe_str pa_nil))) (by rfl)) (pw_and1 (pt_cmpR op_eq (pe_cal k_pick hr (by omega) (by rfl) (pa_cons (pv 0) (pa_cons pe_int pa_nil))) pe_int (nomark _)))))
      (pss_one (ps_ret (pe_tup (pa_cons pe_str (pa_cons (pv 3) (pa_cons (pe_tup (pa_cons pe_str (pa_cons (pv 3) (pa_cons (pv 2) pa_nil)))) pa_nil))))))
      pss_nil)
      (pss_cons (ps_if (PW.pt (pw_and (pt_cmpR (show OpR _ (compareOp .In) (rIn K false) from op_in_seq) (pe_ix (show IxR _ (rIxT K) from ix_tup) (pv 1) pe_int (fun _ _ => rfl)) (pe_lst (pa_cons pe_str (pa_cons pe_str pa_nil))) (by rfl)) (pw_and1 (pt_cmpR op_eq (pe_cal k_pick hr (by omega) (by rfl) (pa_cons (pv 0) (pa_cons pe_int pa_nil))) pe_int (nomark _)))))
      (pss_one (ps_ret (pe_tup (pa_cons pe_str (pa_cons (pe_tup (pa_cons pe_str (pa_cons (pv 2) (pa_cons (pv 3) pa_nil)))) (pa_cons (pv 3) pa_nil))))))
      pss_nil)
      (pss_cons (ps_if (PW.pt (pw_and (pt_cmpR op_eq (pe_ix (show IxR _ (rIxT K) from ix_tup) (pv 1) pe_int (fun _ _ => rfl)) pe_str (nomark _)) (pw_and1 (pt_cmpR op_eq (pe_cal k_pick hr (by omega) (by rfl) (pa_cons (pv 0) (pa_cons pe_int pa_nil))) pe_int (nomark _)))))
      (pss_one (ps_ret (pe_tup (pa_cons pe_str (pa_cons (pv 3) (pa_cons (pe_tup (pa_cons pe_str (pa_cons (pv 2) (pa_cons (pv 3) pa_nil)))) pa_nil))))))
      pss_nil)
      (pss_cons (ps_if (PW.pt (pw_and (pt_val (pe_ix (show IxR _ (rIxT K) from ix_tup) (pv 1) pe_int (fun _ _ => rfl))) (pw_and1 (pt_cmpR op_eq (pe_cal k_pick hr (by omega) (by rfl) (pa_cons (pv 0) (pa_cons pe_int pa_nil))) pe_int (nomark _)))))
      (pss_one (ps_ret (pe_tup (pa_cons (pe_ix (show IxR _ (rIxL K) from ix_list) (pe_lst (pa_cons pe_str (pa_cons pe_str (pa_cons pe_str pa_nil)))) (pe_cal k_pick hr (by omega) (by rfl) (pa_cons (pv 0) (pa_cons pe_int pa_nil))) (fun _ _ => rfl)) (pa_cons (pv 2) (pa_cons (pv 2) pa_nil))))))
      pss_nil)
      (pss_cons (ps_set (i := 4) hnd rfl (by first | exact Or.inl rfl | exact Or.inr rfl) (pe_lst (pa_cons (pe_tup (pa_cons pe_str (pa_cons (pe_tup (pa_cons pe_str (pa_cons (pv 2) (pa_cons (pv 3) pa_nil)))) (pa_cons (pv 3) pa_nil)))) (pa_cons (pe_tup (pa_cons pe_str (pa_cons (pe_tup (pa_cons pe_str (pa_cons (pv 2) (pa_cons (pv 3) pa_nil)))) (pa_cons (pv 3) pa_nil)))) pa_nil))))
      (pss_cons (ps_expr (pe_bm PySem.F.plainAttrs_list PySem.F.slot_list_append PySem.F.type_list_append mt_append (pv 4) (pa_cons (pe_tup (pa_cons pe_str (pa_cons (pv 3) (pa_cons (pe_tup (pa_cons pe_str (pa_cons (pv 3) (pa_cons (pv 2) pa_nil)))) pa_nil)))) pa_nil)))
      (pss_cons (ps_set (i := 4) hnd rfl (by first | exact Or.inl rfl | exact Or.inr rfl) (pe_op op_cat (pv 4) (pe_lst (pa_cons (pe_tup (pa_cons pe_str (pa_cons (pv 3) (pa_cons (pe_tup (pa_cons pe_str (pa_cons (pv 3) (pa_cons (pv 2) pa_nil)))) pa_nil)))) (pa_cons (pe_tup (pa_cons pe_str (pa_cons (pv 3) (pa_cons (pe_tup (pa_cons pe_str (pa_cons (pv 2) (pa_cons (pv 3) pa_nil)))) pa_nil)))) pa_nil)))))
      (pss_cons (ps_expr (pe_bm PySem.F.plainAttrs_list PySem.F.slot_list_append PySem.F.type_list_append mt_append (pv 4) (pa_cons (pe_tup (pa_cons pe_str (pa_cons (pe_tup (pa_cons pe_str (pa_cons (pv 3) (pa_cons (pv 2) pa_nil)))) (pa_cons (pv 3) pa_nil)))) pa_nil)))
      (pss_one (ps_ret (pe_ix (show IxR _ (rIxL K) from ix_list) (pv 4) (pe_cal k_pick hr (by omega) (by rfl) (pa_cons (pv 0) (pa_cons pe_int pa_nil))) (fun _ _ => rfl))))))))))))), ?_⟩
    have two : (2 : Nat) < 2 ^ 200 := by decide
    have rkp : ∀ {G : Hp}, SameB p H G → G rk = some (.tup [.str z, .bl b]) := fun s => tup_keep hp s _ _ erk
    -- what is kept
    let Pv : St → Hp → Prop := fun σ' G => σ' = [some (.ref p), some (.ref rk), some v, some w9, none] ∧ SameB p H G ∧ Pk G p
    -- both nested
    have nestR : ∀ (G : Hp) (s1 s2 : Nat) (x1 x2 : Str) (a b1 c : V) (fa fb fc : Fm) (q1 q2 : Addr), SameB p H G → Pk G p → s1 < 3 → s2 < 3 → x1 = S (sgL s1) → x2 = S (sgL s2) → TrW G a fa → TrW G b1 fb → TrW G c fc → fa.ok = true → fb.ok = true → fc.ok = true → WidF f0 g0 (.op s1 fa (.op s2 fb fc)) → G q1 = none → (upd G q1 (.tup [.str x2, b1, c])) q2 = none → Q (.ref q2) (upd (upd G q1 (.tup [.str x2, b1, c])) q2 (.tup [.str x1, a, .ref q1])) := fun G s1 s2 x1 x2 a b1 c fa fb fc q1 q2 bG pk h1 h2 e1 e2 ta tb tc oa ob oc wd n1 n2 => by
      have y1 := same_new (o := .tup [.str x2, b1, c]) n1
      have y2 := same_new (o := .tup [.str x1, a, .ref q1]) n2
      exact q _ _ _ (bG.trans (.of (y1.trans y2))) (pk.same (y1.trans y2)) (mk_op n2 e1 (ta.same y1) (mk_op n1 e2 tb tc)) wd
    have nestL : ∀ (G : Hp) (s1 s2 : Nat) (x1 x2 : Str) (a b1 c : V) (fa fb fc : Fm) (q1 q2 : Addr), SameB p H G → Pk G p → s1 < 3 → s2 < 3 → x1 = S (sgL s1) → x2 = S (sgL s2) → TrW G a fa → TrW G b1 fb → TrW G c fc → fa.ok = true → fb.ok = true → fc.ok = true → WidF f0 g0 (.op s1 (.op s2 fb fc) fa) → G q1 = none → (upd G q1 (.tup [.str x2, b1, c])) q2 = none → Q (.ref q2) (upd (upd G q1 (.tup [.str x2, b1, c])) q2 (.tup [.str x1, .ref q1, a])) := fun G s1 s2 x1 x2 a b1 c fa fb fc q1 q2 bG pk h1 h2 e1 e2 ta tb tc oa ob oc wd n1 n2 => by
      have y1 := same_new (o := .tup [.str x2, b1, c]) n1
      have y2 := same_new (o := .tup [.str x1, .ref q1, a]) n2
      exact q _ _ _ (bG.trans (.of (y1.trans y2))) (pk.same (y1.trans y2)) (mk_op n2 e1 (mk_op n1 e2 tb tc) (ta.same y1)) wd
    -- a draw
    have pickq : ∀ (G : Hp) (Qc : Bool → Hp → Prop), SameB p H G → Pk G p → (∀ c G', SameB p H G' → Pk G' p → Qc c G') → tTest (tOp rEq (tCall spPick [] E0 (tCons (tVar 0) (tCons (tC (V.int 2)) tNil))) (tC (V.int 0))) [some (.ref p), some (.ref rk), some v, some w9, none] G Qc := fun G Qc bG pk h =>
      ⟨_, rfl, p, 2, rfl, pk, by decide, two, fun d G' _ b' pk' => ⟨rfl, _, rfl, h _ G' (bG.trans b') pk'⟩⟩
    -- a list of two words, the lot among them or not
    have inq : ∀ (G : Hp) (a1 a2 : Str) (Qc : Bool → Hp → Prop), SameB p H G → Pk G p → (∀ c G', SameB p H G' → Pk G' p → Qc c G') → tAnd (tTest (tOp (rIn K false) (tOp (rIxT K) (tVar 1) (tC (V.int 0))) (tLst (tCons (tC (V.str a1)) (tCons (tC (V.str a2)) tNil))))) (tTest (tOp rEq (tCall spPick [] E0 (tCons (tVar 0) (tCons (tC (V.int 2)) tNil))) (tC (V.int 0)))) [some (.ref p), some (.ref rk), some v, some w9, none] G Qc := fun G a1 a2 Qc bG pk h => by
      refine ⟨_, rfl, rk, _, _, .str z, rfl, rfl, SqT.of (rkp bG), atI_nat (j := 0) rfl, Nat.le_of_ble_eq_true rfl, fun L nL => ⟨L, _, rfl, .inl (SqL.of upd_same), rfl, rfl, _, rfl, ?_⟩⟩
      have sL := same_new (o := .lst [V.str a1, V.str a2]) nL
      have b1 := bG.trans (.of sL)
      have p1 := pk.same sL
      dsimp only
      generalize (if false = true then !inV (V.str z) [V.str a1, V.str a2] else inV (V.str z) [V.str a1, V.str a2]) = c
      cases c with
      | true => exact iteT (pickq _ _ b1 p1 h)
      | false => exact iteF (h _ _ b1 p1)
    have wdB : ∀ (s1 s2 : Nat) (fa fb fc : Fm), s1 < 3 → s2 < 3 → fa.ok = true → fb.ok = true → fc.ok = true → fa.ops + fb.ops + fc.ops ≤ f0.ops + 2 * g0.ops → WidF f0 g0 (.op s1 fa (.op s2 fb fc)) ∧ WidF f0 g0 (.op s1 (.op s2 fb fc) fa) := fun s1 s2 fa fb fc h1 h2 oa ob oc hl => ⟨⟨Fm.ok_mk h1 oa (Fm.ok_mk h2 ob oc), .inr (by simp only [Fm.ops]; omega)⟩, ⟨Fm.ok_mk h1 (Fm.ok_mk h2 ob oc) oa, .inr (by simp only [Fm.ops]; omega)⟩⟩
    refine seqx Pv ?_ fun hN => ?_
    · rintro σ' G ⟨rfl, bG, pk⟩
      refine seqx Pv ?_ fun hN => ?_
      · rintro σ' G ⟨rfl, bG, pk⟩
        refine seqx Pv ?_ fun hN => ?_
        · rintro σ' G ⟨rfl, bG, pk⟩
          refine seqx Pv ?_ fun hN => ?_
          · rintro σ' G ⟨rfl, bG, pk⟩
            refine seqx Pv ?_ fun hN => ?_
            · rintro σ' G ⟨rfl, bG, pk⟩
              have tfG := tf.B hp bG
              have tgG := tg.B hp bG
              refine ⟨_, rfl, _, rfl, Nat.le_of_ble_eq_true rfl, fun q1 n1 => ⟨_, rfl, Nat.le_of_ble_eq_true rfl, fun q2 n2 => ?_⟩⟩
              obtain ⟨y1, t1⟩ := two_L n1 n2 sg1 sg0 tgG tfG tgG
              generalize upd (upd G q1 _) q2 _ = G1 at y1 t1 ⊢
              refine ⟨_, rfl, _, rfl, Nat.le_of_ble_eq_true rfl, fun q3 n3 => ⟨_, rfl, Nat.le_of_ble_eq_true rfl, fun q4 n4 => ?_⟩⟩
              obtain ⟨y2, t2⟩ := two_L n3 n4 sg0 sg1 (tgG.same y1) (tfG.same y1) (tgG.same y1)
              generalize upd (upd G1 q3 _) q4 _ = G2 at y2 t2 ⊢
              refine ⟨Nat.le_of_ble_eq_true rfl, fun L nL => gname_go ?_⟩
              try dsimp only
              have nLG : G L = none := none_back (y1.trans y2) nL
              have y3 := same_new (o := .lst [V.ref q2, V.ref q4]) nL
              have eL : (upd G2 L (.lst [V.ref q2, V.ref q4])) L = some (.lst [V.ref q2, V.ref q4]) := upd_same
              have s03 := (y1.trans y2).trans y3
              have t1 := t1.same (y2.trans y3)
              have t2 := t2.same y3
              generalize upd G2 L (.lst [V.ref q2, V.ref q4]) = G3 at eL s03 t1 t2 ⊢
              refine ⟨_, rfl, .inl ⟨rfl, _, SqL.of eL⟩, _, rfl, _, rfl, _, rfl, Nat.le_of_ble_eq_true rfl, fun q5 n5 => ⟨Nat.le_of_ble_eq_true rfl, fun q6 n6 => ?_⟩⟩
              obtain ⟨y4, t3⟩ := two_R n5 n6 sg2 sg0 (tgG.same s03) (tgG.same s03) (tfG.same s03)
              generalize upd (upd G3 q5 _) q6 _ = G4 at y4 t3 ⊢
              have eL4 := y4 _ _ eL
              refine ⟨L, _, _, rfl, rfl, eL4, Nat.le_of_ble_eq_true rfl, ?_⟩
              have k5 : ∀ b xs, G4 b = some (.tup xs) → (upd G4 L (.lst ([V.ref q2, V.ref q4] ++ [V.ref q6]))) b = some (.tup xs) := fun b xs e => by
                rw [upd_ne (ne_of e eL4 (by intro z; cases z))]
                exact e
              have s05 : Same G (upd G4 L (.lst ([V.ref q2, V.ref q4] ++ [V.ref q6]))) := same_pt nLG (s03.trans y4)
              have eL5 : (upd G4 L (.lst ([V.ref q2, V.ref q4] ++ [V.ref q6]))) L = some (.lst [V.ref q2, V.ref q4, V.ref q6]) := upd_same
              have t1 := (t1.same y4).mono k5
              have t2 := (t2.same y4).mono k5
              have t3 := t3.mono k5
              try dsimp only
              generalize upd G4 L (.lst ([V.ref q2, V.ref q4] ++ [V.ref q6])) = G5 at s05 eL5 t1 t2 t3 ⊢
              clear k5 eL4 y4 eL s03
              refine ⟨_, rfl, _, rfl, _, rfl, _, rfl, Nat.le_of_ble_eq_true rfl, fun q7 n7 => ⟨Nat.le_of_ble_eq_true rfl, fun q8 n8 => ?_⟩⟩
              obtain ⟨y6, t4⟩ := two_R n7 n8 sg0 sg2 (tgG.same s05) (tgG.same s05) (tfG.same s05)
              generalize upd (upd G5 q7 _) q8 _ = G6 at y6 t4 ⊢
              refine ⟨_, rfl, _, rfl, _, rfl, Nat.le_of_ble_eq_true rfl, fun q9 n9 => ⟨Nat.le_of_ble_eq_true rfl, fun q10 n10 => ?_⟩⟩
              obtain ⟨y7, t5⟩ := two_R n9 n10 sg1 sg2 (tgG.same (s05.trans y6)) (tfG.same (s05.trans y6)) (tgG.same (s05.trans y6))
              generalize upd (upd G6 q9 _) q10 _ = G7 at y7 t5 ⊢
              refine ⟨Nat.le_of_ble_eq_true rfl, fun L2 nL2 => ⟨L, L2, _, _, rfl, rfl, same_new nL2 _ _ (y7 _ _ (y6 _ _ eL5)), upd_same, Nat.le_of_ble_eq_true rfl, fun L3 nL3 => gname_go ?_⟩⟩
              try dsimp only
              have y8 := (same_new (o := .lst [V.ref q8, V.ref q10]) nL2).trans (same_new (o := .lst ([V.ref q2, V.ref q4, V.ref q6] ++ [V.ref q8, V.ref q10])) nL3)
              have eL8 : (upd (upd G7 L2 (.lst [V.ref q8, V.ref q10])) L3 (.lst ([V.ref q2, V.ref q4, V.ref q6] ++ [V.ref q8, V.ref q10]))) L3 = some (.lst [V.ref q2, V.ref q4, V.ref q6, V.ref q8, V.ref q10]) := upd_same
              have nL3G : G L3 = none := none_back ((s05.trans (y6.trans y7)).trans (same_new (o := .lst [V.ref q8, V.ref q10]) nL2)) nL3
              have s08 := (s05.trans (y6.trans y7)).trans y8
              have t1 := t1.same ((y6.trans y7).trans y8)
              have t2 := t2.same ((y6.trans y7).trans y8)
              have t3 := t3.same ((y6.trans y7).trans y8)
              have t4 := t4.same (y7.trans y8)
              have t5 := t5.same y8
              generalize upd (upd G7 L2 (.lst [V.ref q8, V.ref q10])) L3 (.lst ([V.ref q2, V.ref q4, V.ref q6] ++ [V.ref q8, V.ref q10])) = G8 at eL8 s08 t1 t2 t3 t4 t5 ⊢
              refine ⟨_, rfl, .inl ⟨rfl, _, SqL.of eL8⟩, _, rfl, _, rfl, Nat.le_of_ble_eq_true rfl, fun q11 n11 => ⟨_, rfl, Nat.le_of_ble_eq_true rfl, fun q12 n12 => ?_⟩⟩
              obtain ⟨y9, t6⟩ := two_L n11 n12 sg2 sg1 (tgG.same s08) (tgG.same s08) (tfG.same s08)
              generalize upd (upd G8 q11 _) q12 _ = G9 at y9 t6 ⊢
              have eL9 := y9 _ _ eL8
              refine ⟨L3, _, _, rfl, rfl, eL9, Nat.le_of_ble_eq_true rfl, ?_⟩
              have k9 : ∀ b xs, G9 b = some (.tup xs) → (upd G9 L3 (.lst ([V.ref q2, V.ref q4, V.ref q6, V.ref q8, V.ref q10] ++ [V.ref q12]))) b = some (.tup xs) := fun b xs e => by
                rw [upd_ne (ne_of e eL9 (by intro z; cases z))]
                exact e
              have s09 : Same G (upd G9 L3 (.lst ([V.ref q2, V.ref q4, V.ref q6, V.ref q8, V.ref q10] ++ [V.ref q12]))) := same_pt nL3G (s08.trans y9)
              have eLa : (upd G9 L3 (.lst ([V.ref q2, V.ref q4, V.ref q6, V.ref q8, V.ref q10] ++ [V.ref q12]))) L3 = some (.lst [V.ref q2, V.ref q4, V.ref q6, V.ref q8, V.ref q10, V.ref q12]) := upd_same
              have t1 := (t1.same y9).mono k9
              have t2 := (t2.same y9).mono k9
              have t3 := (t3.same y9).mono k9
              have t4 := (t4.same y9).mono k9
              have t5 := (t5.same y9).mono k9
              have t6 := t6.mono k9
              try dsimp only
              generalize upd G9 L3 (.lst ([V.ref q2, V.ref q4, V.ref q6, V.ref q8, V.ref q10] ++ [V.ref q12])) = Ga at s09 eLa t1 t2 t3 t4 t5 t6 ⊢
              have pka := pk.same s09
              have nLp : L3 ≠ p := pk.ne nL3G
              refine ⟨_, rfl, _, rfl, p, 6, rfl, pka, by decide, by decide, fun d Gb hd bb pkb => ?_⟩
              have ba := (bG.trans (.of s09)).trans bb
              have w1 := wdB 1 0 g0 f0 g0 (by decide) (by decide) okg okf okg (by omega)
              have w2 := wdB 0 1 g0 f0 g0 (by decide) (by decide) okg okf okg (by omega)
              have w3 := wdB 2 0 g0 g0 f0 (by decide) (by decide) okg okg okf (by omega)
              have w4 := wdB 0 2 g0 g0 f0 (by decide) (by decide) okg okg okf (by omega)
              have w5 := wdB 1 2 g0 f0 g0 (by decide) (by decide) okg okf okg (by omega)
              have w6 := wdB 2 1 g0 g0 f0 (by decide) (by decide) okg okg okf (by omega)
              have six : ∃ (u : V) (h : Fm), [V.ref q2, V.ref q4, V.ref q6, V.ref q8, V.ref q10, V.ref q12][d]? = some u ∧ TrW Ga u h ∧ WidF f0 g0 h := by
                rcases (show d = 0 ∨ d = 1 ∨ d = 2 ∨ d = 3 ∨ d = 4 ∨ d = 5 by omega) with rfl | rfl | rfl | rfl | rfl | rfl
                · exact ⟨_, _, rfl, t1, w1.2⟩
                · exact ⟨_, _, rfl, t2, w2.2⟩
                · exact ⟨_, _, rfl, t3, w3.1⟩
                · exact ⟨_, _, rfl, t4, w4.1⟩
                · exact ⟨_, _, rfl, t5, w5.1⟩
                · exact ⟨_, _, rfl, t6, w6.2⟩
              obtain ⟨u, h, hu, th, wh⟩ := six
              exact ⟨L3, _, _, _, rfl, rfl, SqL.of (bb _ _ nLp eLa), atI_nat hu, q u h Gb ba pkb (th.B pka bb) wh⟩
            · -- calm
              have er := rkp bG
              refine ⟨_, rfl, rk, _, _, .bl b, rfl, rfl, SqT.of er, atI_nat (j := 1) rfl, b, rfl, ?_⟩
              cases b with
              | false => exact iteF (iteF (hN _ _ ⟨rfl, bG, pk⟩))
              | true =>
                refine iteT (pickq _ _ bG pk fun c G1 b1 p1 => ?_)
                cases c with
                | false => exact iteF (hN _ _ ⟨rfl, b1, p1⟩)
                | true =>
                  refine iteT ⟨Nat.le_of_ble_eq_true rfl, fun L nL => ?_⟩
                  have yL := same_new (o := .lst [V.str (Str.ofString "*"), V.str (Str.ofString "//"), V.str (Str.ofString ">>")]) nL
                  have eL : (upd G1 L (.lst [V.str (Str.ofString "*"), V.str (Str.ofString "//"), V.str (Str.ofString ">>")])) L = some (.lst [V.str (Str.ofString "*"), V.str (Str.ofString "//"), V.str (Str.ofString ">>")]) := upd_same
                  have p2 := p1.same yL
                  have b2 := b1.trans (.of yL)
                  have nLp : L ≠ p := p1.ne nL
                  generalize upd G1 L (.lst [V.str (Str.ofString "*"), V.str (Str.ofString "//"), V.str (Str.ofString ">>")]) = G2 at eL p2 b2 ⊢
                  refine ⟨_, rfl, p, 3, rfl, p2, by decide, by decide, fun d G3 hd b3 pk3 => ?_⟩
                  have b03 := b2.trans b3
                  have pickS : ∃ (s : Nat) (x : Str), s < 3 ∧ x = S (sgL s) ∧ [V.str (Str.ofString "*"), V.str (Str.ofString "//"), V.str (Str.ofString ">>")][d]? = some (.str x) := by
                    rcases (show d = 0 ∨ d = 1 ∨ d = 2 by omega) with rfl | rfl | rfl
                    · exact ⟨0, _, by decide, sg0, rfl⟩
                    · exact ⟨1, _, by decide, sg1, rfl⟩
                    · exact ⟨2, _, by decide, sg2, rfl⟩
                  obtain ⟨s8, x8, h8, e8, i8⟩ := pickS
                  refine ⟨L, _, _, _, rfl, rfl, SqL.of (b3 _ _ nLp eL), atI_nat i8, _, rfl, _, rfl, Nat.le_of_ble_eq_true rfl, fun q1 n1 => ?_⟩
                  have y1 := same_new (o := .tup [.str x8, v, v]) n1
                  exact q _ (.op s8 f0 f0) _ (b03.trans (.of y1)) (pk3.same y1) (mk_op n1 e8 (tf.B hp b03) (tf.B hp b03)) ⟨Fm.ok_mk h8 okf okf, .inl (by simp only [Fm.ops]; omega)⟩
          · -- round
            have er := rkp bG
            refine ⟨_, rfl, rk, _, _, .str z, rfl, rfl, SqT.of er, atI_nat (j := 0) rfl, rfl, _, rfl, ?_⟩
            generalize decide (V.str z = V.str (Str.ofString "round")) = c0
            cases c0 with
            | false => exact iteF (iteF (hN _ _ ⟨rfl, bG, pk⟩))
            | true =>
              refine iteT (pickq _ _ bG pk fun c G1 b1 p1 => ?_)
              cases c with
              | false => exact iteF (hN _ _ ⟨rfl, b1, p1⟩)
              | true =>
                refine iteT ⟨_, rfl, _, rfl, _, rfl, Nat.le_of_ble_eq_true rfl, fun q1 n1 => ⟨Nat.le_of_ble_eq_true rfl, fun q2 n2 => ?_⟩⟩
                exact nestR G1 0 0 _ _ w9 v w9 g0 f0 g0 q1 q2 b1 p1 (by decide) (by decide) sg0 sg0 (tg.B hp b1) (tf.B hp b1) (tg.B hp b1) okg okf okg (wdB 0 0 _ _ _ (by decide) (by decide) okg okf okg (by omega)).1 n1 n2
        · -- front
          refine inq _ _ _ _ bG pk fun c G1 b1 p1 => ?_
          cases c with
          | false => exact iteF (hN _ _ ⟨rfl, b1, p1⟩)
          | true =>
            refine iteT ⟨_, rfl, _, rfl, Nat.le_of_ble_eq_true rfl, fun q1 n1 => ⟨_, rfl, Nat.le_of_ble_eq_true rfl, fun q2 n2 => ?_⟩⟩
            exact nestL G1 0 0 _ _ w9 v w9 g0 f0 g0 q1 q2 b1 p1 (by decide) (by decide) sg0 sg0 (tg.B hp b1) (tf.B hp b1) (tg.B hp b1) okg okf okg (wdB 0 0 _ _ _ (by decide) (by decide) okg okf okg (by omega)).2 n1 n2
      · -- back
        refine inq _ _ _ _ bG pk fun c G1 b1 p1 => ?_
        cases c with
        | false => exact iteF (hN _ _ ⟨rfl, b1, p1⟩)
        | true =>
          refine iteT ⟨_, rfl, _, rfl, _, rfl, Nat.le_of_ble_eq_true rfl, fun q1 n1 => ⟨Nat.le_of_ble_eq_true rfl, fun q2 n2 => ?_⟩⟩
          exact nestR G1 0 0 _ _ w9 w9 v g0 g0 f0 q1 q2 b1 p1 (by decide) (by decide) sg0 sg0 (tg.B hp b1) (tg.B hp b1) (tf.B hp b1) okg okg okf (wdB 0 0 _ _ _ (by decide) (by decide) okg okg okf (by omega)).1 n1 n2
    · cases tf with
      | lt e =>
        rename_i a nm
        refine ⟨_, rfl, a, _, _, .str (S []), rfl, rfl, SqT.of e, atI_nat (j := 0) rfl, rfl, _, rfl, ?_⟩
        rw [show decide (V.str (S []) = V.str (Str.ofString "*")) = false by decide +kernel]
        exact iteF (iteF (hN _ _ ⟨rfl, .refl _ _, hp⟩))
      | op e hl hr_ =>
        rename_i a vl vr s9 l r
        refine ⟨_, rfl, a, _, _, .str (S (sgL s9)), rfl, rfl, SqT.of e, atI_nat (j := 0) rfl, rfl, _, rfl, ?_⟩
        obtain ⟨hs, okl, okr⟩ := Fm.ok_op okf
        rw [sg0, dec_str]
        by_cases c0 : sgL s9 = sgL 0
        · rw [decide_eq_true c0]
          refine iteT (inq _ _ _ _ (.refl _ _) hp fun c G1 b1 p1 => ?_)
          cases c with
          | false => exact iteF (hN _ _ ⟨rfl, b1, p1⟩)
          | true =>
            have e1 := tup_keep hp b1 _ _ e
            refine iteT ⟨_, rfl, a, _, _, vr, rfl, rfl, SqT.of e1, atI_nat (j := 2) rfl, _, rfl, a, _, _, vl, rfl, rfl, SqT.of e1, atI_nat (j := 1) rfl, Nat.le_of_ble_eq_true rfl, fun q1 n1 => ?_⟩
            have y1 := same_new (o := .tup [.str (S (sgL 0)), vr, vl]) n1
            exact q _ (.op 0 r l) _ (b1.trans (.of y1)) (p1.same y1) (mk_op n1 rfl (hr_.B hp b1) (hl.B hp b1)) ⟨Fm.ok_mk (by decide) okr okl, .inl (by simp only [Fm.ops]; omega)⟩
        · rw [decide_eq_false c0]
          exact iteF (iteF (hN _ _ ⟨rfl, .refl _ _, hp⟩))
end
end L2.K19
set_option Elab.async false
set_option linter.all false
set_option maxRecDepth 100000
set_option maxHeartbeats 8000000
namespace L2.K19
open PySem PySem.Spec PyProof.Rows L2.Tb
open SX (S)
/-! ### a pair of formulas -/
abbrev s_lpair : Stmt := top 72
abbrev N_lpair : List Str := ["_law_purse_here", "_law_ruled", "_law_names_here", "_law_left_one", "_law_near", "_law_right_one"]
theorem sc_lpair : FnScope N_lpair ["_law_purse_here", "_law_ruled", "_law_names_here"] (defScope s_lpair) := ⟨rfl, rfl, rfl, by decide +kernel, rfl, by decide +kernel, by decide +kernel⟩
def spLpair : Sp := fun vs H Q _ => ∃ (p rk L : Addr) (z : Str) (b : Bool) (ls : List (List Nat)), vs = [.ref p, .ref rk, .ref L] ∧ Pk H p ∧ H rk = some (.tup [.str z, .bl b]) ∧ H L = some (.lst (ls.map nmV)) ∧ L ≠ p ∧ 0 < ls.length ∧ ls.length ≤ 100 ∧ (∀ l ∈ ls, nameB l = true) ∧
  ∀ (R : Addr) (f g : Fm) (H' : Hp), SameB p H H' → Pk H' p → PrW H' R (f, g) → f.ok = true → f.ops ≤ 2 → g.ok = true → g.ops ≤ 7 → Q (.ref R) H'
section
variable {P : Program} {w : World} {K : PySem.W.Frag} {mg : Str → Option Value} {base : Heap} {f : Addr} {fd : FuncData}
theorem c_lpair (T : Bt mg) (k_pick : Cal P w K mg base 1 "_law_pick" spPick) (k_lkind : Cal P w K mg base 2 "_law_kind" spLkind) (k_lform : Cal P w K mg base 10 "_law_form" (spLform 8)) (k_lwider : Cal P w K mg base 2 "_law_wider" spLwider) (k_lsize : Cal P w K mg base 10 "_law_size" (spLsize 8)) (F : FnP K "_law_pair" s_lpair f fd) (hm : mg "_law_pair" = some (.ref f)) : Cal P w K mg base 11 "_law_pair" spLpair := by
  have hnd := sc_lpair.nd
  refine cal_mk F hm sc_lpair (fun _ _ _ _ _ _ us hl => match us, hl with | [_, _, _], _ => rfl) (fun vs H Q E h => ?_) (fun cdv A outer s H vs Q E hr h => ?_)
  · obtain ⟨p, rk, L, z, b, ls, rfl, _⟩ := h
    rfl
  · obtain ⟨p, rk, L, z, b, ls, rfl, hp, erk, eL, nLp, l0, l100, hn, q⟩ := h
    refine ⟨_, (pss_cons (ps_set (i := 3) hnd rfl (by first | exact Or.inl rfl | exact Or.inr rfl) (pe_cal k_lform hr (by omega) (by rfl) (pa_cons (pv 0) (pa_cons (pv 2) (pa_cons (pe_cal k_pick hr (by omega) (by rfl) (pa_cons (pv 0) (pa_cons pe_int pa_nil))) pa_nil)))))
      (pss_cons (ps_if (pt_cmpR op_eq (pe_cal k_pick hr (by omega) (by rfl) (pa_cons (pv 0) (pa_cons pe_int pa_nil))) pe_int (nomark _))
      (pss_one (ps_ret (pe_tup (pa_cons (pv 3) (pa_cons (pe_cal k_lform hr (by omega) (by rfl) (pa_cons (pv 0) (pa_cons (pv 2) (pa_cons (pe_cal k_pick hr (by omega) (by rfl) (pa_cons (pv 0) (pa_cons pe_int pa_nil))) pa_nil)))) pa_nil)))))
      pss_nil)
      (pss_cons (ps_set (i := 4) hnd rfl (by first | exact Or.inl rfl | exact Or.inr rfl) (pe_ifExp (pt_cmpR op_eq (pe_cal k_pick hr (by omega) (by rfl) (pa_cons (pv 0) (pa_cons pe_int pa_nil))) pe_int (nomark _)) (pe_cal k_lkind hr (by omega) (by rfl) (pa_cons (pv 0) pa_nil)) (pv 1)))
      (pss_cons (ps_set (i := 5) hnd rfl (by first | exact Or.inl rfl | exact Or.inr rfl) (pe_cal k_lwider hr (by omega) (by rfl) (pa_cons (pv 0) (pa_cons (pv 4) (pa_cons (pv 3) (pa_cons (pe_cal k_lform hr (by omega) (by rfl) (pa_cons (pv 0) (pa_cons (pv 2) (pa_cons (pe_cal k_pick hr (by omega) (by rfl) (pa_cons (pv 0) (pa_cons pe_int pa_nil))) pa_nil)))) pa_nil))))))
      (pss_cons (ps_if (PW.pt (pw_and (pt_cmpR op_lt (pe_cal k_lsize hr (by omega) (by rfl) (pa_cons (pv 5) pa_nil)) pe_int (nomark _)) (pw_and1 (pt_cmpR op_eq (pe_cal k_pick hr (by omega) (by rfl) (pa_cons (pv 0) (pa_cons pe_int pa_nil))) pe_int (nomark _)))))
      (pss_one (ps_set (i := 5) hnd rfl (by first | exact Or.inl rfl | exact Or.inr rfl) (pe_cal k_lwider hr (by omega) (by rfl) (pa_cons (pv 0) (pa_cons (pv 1) (pa_cons (pv 5) (pa_cons (pe_tup (pa_cons pe_str (pa_cons (pe_ix (show IxR _ (rIxL K) from ix_list) (pv 2) pe_int (fun _ _ => rfl)) pa_nil))) pa_nil)))))))
      pss_nil)
      (pss_one (ps_ret (pe_tup (pa_cons (pv 3) (pa_cons (pv 5) pa_nil)))))))))), ?_⟩
    have p200 : ∀ n : Nat, n ≤ 10 → n < 2 ^ 200 := fun n h => Nat.lt_of_le_of_lt h (by decide)
    have rkp : ∀ {G : Hp}, SameB p H G → G rk = some (.tup [.str z, .bl b]) := fun s => tup_keep hp s _ _ erk
    have eLp : ∀ {G : Hp}, SameB p H G → G L = some (.lst (ls.map nmV)) := fun s => s _ _ nLp eL
    refine ⟨_, rfl, _, rfl, _, rfl, p, 3, rfl, hp, by decide, p200 3 (by decide), fun k1 G1 hk1 b1 pk1 => ?_⟩
    refine ⟨p, L, ls, k1, rfl, pk1, eLp b1, nLp, l0, l100, hn, by omega, by omega, fun v1 f1 G2 b2 pk2 t1 ok1 o1 => gname_go ?_⟩
    try dsimp only
    have b02 := b1.trans b2
    refine ⟨_, rfl, p, 2, rfl, pk2, by decide, p200 2 (by decide), fun d G3 hd b3 pk3 => ⟨rfl, _, rfl, ?_⟩⟩
    have b03 := b02.trans b3
    have t1 := t1.B pk2 b3
    generalize decide (V.int (d : Int) = V.int 0) = c
    cases c with
    | true =>
      refine iteT ⟨_, rfl, _, rfl, _, rfl, _, rfl, p, 4, rfl, pk3, by decide, p200 4 (by decide), fun k2 G4 hk2 b4 pk4 => ?_⟩
      have b04 := b03.trans b4
      refine ⟨p, L, ls, k2, rfl, pk4, eLp b04, nLp, l0, l100, hn, by omega, by omega, fun v2 f2 G5 b5 pk5 t2 ok2 o2 => ⟨Nat.le_of_ble_eq_true rfl, fun q9 n9 => ?_⟩⟩
      have s9 := same_new (o := .tup [v1, v2]) n9
      exact q q9 f1 f2 _ ((b04.trans b5).trans (.of s9)) (pk5.same s9) ⟨v1, v2, upd_same, ((t1.B pk3 (b4.trans b5))).same s9, t2.same s9⟩ ok1 (by omega) ok2 (by omega)
    | false =>
      refine iteF ?_
      try dsimp only [tNext]
      refine asg_cut (fun v G => ∃ (kd : Addr) (z' : Str) (b' : Bool), v = .ref kd ∧ SameB p H G ∧ Pk G p ∧ TrW G v1 f1 ∧ G kd = some (.tup [.str z', .bl b'])) ?_ fun hQ => ?_
      · rintro v G ⟨kd, z', b', rfl, bG, pk, t1, ekd⟩
        refine gname_go ?_
        try dsimp only
        have fin : ∀ (G : Hp) (u : V) (h : Fm) (q9 : Addr), SameB p H G → Pk G p → TrW G v1 f1 → TrW G u h → h.ok = true → h.ops ≤ 7 → G q9 = none → Q (.ref q9) (upd G q9 (.tup [v1, u])) := fun G u h q9 bG pk t1 th okh oh n9 => by
          have s9 := same_new (o := .tup [v1, u]) n9
          exact q q9 f1 h _ (bG.trans (.of s9)) (pk.same s9) ⟨v1, u, upd_same, t1.same s9, th.same s9⟩ ok1 (by omega) okh oh
        refine ⟨_, rfl, _, rfl, _, rfl, _, rfl, _, rfl, _, rfl, p, 2, rfl, pk, by decide, p200 2 (by decide), fun k3 G5 hk3 b5 pk5 => ?_⟩
        have t1 := t1.B pk b5
        have ekd := tup_keep pk b5 _ _ ekd
        have b05 := bG.trans b5
        refine ⟨p, L, ls, k3, rfl, pk5, eLp b05, nLp, l0, l100, hn, by omega, by omega, fun v2 g1 G6 b6 pk6 t2 ok2 o2 => ?_⟩
        have t1 := t1.B pk5 b6
        have ekd := tup_keep pk5 b6 _ _ ekd
        have b06 := b05.trans b6
        refine ⟨p, kd, v1, v2, z', b', f1, g1, rfl, pk6, ekd, t1, t2, ok1, ok2, fun u h G7 b7 pk7 th wh => gname_go ?_⟩
        have t1 := t1.B pk6 b7
        have b07 := b06.trans b7
        obtain ⟨okh, oh⟩ := wh
        have dh := Fm.dep_ops h
        have oh6 : h.ops ≤ 6 := by omega
        try dsimp only
        refine ⟨_, rfl, u, h, rfl, th, by omega, by omega, _, _, rfl, rfl, _, rfl, ?_⟩
        by_cases h4 : (h.ops : Int) < 4
        · rw [decide_eq_true h4]
          refine iteT ⟨_, rfl, p, 2, rfl, pk7, by decide, p200 2 (by decide), fun d G8 hd b8 pk8 => ⟨rfl, _, rfl, ?_⟩⟩
          have t1 := t1.B pk7 b8
          have th := th.B pk7 b8
          have b08 := b07.trans b8
          generalize decide (V.int (d : Int) = V.int 0) = c
          cases c with
          | false => exact iteF ⟨_, rfl, _, rfl, Nat.le_of_ble_eq_true rfl, fun q9 n9 => fin _ _ _ _ b08 pk8 t1 th okh (by omega) n9⟩
          | true =>
            obtain ⟨l, hl, el⟩ := name_at (ls := ls) l0
            refine iteT ⟨_, rfl, _, rfl, _, rfl, _, rfl, L, _, _, .str (S l), rfl, rfl, SqL.of (eLp b08), atI_nat (j := 0) el, Nat.le_of_ble_eq_true rfl, fun q1 n1 => ?_⟩
            have y1 := same_new (o := .tup [V.str (Str.ofString ""), .str (S l)]) n1
            have tl : TrW (upd G8 q1 (.tup [V.str (Str.ofString ""), .str (S l)])) (.ref q1) (.lt l) := .lt (by rw [upd_same, cons_S])
            have t1 := t1.same y1
            have th := th.same y1
            have pk9 := pk8.same y1
            have b09 := b08.trans (.of y1)
            generalize upd G8 q1 (.tup [V.str (Str.ofString ""), .str (S l)]) = G9 at tl t1 th pk9 b09 ⊢
            refine ⟨p, rk, u, .ref q1, z, b, h, .lt l, rfl, pk9, rkp b09, th, tl, okh, hn l hl, fun u' h' G10 b10 pk10 th' wh' => gname_go ?_⟩
            obtain ⟨okh', oh'⟩ := wh'
            simp only [Fm.ops] at oh'
            try dsimp only
            exact ⟨_, rfl, _, rfl, Nat.le_of_ble_eq_true rfl, fun q9 n9 => fin _ _ _ _ (b09.trans b10) pk10 (t1.B pk9 b10) th' okh' (by omega) n9⟩
        · rw [decide_eq_false h4]
          exact iteF (iteF ⟨_, rfl, _, rfl, Nat.le_of_ble_eq_true rfl, fun q9 n9 => fin _ _ _ _ b07 pk7 t1 th okh (by omega) n9⟩)
      · refine ⟨_, rfl, p, 3, rfl, pk3, by decide, p200 3 (by decide), fun d G4 hd b4 pk4 => ⟨rfl, _, rfl, ?_⟩⟩
        have t1 := t1.B pk3 b4
        have b04 := b03.trans b4
        generalize decide (V.int (d : Int) = V.int 0) = c
        cases c with
        | true =>
          refine iteT ⟨_, rfl, p, rfl, pk4, fun kd z' b' G5 hz' b5 pk5 ekd => hQ _ _ ⟨kd, z', b', rfl, b04.trans b5, pk5, t1.B pk4 b5, ekd⟩⟩
        | false => exact iteF ⟨_, rfl, hQ _ _ ⟨rk, z, b, rfl, b04, pk4, t1, rkp b04⟩⟩
end
end L2.K19
set_option Elab.async false
set_option linter.all false
set_option maxRecDepth 100000
set_option maxHeartbeats 8000000
namespace L2.K19
open PySem PySem.Spec PyProof.Rows L2.Tb
open SX (S)
/-! ### a text is the text of one formula only -/
/-- what may follow a name -/
def EndB (x : List Nat) : Bool := match x with | [] => true | c :: _ => !signB c
theorem take_sign {n x : List Nat} (hn : nameB n = true) (hx : EndB x = true) : (n ++ x).takeWhile signB = n := by
  have all : ∀ c ∈ n, signB c = true := by
    cases n with
    | nil => exact fun c hc => by cases hc
    | cons a r =>
      simp only [nameB, Bool.and_eq_true] at hn
      intro c hc
      rcases List.mem_cons.mp hc with rfl | hc
      · simp only [signB, hn.1, Bool.true_or]
      · exact List.all_eq_true.mp hn.2.2 c hc
  rw [List.takeWhile_append_of_pos all]
  cases x with
  | nil => rw [List.takeWhile_nil, List.append_nil]
  | cons c r =>
    have : signB c = false := by simpa [EndB] using hx
    rw [List.takeWhile_cons, if_neg (by rw [this]; decide), List.append_nil]
theorem sg_cut : ∀ s, s < 3 → ∀ t, t < 3 → ∀ x y : List Nat, sgL s ++ (32 :: x) = sgL t ++ (32 :: y) → s = t ∧ x = y := by
  intro s hs t ht x y h
  rcases (show s = 0 ∨ s = 1 ∨ s = 2 by omega) with rfl | rfl | rfl <;> rcases (show t = 0 ∨ t = 1 ∨ t = 2 by omega) with rfl | rfl | rfl <;> simp [sgL] at h ⊢ <;> exact h
theorem head_name {n x : List Nat} (hn : nameB n = true) : ∀ y, n ++ x ≠ 40 :: y := by
  intro y h
  cases n with
  | nil => cases hn
  | cons a r =>
    simp only [nameB, lowB, Bool.and_eq_true, Nat.ble_eq] at hn
    injection h with h _
    omega
theorem txt_cut : ∀ (f g : Fm), f.ok = true → g.ok = true → ∀ x y : List Nat, EndB x = true → EndB y = true → f.txt ++ x = g.txt ++ y → f = g ∧ x = y
  | .lt n, .lt m, hf, hg, x, y, hx, hy, h => by
    have h1 := take_sign (show nameB n = true from hf) hx
    have h2 := take_sign (show nameB m = true from hg) hy
    have h : n ++ x = m ++ y := h
    rw [h, h2] at h1
    subst h1
    exact ⟨rfl, List.append_cancel_left h⟩
  | .lt n, .op t l2 r2, hf, hg, x, y, hx, hy, h => absurd (show n ++ x = 40 :: _ from h) (head_name hf _)
  | .op s l r, .lt m, hf, hg, x, y, hx, hy, h => absurd (show m ++ y = 40 :: _ from h.symm) (head_name hg _)
  | .op s l r, .op t l2 r2, hf, hg, x, y, hx, hy, h => by
    obtain ⟨hs, hl, hr⟩ := Fm.ok_op hf
    obtain ⟨ht, hl2, hr2⟩ := Fm.ok_op hg
    have h : l.txt ++ (32 :: (sgL s ++ (32 :: (r.txt ++ (41 :: x))))) = l2.txt ++ (32 :: (sgL t ++ (32 :: (r2.txt ++ (41 :: y))))) := by
      simp only [Fm.txt, List.append_assoc, List.cons_append, List.nil_append] at h
      exact (List.cons.inj h).2
    obtain ⟨e1, h1⟩ := txt_cut l l2 hl hl2 _ _ rfl rfl h
    obtain ⟨e2, h2⟩ := sg_cut s hs t ht _ _ (List.cons.inj h1).2
    obtain ⟨e3, h3⟩ := txt_cut r r2 hr hr2 _ _ rfl rfl h2
    exact ⟨by rw [e1, e2, e3], (List.cons.inj h3).2⟩
theorem txt_inj {f g : Fm} (hf : f.ok = true) (hg : g.ok = true) (h : f.txt = g.txt) : f = g := (txt_cut f g hf hg [] [] rfl rfl (by rw [h])).1
theorem txt_dec {f g : Fm} (hf : f.ok = true) (hg : g.ok = true) : decide (f.txt = g.txt) = decide (f = g) := decide_eq_decide.mpr ⟨txt_inj hf hg, fun h => by rw [h]⟩
/-! ### both closings are one -/
def phi (as : List Fm) (j : Fm → Nat) (i : Nat) : Nat := match as[i]? with
  | some x => j x
  | none => 0
def mapT (φ : Nat → Nat) (t : Trp) : Trp := (φ t.1, φ t.2.1, φ t.2.2)
theorem pl_map (φ : Nat → Nat) (t : Trp) (i : Int) : φ (pl t i) = pl (mapT φ t) i := by
  unfold pl mapT
  by_cases h : i = 0
  · rw [if_pos h, if_pos h]
  · rw [if_neg h, if_neg h]
    by_cases h2 : i = 1
    · rw [if_pos h2, if_pos h2]
    · rw [if_neg h2, if_neg h2]
theorem mapT_img (φ : Nat → Nat) (t : Trp) (u : Turn) : mapT φ (imgT t u) = imgT (mapT φ t) u := Prod.ext (pl_map φ t _) (Prod.ext (pl_map φ t _) (pl_map φ t _))
theorem mapT_trS (φ : Nat → Nat) (s a b c : Nat) : mapT φ (trS s a b c) = trS s (φ a) (φ b) (φ c) := by
  unfold trS
  split <;> rfl
theorem ixX_at {fs : List Fm} (ok : ∀ g ∈ fs, g.ok = true) {x : Fm} (hx : x ∈ fs) : fs[ixX fs x.txt]? = some x := by
  have lt : ixX fs x.txt < fs.length := List.findIdx_lt_length_of_exists ⟨x, hx, decide_eq_true rfl⟩
  have e : (fs[ixX fs x.txt]'lt).txt = x.txt := of_decide_eq_true (List.findIdx_getElem (w := lt) (p := fun f : Fm => decide (f.txt = x.txt)))
  rw [List.getElem?_eq_getElem lt, txt_inj (ok _ (List.getElem_mem lt)) (ok x hx) e]
theorem same_parts {facts : List (Fm × Fm)} {gs gs' : List Fm} (hg : ∀ x, x ∈ gs ↔ x ∈ gs') (ok : ∀ x ∈ sidesF facts ++ gs, x.ok = true) (x : Fm) : x ∈ tabF facts gs ↔ x ∈ lpartsF (sidesF facts ++ gs') := by
  have hz : ∀ x, x ∈ sidesF facts ++ gs ↔ x ∈ sidesF facts ++ gs' := fun x => by rw [List.mem_append, List.mem_append, hg x]
  rw [mem_lparts]
  constructor
  · intro h
    obtain ⟨g, hg2, hp⟩ := List.mem_flatMap.mp (ordF_mem h)
    exact ⟨g, (hz g).mp hg2, partsF_subs g x hp⟩
  · rintro ⟨g, hg2, hs⟩
    have hg3 := (hz g).mpr hg2
    obtain ⟨y, hy, e⟩ := subs_parts g x hs
    obtain ⟨w, hw, e2⟩ := ordF_txt (List.mem_flatMap.mpr ⟨g, hg3, hy⟩)
    have okx := (subs_ok g x (ok g hg3) hs).1
    have okw := tab_ok ok w hw
    have : w = x := txt_inj okw okx (e2.trans e)
    exact this ▸ hw
theorem lp_closed (zs : List Fm) : ClosedE (lpartsF zs) := fun s l r h => by
  obtain ⟨g, hg, hs⟩ := mem_lparts.mp h
  obtain ⟨a, b⟩ := subs_in g hs
  exact ⟨mem_lparts.mpr ⟨g, hg, a⟩, mem_lparts.mpr ⟨g, hg, b⟩⟩
theorem clI_both {z : Str} {b : Bool} {facts : List (Fm × Fm)} {gs gs' : List Fm} (hg : ∀ x, x ∈ gs ↔ x ∈ gs') (ok : ∀ x ∈ sidesF facts ++ gs, x.ok = true) {x y : Fm} (hx : x ∈ gs) (hy : y ∈ gs) :
    ClI (eqsF facts (tabF facts gs)) (imsF z b (tabF facts gs).length (tripsF (tabF facts gs))) (ixX (tabF facts gs) x.txt) (ixX (tabF facts gs) y.txt) ↔ ClI (leqsF facts (lpartsF (sidesF facts ++ gs'))) (rowsF z b (lpartsF (sidesF facts ++ gs'))) (ixE (lpartsF (sidesF facts ++ gs')) x) (ixE (lpartsF (sidesF facts ++ gs')) y) := by
  have same := same_parts (gs' := gs') hg ok
  have okT : ∀ g ∈ tabF facts gs, g.ok = true := tab_ok ok
  have hasT : ∀ g ∈ sidesF facts ++ gs, g ∈ tabF facts gs := fun g h => (same g).mpr (mem_lparts.mpr ⟨g, by rw [List.mem_append] at h ⊢; exact h.elim .inl fun h => .inr ((hg g).mp h), subsF_self g⟩)
  have hasF : ∀ e ∈ facts, e.1 ∈ tabF facts gs ∧ e.2 ∈ tabF facts gs := fun e he => ⟨hasT _ (List.mem_append_left _ (List.mem_flatMap.mpr ⟨e, he, by simp⟩)), hasT _ (List.mem_append_left _ (List.mem_flatMap.mpr ⟨e, he, by simp⟩))⟩
  have clE : ClosedE (lpartsF (sidesF facts ++ gs')) := lp_closed _
  have mx := hasT x (List.mem_append_right _ hx)
  have my := hasT y (List.mem_append_right _ hy)
  generalize tabF facts gs = tab at *
  generalize lpartsF (sidesF facts ++ gs') = lp at *
  have f1 : ∀ g ∈ tab, phi tab (ixE lp) (ixX tab g.txt) = ixE lp g := fun g h => by unfold phi; rw [ixX_at okT h]
  have f2 : ∀ g ∈ tab, phi lp (fun g => ixX tab g.txt) (ixE lp g) = ixX tab g.txt := fun g h => by
    obtain ⟨lt, e⟩ := ixE_at ((same g).mp h)
    unfold phi
    rw [List.getElem?_eq_getElem lt, e]
  have lt1 : ∀ i, i < tab.length → phi tab (ixE lp) i < lp.length := fun i hi => by
    unfold phi
    rw [List.getElem?_eq_getElem hi]
    exact (ixE_at ((same _).mp (List.getElem_mem hi))).1
  have lt2 : ∀ i, i < lp.length → phi lp (fun g => ixX tab g.txt) i < tab.length := fun i hi => by
    unfold phi
    rw [List.getElem?_eq_getElem hi]
    have := ixX_at okT ((same _).mpr (List.getElem_mem hi))
    exact (List.getElem?_eq_some_iff.mp this).1
  have sub : ∀ s l r, Fm.op s l r ∈ tab → l ∈ tab ∧ r ∈ tab := fun s l r h => by
    obtain ⟨a, b⟩ := clE _ _ _ ((same _).mp h)
    exact ⟨(same _).mpr a, (same _).mpr b⟩
  constructor
  · intro h
    have h := h.map (φ := phi tab (ixE lp)) (eqs' := leqsF facts lp) (im' := rowsF z b lp) (fun e he => ?_) fun t ht => ?_
    · rw [f1 x mx, f1 y my] at h
      exact h
    · obtain ⟨e0, he0, rfl⟩ := List.mem_map.mp he
      obtain ⟨a, c⟩ := hasF e0 he0
      rw [f1 _ a, f1 _ c]
      exact .fact (List.mem_map.mpr ⟨e0, he0, rfl⟩)
    · show mapT _ t ∈ _
      unfold imsF at ht
      unfold rowsF
      rw [List.mem_append] at ht ⊢
      rcases ht with ht | ht
      · refine .inr ?_
        unfold calmP
        cases b with
        | false => cases ht
        | true =>
          obtain ⟨i, hi, rfl⟩ := List.mem_map.mp ht
          exact List.mem_map.mpr ⟨_, List.mem_range.mpr (lt1 i (List.mem_range.mp hi)), rfl⟩
      · refine .inl ?_
        obtain ⟨t0, ht0, ht⟩ := List.mem_flatMap.mp ht
        obtain ⟨u, hu, rfl⟩ := List.mem_map.mp ht
        obtain ⟨g, hgm, e⟩ := List.mem_filterMap.mp ht0
        cases g with
        | lt n => cases e
        | op s l r =>
          obtain rfl := Option.some.inj e
          obtain ⟨ml, mr⟩ := sub _ _ _ hgm
          rw [mapT_img, mapT_trS, f1 _ ml, f1 _ mr, f1 _ hgm]
          exact List.mem_flatMap.mpr ⟨_, (same _).mp hgm, imgsL_mem.mpr ⟨u, hu, rfl⟩⟩
  · intro h
    have h := h.map (φ := phi lp fun g => ixX tab g.txt) (eqs' := eqsF facts tab) (im' := imsF z b tab.length (tripsF tab)) (fun e he => ?_) fun t ht => ?_
    · rw [f2 x mx, f2 y my] at h
      exact h
    · obtain ⟨e0, he0, rfl⟩ := List.mem_map.mp he
      obtain ⟨a, c⟩ := hasF e0 he0
      rw [f2 _ a, f2 _ c]
      exact .fact (List.mem_map.mpr ⟨e0, he0, rfl⟩)
    · show mapT _ t ∈ _
      unfold rowsF at ht
      unfold imsF
      rw [List.mem_append] at ht ⊢
      rcases ht with ht | ht
      · refine .inr ?_
        obtain ⟨g, hgm, ht⟩ := List.mem_flatMap.mp ht
        cases g with
        | lt n => cases ht
        | op s l r =>
          have hgt := (same _).mpr hgm
          obtain ⟨ml, mr⟩ := sub _ _ _ hgt
          obtain ⟨u, hu, rfl⟩ := imgsL_mem.mp ht
          rw [mapT_img, mapT_trS, f2 _ ml, f2 _ mr, f2 _ hgt]
          exact List.mem_flatMap.mpr ⟨_, List.mem_filterMap.mpr ⟨_, hgt, rfl⟩, List.mem_map.mpr ⟨u, hu, rfl⟩⟩
      · refine .inl ?_
        unfold calmP at ht
        cases b with
        | false => cases ht
        | true =>
          obtain ⟨i, hi, rfl⟩ := List.mem_map.mp ht
          exact List.mem_map.mpr ⟨_, List.mem_range.mpr (lt2 i (List.mem_range.mp hi)), rfl⟩
theorem alike_self {z : Str} {b : Bool} {facts : List (Fm × Fm)} {f : Fm} : Alike z b facts f f := .refl _
theorem alike_fact {z : Str} {b : Bool} {facts : List (Fm × Fm)} {e : Fm × Fm} (h : e ∈ facts) : Alike z b facts e.2 e.1 := .symm (.fact (List.mem_map.mpr ⟨e, h, rfl⟩))
end L2.K19
set_option Elab.async false
set_option linter.all false
set_option maxRecDepth 100000
set_option maxHeartbeats 4000000
/-! repr of texts, ints, bools and None, or of data; x is True -/
namespace L2.Tb
open PySem PySem.Spec PyProof.Rows
/-- what repr tells of a plain value -/
inductive ReprV : V → Str → Prop
  | str (x : Str) (h : (reprText x).length ≤ sizeLine) : ReprV (.str x) (reprText x)
  | int (i : Int) (h : i.natAbs.log2 < 1920) : ReprV (.int i) (toString i)
  | bl (b : Bool) : ReprV (.bl b) (if b then "True" else "False")
  | non : ReprV .non "None"
def rReprA (K : PySem.W.Frag) : List V → Hp → VK → Prop := fun vs H Q => rReprD K vs H Q ∨ ∃ v t, vs = [v] ∧ ReprV v t ∧ Q (.str t) H
theorem call_reprA {X : Cx} (hg : X.A.guards = some []) (hu : X.A.units + 64 < cLine) : CallR X (.builtin "repr") (rReprA X.K) := by
  intro pins s σ H vs us Q I r h
  rcases h with h | ⟨v, t, rfl, e, q⟩
  · exact call_reprD hg hu pins s σ H vs us Q I r h
  · obtain ⟨u, rfl, rx⟩ := vals1 r
    cases e with
    | str x hl =>
      obtain ⟨k, rfl⟩ := rx
      exact PySem.P.repr_of_str ⟨.str _, H, I.tok _, ⟨_, rfl⟩, q⟩ hl
    | int i hl =>
      obtain ⟨k, rfl⟩ := rx
      exact PySem.P.repr_of_int hl ⟨.str _, H, I.tok _, ⟨_, rfl⟩, q⟩
    | bl b =>
      cases (show u = Value.bool b from rx)
      exact PySem.P.repr_of_bool ⟨.str _, H, I.tok _, ⟨_, rfl⟩, q⟩
    | non =>
      cases rx
      exact PySem.P.repr_of_none ⟨.str _, H, I.tok _, ⟨_, rfl⟩, q⟩
theorem op_isB {X : Cx} : OpR X (compareOp .Is) (fun x y H Q => ∃ b, y = .bl b ∧ Q (.bl (decide (x = .bl b))) H) := by
  intro pins s σ H x y v u Q I rx ry h
  obtain ⟨b, rfl, q⟩ := h
  cases (show u = Value.bool b from ry)
  by_cases e : x = .bl b
  · subst e
    cases (show v = Value.bool b from rx)
    exact wpAny_is_self rfl ⟨.bl true, H, I, rfl, by simpa using q⟩
  · have q2 : Q (.bl false) H := by simpa [e] using q
    have fin : ∀ {w : Value}, v = w → w ≠ .bool b → (plainIs w (.bool b) = true) → wpAny (model X.prog X.w) X.A (compareOp .Is v (.bool b)) (EP X pins σ Q) X.xe s := fun e1 e2 e3 => by
      rw [e1]
      exact wpAny_is_other e3 e2 ⟨.bl false, H, I, rfl, q2⟩
    cases x with
    | bl c =>
      cases (show v = Value.bool c from rx)
      exact fin rfl (fun z => e (by injection z with z; rw [z])) rfl
    | non => exact fin rx (fun z => nomatch z) rfl
    | ref a => exact fin rx (fun z => nomatch z) rfl
    | ty n => exact fin rx (fun z => nomatch z) rfl
    | int i =>
      obtain ⟨t, e1⟩ := rx
      exact fin e1 (fun z => nomatch z) rfl
    | str i =>
      obtain ⟨t, e1⟩ := rx
      exact fin e1 (fun z => nomatch z) rfl
    | byt i =>
      obtain ⟨t, e1⟩ := rx
      exact fin e1 (fun z => nomatch z) rfl
    | flt i =>
      obtain ⟨t, e1⟩ := rx
      exact fin e1 (fun z => nomatch z) rfl
end L2.Tb
set_option Elab.async false
set_option linter.all false
set_option maxRecDepth 100000
set_option maxHeartbeats 8000000
namespace L2.K19
open PySem PySem.Spec PyProof.Rows L2.Tb
open SX (S)
/-! ### what repr asks of data -/
structure Rp (n w : Nat) (d : PyData) : Prop where
  sh : d.showable = true
  nd : d.hasDict = false
  dp : d.depth ≤ n
  ls : d.leavesShort 40 = true
  bk : d.bulk ≤ w
theorem Rp.up {n w n' w' : Nat} {d : PyData} (h : Rp n w d) (hn : n ≤ n') (hw : w ≤ w') : Rp n' w' d := ⟨h.sh, h.nd, Nat.le_trans h.dp hn, h.ls, Nat.le_trans h.bk hw⟩
/-- what rReprD asks -/
def Rok (d : PyData) : Prop := d.showable = true ∧ d.hasDict = false ∧ d.depth ≤ 60 ∧ d.shown.length ≤ sizeLine
theorem Rp.ok {n w : Nat} {d : PyData} (h : Rp n w d) (hn : n ≤ 60) (hw : w ≤ 300000) : Rok d := by
  refine ⟨h.sh, h.nd, Nat.le_trans h.dp hn, ?_⟩
  have := PyData.shown_le_bulk 40 (by decide) _ h.ls
  have := h.bk
  rw [sizeLine_eq]
  omega
structure RpAll (n w : Nat) (ds : List PyData) : Prop where
  sh : PyData.showableAll ds = true
  nd : PyData.hasDictAll ds = false
  dp : PyData.depthAll ds ≤ n
  ls : PyData.leavesShortAll 40 ds = true
  bk : PyData.bulkAll ds ≤ w
theorem RpAll.nil : RpAll 0 1 [] := ⟨rfl, rfl, by simp [PyData.depthAll], rfl, by simp [PyData.bulkAll]⟩
theorem RpAll.cons {n w m v k : Nat} {d : PyData} {ds : List PyData} (h : Rp n w d) (hs : RpAll m v ds) (hn : n ≤ k) (hm : m ≤ k) : RpAll k (w + v + 1) (d :: ds) := by
  have := h.bk
  have := hs.bk
  have := h.dp
  have := hs.dp
  refine ⟨?_, ?_, ?_, ?_, ?_⟩
  · simp only [PyData.showableAll, h.sh, hs.sh, Bool.and_true]
  · simp only [PyData.hasDictAll, h.nd, hs.nd, Bool.or_false]
  · simp only [PyData.depthAll]; omega
  · simp only [PyData.leavesShortAll, h.ls, hs.ls, Bool.and_true]
  · simp only [PyData.bulkAll]; omega
theorem RpAll.tup {n w : Nat} {ds : List PyData} (h : RpAll n w ds) : Rp (n + 1) (w + 1) (.tuple ds) := by
  have := h.bk
  have := h.dp
  refine ⟨?_, ?_, ?_, ?_, ?_⟩
  · simp only [PyData.showable, h.sh]
  · simp only [PyData.hasDict, h.nd]
  · simp only [PyData.depth]; omega
  · simp only [PyData.leavesShort, h.ls]
  · simp only [PyData.bulk]; omega
theorem RpAll.lst {n w : Nat} {ds : List PyData} (h : RpAll n w ds) : Rp (n + 1) (w + 1) (.list ds) := by
  have := h.bk
  have := h.dp
  refine ⟨?_, ?_, ?_, ?_, ?_⟩
  · simp only [PyData.showable, h.sh]
  · simp only [PyData.hasDict, h.nd]
  · simp only [PyData.depth]; omega
  · simp only [PyData.leavesShort, h.ls]
  · simp only [PyData.bulk]; omega
def rpB (n w : Nat) (d : PyData) : Bool := d.showable && (!d.hasDict && (decide (d.depth ≤ n) && (d.leavesShort 40 && decide (d.bulk ≤ w))))
theorem rpB_ok {n w : Nat} {d : PyData} (h : rpB n w d = true) : Rp n w d := by
  unfold rpB at h
  obtain ⟨h1, h⟩ := He.ba h
  obtain ⟨h2, h⟩ := He.ba h
  obtain ⟨h3, h⟩ := He.ba h
  obtain ⟨h4, h5⟩ := He.ba h
  exact ⟨h1, by simpa using h2, of_decide_eq_true h3, h4, of_decide_eq_true h5⟩
theorem rp_non : Rp 1 9 .none := rpB_ok (by decide +kernel)
theorem rp_bl (b : Bool) : Rp 1 9 (.bool b) := by cases b <;> exact rpB_ok (by decide +kernel)
theorem rp_int {i : Int} (h : -1000000 < i ∧ i < 1000000) : Rp 1 9 (.int i) := by
  have l1 : i.natAbs.log2 < 1920 := by
    have := Nat.log2_le_self i.natAbs
    by_cases z : i.natAbs = 0
    · rw [z]; decide +kernel
    · exact (Nat.log2_lt z).mpr (Nat.lt_of_le_of_lt (m := 2 ^ 20) (by omega) (Nat.pow_lt_pow_right (by decide) (by decide)))
  have l2 : (toString i).length ≤ 8 := PySem.int_text_length_le10 (k := 7) (by decide) (by omega)
  refine ⟨?_, ?_, ?_, ?_, ?_⟩
  · simp only [PyData.showable]
    exact decide_eq_true l1
  · simp only [PyData.hasDict]
  · simp only [PyData.depth]; omega
  · rw [PyData.leavesShort]
    refine decide_eq_true ?_
    show (Str.ofString (toString i)).length ≤ 40
    rw [PySem.ofString_length]
    omega
  · simp only [PyData.bulk]; omega
theorem rp_nat {k : Nat} (h : k < 1000000) : Rp 1 9 (.int (k : Int)) := rp_int ⟨by omega, by omega⟩
mutual
theorem Dp.same {K : PySem.W.Frag} {H H' : Hp} (s : Same H H') : ∀ {v : V} {d : PyData}, Dp K H v d → Dp K H' v d
  | _, _, .non => .non
  | _, _, .bl b => .bl b
  | _, _, .int i => .int i
  | _, _, .str x => .str x
  | _, _, .lst h a => .lst (SqX.same (b := false) h s) (DpAll.same s a)
  | _, _, .tup h a => .tup (SqX.same (b := true) h s) (DpAll.same s a)
theorem DpAll.same {K : PySem.W.Frag} {H H' : Hp} (s : Same H H') : ∀ {vs : List V} {ds : List PyData}, DpAll K H vs ds → DpAll K H' vs ds
  | _, _, .nil => .nil
  | _, _, .cons h a => .cons (Dp.same s h) (DpAll.same s a)
end
theorem nnv (v : V) : (!decide (v = v)) = false := by rw [decide_eq_true rfl]; rfl
theorem eev (v : V) : decide (v = v) = true := decide_eq_true rfl
abbrev s_right : Stmt := top 76
abbrev N_right : List Str := ["_law_purse_here", "_law_ruled", "_law_names_here", "_law_known_facts", "_law_left_one", "_law_right_one", "_law_parts_here", "_law_marks_here", "_law_near", "_law_due", "_law_rules", "_law_given", "_law_first", "_law_second", "_law_said", "_law_left", "_law_right_here", "_law_pair_here"]
theorem sc_right : FnScope N_right ["_law_purse_here"] (defScope s_right) := ⟨rfl, rfl, rfl, by decide +kernel, rfl, by decide +kernel, by decide +kernel⟩
theorem made_ok {K : PySem.W.Frag} {C CT CF : Addr} {H : Hp} {z : Str} {b : Bool} {Qf : VK} {E : XK} {x dx : Addr} (hz : wordsD.contains z = true) (hx : H x = none) (hdx : H dx = none) (q : ∀ H', Same H H' → KindAt C H' x z b → Qf .non H') :
    spKinit K C CT CF [.ref x, .str z, .bl b] (upd (upd H dx (.own x)) x (.ins C dx [])) Qf E := by
  refine ⟨x, dx, .str z, .bl b, rfl, upd_same, .inl ⟨z, b, rfl, hz, rfl, q _ (fun c o h => ?_) ⟨dx, upd_same⟩⟩⟩
  rw [upd_ne (ne_of_none h hx), upd_ne (ne_of_none h hx), upd_ne (ne_of_none h hx), upd_ne (ne_of_none h hdx)]
  exact h
/-- what a kind's class offers -/
def KiM (P : Program) (w : World) (K : PySem.W.Frag) (mg : Str → Option Value) (base : Heap) (C CT CF : Addr) : Prop := ∃ fi fdi, Mk K C fi ∧ FnOk P w K mg base (L2.CX P w) 3 fi fdi ["self", "turns", "calm"] (spKinit K C CT CF) ∧ KBn K fdi ["self", "turns", "calm"] 2 ["calm"] (fun us ws => us ++ ws) (fun us ws => us ++ ws)
def spRight : Sp := fun vs H Q _ => ∃ p : Addr, vs = [.ref p] ∧ Pk H p ∧ ∀ H', SameB p H H' → Q (.bl true) H'
theorem bools_rp : ∀ bs : List Bool, RpAll 1 (60 * bs.length + 1) (bs.map PyData.bool)
  | [] => ⟨rfl, rfl, by simp [PyData.depthAll], rfl, by simp [PyData.bulkAll]⟩
  | b :: bs => by
    have h : Rp 1 59 (.bool b) := rpB_ok (by cases b <;> decide +kernel)
    have := RpAll.cons (k := 1) h (bools_rp bs) (by decide) (by decide)
    rw [List.map_cons, List.length_cons]
    exact ⟨this.sh, this.nd, this.dp, this.ls, by have := this.bk; omega⟩
theorem dp_bools {K : PySem.W.Frag} {H : Hp} : ∀ bs : List Bool, DpAll K H (bs.map V.bl) (bs.map PyData.bool)
  | [] => .nil
  | b :: bs => .cons (.bl b) (dp_bools bs)
theorem rep_bools {K : PySem.W.Frag} {H : Hp} {L : Addr} {bs : List Bool} {Q : VK} (h : H L = some (.lst (bs.map V.bl))) (few : bs.length ≤ 100) (q : Q (.str (PyData.shown (.list (bs.map PyData.bool)))) H) : rReprA K [.ref L] H Q := by
  have ok := (bools_rp bs).lst.ok (by decide) (by omega)
  exact .inl ⟨L, _, rfl, .lst (SqL.of h) (dp_bools bs), ok.1, ok.2.1, ok.2.2.1, ok.2.2.2, q⟩
theorem tab_len {facts : List (Fm × Fm)} {gs : List Fm} (h1 : ∀ e ∈ facts, e.1.ops ≤ 2 ∧ e.2.ops ≤ 2) (h3 : facts.length ≤ 3) {n : Nat} (hg : (gs.flatMap partsF).length ≤ n) : (tabF facts gs).length ≤ 30 + n := by
  have h9 : ∀ l : List (Fm × Fm), (∀ e ∈ l, e.1.ops ≤ 2 ∧ e.2.ops ≤ 2) → ((sidesF l).flatMap partsF).length ≤ 10 * l.length := fun l => by
    induction l with
    | nil => exact fun _ => Nat.le_refl _
    | cons e l ih =>
      intro h
      have a := h e List.mem_cons_self
      have b := ih fun x hx => h x (List.mem_cons_of_mem _ hx)
      have p1 := parts_lenF e.1
      have p2 := parts_lenF e.2
      have es : sidesF (e :: l) = [e.1, e.2] ++ sidesF l := rfl
      rw [es, List.flatMap_append, List.length_append, List.length_cons]
      simp only [List.flatMap_cons, List.flatMap_nil, List.length_append, List.length_nil]
      omega
  have a := ordF_len ((sidesF facts ++ gs).flatMap partsF)
  have b := h9 facts h1
  rw [List.flatMap_append, List.length_append] at a
  unfold tabF
  rw [List.flatMap_append]
  omega
/-- what stands while it is asked -/
structure RI (C FC : Addr) (H0 : Hp) (z : Str) (b : Bool) (facts : List (Fm × Fm)) (f g : Fm) (tk Fg x y Ls : Addr) (bs : List Bool) (G : Hp) : Prop where
  s : Same H0 G
  k : KindAt C G tk z b
  fa : FactsAt FC G Fg facts
  h1 : FmAt FC G x f
  h2 : FmAt FC G y g
  l : G Ls = some (.lst (bs.map V.bl))
theorem RI.same {C FC : Addr} {H0 : Hp} {z : Str} {b : Bool} {facts : List (Fm × Fm)} {f g : Fm} {tk Fg x y Ls : Addr} {bs : List Bool} {G G' : Hp} (h : RI C FC H0 z b facts f g tk Fg x y Ls bs G) (s : Same G G') : RI C FC H0 z b facts f g tk Fg x y Ls bs G' :=
  ⟨h.s.trans s, h.k.same s, h.fa.same s, h.h1.same s, h.h2.same s, s _ _ h.l⟩
theorem RI.push {C FC : Addr} {H0 : Hp} {z : Str} {b : Bool} {facts : List (Fm × Fm)} {f g : Fm} {tk Fg x y Ls : Addr} {bs : List Bool} {G : Hp} (h : RI C FC H0 z b facts f g tk Fg x y Ls bs G) (n : H0 Ls = none) (c : Bool) : RI C FC H0 z b facts f g tk Fg x y Ls (bs ++ [c]) (upd G Ls (.lst (bs.map V.bl ++ [.bl c]))) := by
  have sB : SameB Ls G (upd G Ls (.lst (bs.map V.bl ++ [.bl c]))) := fun b o ne e => (upd_ne ne).trans e
  have hL : ∃ xs, G Ls = some (.lst xs) := ⟨_, h.l⟩
  refine ⟨same_pt n h.s, ?_, ?_, h.h1.B sB hL, h.h2.B sB hL, by rw [upd_same, List.map_append]; rfl⟩
  · obtain ⟨dx, e⟩ := h.k
    exact ⟨dx, by rw [upd_ne (ne_of e h.l (by intro z; cases z))]; exact e⟩
  · obtain ⟨ps, e, pp⟩ := h.fa
    exact ⟨ps, by rw [upd_ne (ne_of e h.l (by intro z; cases z))]; exact e, paired_imp (fun p e ⟨l, r, h3, h4, h5⟩ => ⟨l, r, by rw [upd_ne (ne_of h3 h.l (by intro z; cases z))]; exact h3, h4.B sB hL, h5.B sB hL⟩) pp⟩
section
variable {P : Program} {w : World} {K : PySem.W.Frag} {mg : Str → Option Value} {base : Heap} {f : Addr} {fd : FuncData} {C FC dL CF CTk : Addr} {es : Array DictEntry} {n9 : Nat}
theorem c_right (T : Bt mg) (KF : KiF P w K mg base C dL CTk CF es n9) (KM' : KiM P w K mg base C CTk CF) (k_pick : Cal P w K mg base 1 "_law_pick" spPick) (k_lkind : Cal P w K mg base 2 "_law_kind" spLkind) (k_lnames : Cal P w K mg base 2 "_law_names" spLnames) (k_lfacts : Cal P w K mg base 11 "_law_facts" spLfacts)
    (k_lpair : Cal P w K mg base 11 "_law_pair" spLpair) (k_lparts : Cal P w K mg base 10 "_law_parts" (spLparts 8)) (k_lsides : Cal P w K mg base 1 "_law_sides" spLsides) (k_lmarks : Cal P w K mg base 5 "_law_marks" spLmarks) (k_ltold_facts : Cal P w K mg base 21 "_law_told_facts" (spLtoldFacts FC)) (k_lmade : Cal P w K mg base 19 "_law_made" (spLmade FC 8))
    (x_follows : CalX P w K mg base 12 "follows" (spFollows FC C)) (x_followsK : CalXKP P w K mg base 12 "follows" ["other", "one", "facts", "kind"] List.reverse (spFollows FC C))
    (F : FnP K "_law_right" s_right f fd) (hm : mg "_law_right" = some (.ref f)) : CalG P w K mg base 22 "_law_right" spRight := by
  have hnd := sc_right.nd
  obtain ⟨fk, fdk, KM, Fi, B1⟩ := KM'
  refine calG_mk F hm sc_right (fun _ _ _ _ _ _ us hl => match us, hl with | [_], _ => rfl) (fun vs H Q E h => ?_) (fun cdv A outer s H vs Q E hg2 hr h => ?_)
  · obtain ⟨p, rfl, _⟩ := h
    rfl
  · obtain ⟨p, rfl, hp, q⟩ := h
    have hu65 : (A.deeper (envOfC "_law_right" (defScope s_right) s.heap.objs.size f cdv)).units + 65 < cLine := by
      have := hr.un
      omega
    refine ⟨_, PSs.nox (pss_cons (ps_par (i := 1) (j := 2) (by rfl) hnd rfl rfl (by decide) (by rfl) (by rfl) (pa_cons (pe_cal k_lkind hr (by omega) (by rfl) (pa_cons (pv 0) pa_nil)) (pa_cons (pe_cal k_lnames hr (by omega) (by rfl) (pa_cons (pv 0) (pa_cons pe_int pa_nil))) pa_nil)) (by rfl))
      (pss_cons (ps_set (i := 3) hnd rfl (by first | exact Or.inl rfl | exact Or.inr rfl) (pe_cal k_lfacts hr (by omega) (by rfl) (pa_cons (pv 0) (pa_cons (pv 2) (pa_cons (pe_cal k_pick hr (by omega) (by rfl) (pa_cons (pv 0) (pa_cons pe_int pa_nil))) (pa_cons pe_int pa_nil))))))
      (pss_cons (ps_asg (pe_cal k_lpair hr (by omega) (by rfl) (pa_cons (pv 0) (pa_cons (pv 1) (pa_cons (pv 2) pa_nil)))) (pg_tup (by rfl) (pgs_cons (pg_name (i := 4) hnd rfl (by first | exact Or.inl rfl | exact Or.inr rfl)) (pgs_cons (pg_name (i := 5) hnd rfl (by first | exact Or.inl rfl | exact Or.inr rfl)) pgs_nil))))
      (pss_cons (ps_set (i := 6) hnd rfl (by first | exact Or.inl rfl | exact Or.inr rfl) (pe_cal k_lparts hr (by omega) (by rfl) (pa_cons (pe_op op_cat (pe_cal k_lsides hr (by omega) (by rfl) (pa_cons (pv 3) pa_nil)) (pe_lst (pa_cons (pv 4) (pa_cons (pv 5) pa_nil)))) pa_nil)))
      (pss_cons (ps_set (i := 7) hnd rfl (by first | exact Or.inl rfl | exact Or.inr rfl) (pe_cal k_lmarks hr (by omega) (by rfl) (pa_cons (pv 1) (pa_cons (pv 6) (pa_cons (pv 3) pa_nil)))))
      (pss_cons (ps_set (i := 8) hnd rfl (by first | exact Or.inl rfl | exact Or.inr rfl) (pe_ix (show IxR _ (rIxL K) from ix_list) (pv 7) (pe_bm PySem.F.plainAttrs_list PySem.F.slot_list_index PySem.F.type_list_index (show MtR _ "list.index" (rIndexD K) from mt_indexD hu65) (pv 6) (pa_cons (pv 4) pa_nil)) (fun _ _ => rfl)))
      (pss_cons (ps_set (i := 9) hnd rfl (by first | exact Or.inl rfl | exact Or.inr rfl) (pe_cmpR op_eq (pv 8) (pe_ix (show IxR _ (rIxL K) from ix_list) (pv 7) (pe_bm PySem.F.plainAttrs_list PySem.F.slot_list_index PySem.F.type_list_index (show MtR _ "list.index" (rIndexD K) from mt_indexD hu65) (pv 6) (pa_cons (pv 5) pa_nil)) (fun _ _ => rfl)) (nomark _)))
      (pss_cons (ps_par (i := 10) (j := 11) (by rfl) hnd rfl rfl (by decide) (by rfl) (by rfl) (pa_cons (pe_makeK KM Fi (hr.mono (by omega)) (by rfl) KF.mgC B1 pass_none (pa_cons (pe_ix (show IxR _ (rIxT K) from ix_tup) (pv 1) pe_int (fun _ _ => rfl)) pa_nil) (pk_cons (pe_ix (show IxR _ (rIxT K) from ix_tup) (pv 1) pe_int (fun _ _ => rfl)) pk_nil)) (pa_cons (pe_cal k_ltold_facts hr (by omega) (by rfl) (pa_cons (pv 3) pa_nil)) pa_nil)) (by rfl))
      (pss_cons (ps_par (i := 12) (j := 13) (by rfl) hnd rfl rfl (by decide) (by rfl) (by rfl) (pa_cons (pe_cal k_lmade hr (by omega) (by rfl) (pa_cons (pv 4) pa_nil)) (pa_cons (pe_cal k_lmade hr (by omega) (by rfl) (pa_cons (pv 5) pa_nil)) pa_nil)) (by rfl))
      (pss_cons (ps_set (i := 14) hnd rfl (by first | exact Or.inl rfl | exact Or.inr rfl) (pe_lst (pa_cons (pe_calX (E := L2.E0) x_follows hr (by omega) (by rfl) pass_none (pa_cons (pv 10) (pa_cons (pv 11) (pa_cons (pv 12) (pa_cons (pv 13) pa_nil))))) pa_nil)))
      (pss_cons (ps_expr (pe_bm PySem.F.plainAttrs_list PySem.F.slot_list_append PySem.F.type_list_append mt_append (pv 14) (pa_cons (pe_calXKP (E := L2.E0) x_followsK hr (by omega) (by rfl) pass_none (pk_cons (pv 12) (pk_cons (pv 13) (pk_cons (pv 11) (pk_cons (pv 10) pk_nil))))) pa_nil)))
      (pss_cons (ps_expr (pe_bm PySem.F.plainAttrs_list PySem.F.slot_list_append PySem.F.type_list_append mt_append (pv 14) (pa_cons (pe_calX (E := L2.E0) x_follows hr (by omega) (by rfl) pass_none (pa_cons (pv 10) (pa_cons (pv 11) (pa_cons (pv 12) (pa_cons (pv 12) pa_nil))))) pa_nil)))
      (pss_cons (ps_for PassesOwn.never (by rfl) (pi_tup (pv 11)) (pg_tup (by rfl) (pgs_cons (pg_name (i := 15) hnd rfl (by first | exact Or.inl rfl | exact Or.inr rfl)) (pgs_cons (pg_name (i := 16) hnd rfl (by first | exact Or.inl rfl | exact Or.inr rfl)) pgs_nil)))
      (pss_one (ps_expr (pe_bm PySem.F.plainAttrs_list PySem.F.slot_list_append PySem.F.type_list_append mt_append (pv 14) (pa_cons (pe_calX (E := L2.E0) x_follows hr (by omega) (by rfl) pass_none (pa_cons (pv 10) (pa_cons (pv 11) (pa_cons (pv 16) (pa_cons (pv 15) pa_nil))))) pa_nil)))))
      (pss_one (ps_ret (pe_cmpR op_eq (pe_callB (show CallR _ (.builtin "repr") (rReprA K) from call_reprA hg2 hr.units) (by rfl) T.m_repr (by decide +kernel) (pa_cons (pv 14) pa_nil)) (pe_callB (show CallR _ (.builtin "repr") (rReprA K) from call_reprA hg2 hr.units) (by rfl) T.m_repr (by decide +kernel) (pa_cons (pe_op op_cat (pe_lst (pa_cons (pv 9) (pa_cons (pv 9) (pa_cons pe_bl pa_nil)))) (pe_lc (own := [("_law_pair_here", 17)]) (tt := tYes) (by rfl) hnd (pi_tup (pv 11)) (blkOk_by (own := [("_law_pair_here", 17)]) (N := N_right) (sc := defScope s_right) (by decide +kernel)) (fun _ _ _ _ _ => (pg_name (i := 17) hnd rfl (by first | exact Or.inl rfl | exact Or.inr rfl))) (fun _ _ _ _ _ => pts_nil) (fun _ _ _ _ _ => pe_bl))) pa_nil)) (nomark _))))))))))))))))), ?_⟩
    have p200 : ∀ n : Nat, n ≤ 10 → n < 2 ^ 200 := fun n h => Nat.lt_of_le_of_lt h (by decide)
    refine ⟨_, rfl, p, rfl, hp, fun rk z b G1 hz b1 pk1 erk => ?_⟩
    refine ⟨_, rfl, p, 3, rfl, pk1, by decide, fun ls L G2 lls nml b2 pk2 nLp nL1 eL => ⟨_, _, rfl, ?_⟩⟩
    try dsimp only
    have erk2 := tup_keep pk1 b2 _ _ erk
    have b02 := b1.trans b2
    have hn : ∀ l ∈ ls, nameB l = true := nml.ok
    refine ⟨_, rfl, _, rfl, _, rfl, p, 4, rfl, pk2, by decide, p200 4 (by decide), fun nf G3 hnf b3 pk3 => ?_⟩
    refine ⟨p, L, ls, nf, 2, rfl, pk3, b3 _ _ nLp eL, nLp, by omega, by omega, hn, by omega, by decide, fun Fk facts G4 b4 pk4 nFk hF lf okf => gname_go ?_⟩
    try dsimp only
    have erk4 := tup_keep pk2 (b3.trans b4) _ _ erk2
    have eL4 := (b3.trans b4) _ _ nLp eL
    have b04 := b02.trans (b3.trans b4)
    have nFp : Fk ≠ p := pk3.ne nFk
    refine ⟨_, rfl, _, rfl, _, rfl, p, rk, L, z, b, ls, rfl, pk4, erk4, eL4, nLp, by omega, by omega, hn, fun R f0 gq G5 b5 pk5 pr ok1 o1 ok2 o2 => ?_⟩
    obtain ⟨vl, vr, eR, tl, tr⟩ := pr
    have erk5 := tup_keep pk4 b5 _ _ erk4
    have hF5 : FactsW G5 Fk facts := by
      obtain ⟨ps, e1, p1⟩ := hF
      exact ⟨ps, b5 _ _ nFp e1, paired_imp (fun _ _ h => PrW.mono h (tup_keep pk4 b5)) p1⟩
    have b05 := b04.trans b5
    refine ⟨R, _, rfl, SqT.of eR, rfl, _, _, rfl, _, _, rfl, rfl, ?_⟩
    try dsimp only
    -- the parts
    refine ⟨_, rfl, Fk, facts, rfl, hF5, by omega, fun Rs us G6 s6 eRs pS => ?_⟩
    refine ⟨_, rfl, _, rfl, Nat.le_of_ble_eq_true rfl, fun L8 n8 => ?_⟩
    have s8 := same_new (o := .lst [vl, vr]) n8
    have lus := pS.length
    rw [sides_len] at lus
    refine ⟨Rs, L8, us, [vl, vr], rfl, rfl, s8 _ _ eRs, upd_same, by rw [sizeLine_eq]; simp only [List.length_cons, List.length_nil]; omega, fun L7 n7 => ?_⟩
    have s7 := same_new (o := .lst (us ++ [vl, vr])) n7
    have s57 := (s6.trans s8).trans s7
    have okS : ∀ x ∈ sidesF facts, x.ok = true ∧ x.ops ≤ 2 := fun x hx => by
      obtain ⟨e, he, hx⟩ := List.mem_flatMap.mp hx
      obtain ⟨⟨a1, a2⟩, a3, a4⟩ := okf e he
      simp only [List.mem_cons, List.not_mem_nil, or_false] at hx
      rcases hx with rfl | rfl
      · exact ⟨a1, a2⟩
      · exact ⟨a3, a4⟩
    have okA : ∀ x ∈ sidesF facts ++ [f0, gq], x.ok = true ∧ x.ops ≤ 7 := fun x hx => by
      rcases List.mem_append.mp hx with hx | hx
      · exact ⟨(okS x hx).1, Nat.le_trans (okS x hx).2 (by decide)⟩
      · simp only [List.mem_cons, List.not_mem_nil, or_false] at hx
        rcases hx with rfl | rfl
        · exact ⟨ok1, by omega⟩
        · exact ⟨ok2, o2⟩
    have lmore : ((sidesF facts ++ [f0, gq]).flatMap moreF).length ≤ 50 := by
      have h9 : ∀ l : List Fm, (∀ x ∈ l, x.ops ≤ 2) → (l.flatMap moreF).length ≤ 5 * l.length := fun l => by
        induction l with
        | nil => exact fun _ => Nat.le_refl _
        | cons x l ih =>
          intro h
          have a := h x List.mem_cons_self
          have c := ih fun y hy => h y (List.mem_cons_of_mem _ hy)
          have d := moreF_len x
          rw [List.flatMap_cons, List.length_append, List.length_cons]
          omega
      have a := h9 (sidesF facts) fun x hx => (okS x hx).2
      rw [sides_len] at a
      have c := moreF_len f0
      have d := moreF_len gq
      rw [List.flatMap_append, List.length_append]
      simp only [List.flatMap_cons, List.flatMap_nil, List.length_append, List.length_nil]
      omega
    refine ⟨L7, us ++ [vl, vr], sidesF facts ++ [f0, gq], rfl, upd_same, paired_app (paired_imp (fun _ _ h => h.same (s8.trans s7)) pS) (.cons (tl.same s57) (.cons (tr.same s57) .nil)), fun x hx => ⟨(okA x hx).1, Nat.le_trans (Fm.dep_ops x) (Nat.le_trans (okA x hx).2 (by decide)), Nat.le_trans (okA x hx).2 (by decide)⟩, by decide, by omega, fun Lp rs G9 s9 nLp9 eLp pP => gname_go ?_⟩
    try dsimp only
    have s59 := s57.trans s9
    refine sig_go (σ' := [some (.ref p), some (.ref rk), some (.ref L), some (.ref Fk), some vl, some vr, some (.ref Lp), none, none, none, none, none, none, none, none, none, none, none]) rfl ?_
    -- the marks
    have mp := fun x => mem_lparts (fs := sidesF facts ++ [f0, gq]) (x := x)
    have okP : ∀ x ∈ lpartsF (sidesF facts ++ [f0, gq]), x.ok = true ∧ x.dep ≤ 50 := fun x hx => by
      obtain ⟨g, hg, hs⟩ := (mp x).mp hx
      exact ⟨(subs_ok g x (okA g hg).1 hs).1, Nat.le_trans (subs_dep g x hs) (Nat.le_trans (Fm.dep_ops g) (Nat.le_trans (okA g hg).2 (by decide)))⟩
    have inP : ∀ x ∈ sidesF facts ++ [f0, gq], x ∈ lpartsF (sidesF facts ++ [f0, gq]) := fun x hx => (mp x).mpr ⟨x, hx, subsF_self x⟩
    have lP : (lpartsF (sidesF facts ++ [f0, gq])).length ≤ 50 := Nat.le_trans (ddF_len _) lmore
    have mf := inP f0 (by simp)
    have mg' := inP gq (by simp)
    have clP := lp_closed (sidesF facts ++ [f0, gq])
    have fin1 : ∀ e ∈ facts, e.1 ∈ lpartsF (sidesF facts ++ [f0, gq]) ∧ e.2 ∈ lpartsF (sidesF facts ++ [f0, gq]) := fun e he => ⟨inP _ (List.mem_append_left _ (List.mem_flatMap.mpr ⟨e, he, by simp⟩)), inP _ (List.mem_append_left _ (List.mem_flatMap.mpr ⟨e, he, by simp⟩))⟩
    have posP : 0 < (lpartsF (sidesF facts ++ [f0, gq])).length := List.length_pos_of_mem mf
    have okA1 : ∀ x ∈ sidesF facts ++ [f0, gq], x.ok = true := fun x hx => (okA x hx).1
    have both := clI_both (z := z) (b := b) (facts := facts) (gs := [f0, gq]) (gs' := [f0, gq]) (fun x => Iff.rfl) okA1 (x := f0) (y := gq) (by simp) (by simp)
    have okB1 : ∀ x ∈ sidesF facts ++ [gq, f0], x.ok = true := fun x hx => by
      rcases List.mem_append.mp hx with h | h
      · exact okA1 x (List.mem_append_left _ h)
      · simp only [List.mem_cons, List.not_mem_nil, or_false] at h
        rcases h with rfl | rfl
        · exact ok2
        · exact ok1
    have both2 := clI_both (z := z) (b := b) (facts := facts) (gs := [gq, f0]) (gs' := [f0, gq]) (fun x => by simp only [List.mem_cons, List.not_mem_nil, or_false]; exact or_comm) okB1 (x := gq) (y := f0) (by simp) (by simp)
    have erk9 := s59 _ _ erk5
    have hF9 := hF5.same s59
    have tl9 := tl.same s59
    have tr9 := tr.same s59
    refine ⟨_, rfl, _, rfl, _, rfl, rk, Lp, Fk, z, b, rs, _, facts, rfl, erk9, hz, eLp, pP, okP, clP, posP, by omega, hF9, fin1, fun Mk out G10 s10 eMk lout hiff => gname_go ?_⟩
    try dsimp only
    obtain ⟨i1, i2, i3⟩ := ix_ok mf fun x hx => (okP x hx).1
    obtain ⟨j1, j2, j3⟩ := ix_ok mg' fun x hx => (okP x hx).1
    obtain ⟨bi, _⟩ := ixE_at mf
    obtain ⟨bj, _⟩ := ixE_at mg'
    have hdue := hiff _ _ bi bj
    have shP : SeqAt.shaped (.list ((lpartsF (sidesF facts ++ [f0, gq])).map fD)) = true := shaped_fDs (fun x hx => (okP x hx).1) fun x hx => (okP x hx).2
    have shf := shaped_fD (okP _ mf).1 (okP _ mf).2
    have shg := shaped_fD (okP _ mg').1 (okP _ mg').2
    generalize lpartsF (sidesF facts ++ [f0, gq]) = lp at *
    have eLp10 := s10 _ _ eLp
    have pP10 : Paired (TrW G10) rs lp := paired_imp (fun _ _ h => h.same s10) pP
    have sMk : SqL K G10 Mk (intsV out) := SqL.of eMk
    refine ⟨_, rfl, _, rfl, .inl ⟨rfl, _, SqL.of eLp10⟩, _, rfl, Lp, vl, fD f0, lp.map fD, ixE lp f0, fD f0, rfl, rfl, .lst (SqL.of eLp10) (dp_trs pP10), (tl9.same s10).dp, shP, shf, i1, i2, i3, Mk, _, _, _, rfl, rfl, sMk, at_ints (by omega), gname_go ?_⟩
    try dsimp only
    refine ⟨_, rfl, _, rfl, _, rfl, .inl ⟨rfl, _, SqL.of eLp10⟩, _, rfl, Lp, vr, fD gq, lp.map fD, ixE lp gq, fD gq, rfl, rfl, .lst (SqL.of eLp10) (dp_trs pP10), (tr9.same s10).dp, shP, shg, j1, j2, j3, Mk, _, _, _, rfl, rfl, sMk, at_ints (by omega), rfl, gname_go ?_⟩
    try dsimp only
    have ed : decide (V.int (g0 out (ixE lp f0) : Nat) = V.int (g0 out (ixE lp gq) : Nat)) = decide (g0 out (ixE lp f0) = g0 out (ixE lp gq)) := decide_eq_decide.mpr ⟨fun h => by injection h with h; omega, fun h => by rw [h]⟩
    refine sig_go (σ' := [some (.ref p), some (.ref rk), some (.ref L), some (.ref Fk), some vl, some vr, some (.ref Lp), some (.ref Mk), some (.int (g0 out (ixE lp f0) : Nat)), some (.bl (decide (V.int (g0 out (ixE lp f0) : Nat) = V.int (g0 out (ixE lp gq) : Nat)))), none, none, none, none, none, none, none, none]) rfl ?_
    have erk10 := s10 _ _ erk9
    refine ⟨_, rfl, rk, _, _, .str z, rfl, rfl, SqT.of erk10, atI_nat (j := 0) rfl, _, rfl, rk, _, _, .bl b, rfl, rfl, SqT.of erk10, atI_nat (j := 1) rfl, rfl, rfl, fun tk9 dxk nk ndk nek => made_ok hz nk ndk fun H5 s5 ek5 => ⟨rfl, ?_⟩⟩
    have okf8 : ∀ e ∈ facts, (e.1.ok = true ∧ e.1.ops ≤ 8) ∧ e.2.ok = true ∧ e.2.ops ≤ 8 := fun e he => by
      obtain ⟨⟨a1, a2⟩, a3, a4⟩ := okf e he
      exact ⟨⟨a1, by omega⟩, a3, by omega⟩
    refine ⟨_, rfl, Fk, facts, rfl, (hF9.same s10).same s5, by omega, okf8, fun Fg H6 s6' hFg => ⟨_, _, rfl, ?_⟩⟩
    try dsimp only
    have s1011 := s10.trans (s5.trans s6')
    refine ⟨_, rfl, vl, f0, rfl, tl9.same s1011, ok1, by omega, Nat.le_trans (Fm.dep_ops f0) (by omega), fun x1 H7 s7' h1 => ?_⟩
    refine ⟨_, rfl, vr, gq, rfl, tr9.same (s1011.trans s7'), ok2, by omega, Nat.le_trans (Fm.dep_ops gq) (by omega), fun x2 H8 s8' h2 => ⟨_, _, rfl, ?_⟩⟩
    try dsimp only
    have ek8 := ek5.same (s6'.trans (s7'.trans s8'))
    have hFg8 := hFg.same (s7'.trans s8')
    have h18 := h1.same s8'
    have s58 : Same G5 H8 := (s59.trans s1011).trans (s7'.trans s8')
    -- what may be asked
    have fops : ∀ e ∈ facts, e.1.ops ≤ 2 ∧ e.2.ops ≤ 2 := fun e he => ⟨(okf e he).1.2, (okf e he).2.2⟩
    have argOk : ∀ a c : Fm, (a.ok = true ∧ a.ops ≤ 8) → (c.ok = true ∧ c.ops ≤ 8) → a.ops + c.ops ≤ 14 → okArgs facts [a, c] := fun a c ha hc hl => by
      refine ⟨by omega, fun x hx => ?_, ?_⟩
      · rcases List.mem_append.mp hx with hx | hx
        · exact ⟨(okS x hx).1, Nat.le_trans (okS x hx).2 (by decide)⟩
        · simp only [List.mem_cons, List.not_mem_nil, or_false] at hx
          rcases hx with rfl | rfl
          · exact ha
          · exact hc
      · have p1 := parts_lenF a
        have p2 := parts_lenF c
        have := tab_len (gs := [a, c]) fops (by omega) (n := 2 * a.ops + 1 + (2 * c.ops + 1)) (by simp only [List.flatMap_cons, List.flatMap_nil, List.length_append, List.length_nil]; omega)
        omega
    generalize hdu : decide (V.int (g0 out (ixE lp f0) : Nat) = V.int (g0 out (ixE lp gq) : Nat)) = due at ed ⊢
    have dueT : ∀ c : Bool, (c = true ↔ ClI (leqsF facts lp) (rowsF z b lp) (ixE lp f0) (ixE lp gq)) → c = due := fun c hc => by
      rw [ed, Bool.eq_iff_iff, hc, decide_eq_true_iff, hdue]
    have dueT2 : ∀ c : Bool, (c = true ↔ ClI (leqsF facts lp) (rowsF z b lp) (ixE lp gq) (ixE lp f0)) → c = due := fun c hc => dueT c (hc.trans ⟨.symm, .symm⟩)
    refine sig_go (σ' := [some (.ref p), some (.ref rk), some (.ref L), some (.ref Fk), some vl, some vr, some (.ref Lp), some (.ref Mk), some (.int (g0 out (ixE lp f0) : Nat)), some (.bl due), some (.ref tk9), some (.ref Fg), some (.ref x1), some (.ref x2), none, none, none, none]) rfl ?_
    -- the first
    refine ⟨_, rfl, _, rfl, _, rfl, _, rfl, tk9, Fg, x1, x2, z, b, facts, f0, gq, rfl, ek8, hz, hFg8, h18, h2, argOk _ _ ⟨ok1, by omega⟩ ⟨ok2, by omega⟩ (by omega), fun c1 Ha sa hc1 => ⟨Nat.le_of_ble_eq_true rfl, fun Ls nLs => gname_go ?_⟩⟩
    obtain rfl := dueT c1 (hc1.trans both)
    have sL := same_new (o := .lst [V.bl c1]) nLs
    have nL8 : H8 Ls = none := none_back sa nLs
    have ri : RI C FC H8 z b facts f0 gq tk9 Fg x1 x2 Ls [c1] (upd Ha Ls (.lst [V.bl c1])) := ⟨sa.trans sL, (ek8.same sa).same sL, (hFg8.same sa).same sL, (h18.same sa).same sL, (h2.same sa).same sL, upd_same⟩
    generalize upd Ha Ls (.lst [V.bl c1]) = Hb at ri ⊢
    try dsimp only
    refine sig_go (σ' := [some (.ref p), some (.ref rk), some (.ref L), some (.ref Fk), some vl, some vr, some (.ref Lp), some (.ref Mk), some (.int (g0 out (ixE lp f0) : Nat)), some (.bl c1), some (.ref tk9), some (.ref Fg), some (.ref x1), some (.ref x2), some (.ref Ls), none, none, none]) rfl ?_
    -- by name, the other way round
    refine ⟨_, rfl, .inl ⟨rfl, _, SqL.of ri.l⟩, _, rfl, _, rfl, _, rfl, _, rfl, rfl, tk9, Fg, x2, x1, z, b, facts, gq, f0, rfl, ri.k, hz, ri.fa, ri.h2, ri.h1, argOk _ _ ⟨ok2, by omega⟩ ⟨ok1, by omega⟩ (by omega), fun c2 Hc sc hc2 => ?_⟩
    obtain rfl := dueT2 c2 (hc2.trans both2)
    have ri := ri.same sc
    refine ⟨Ls, _, _, rfl, rfl, ri.l, Nat.le_of_ble_eq_true rfl, ?_⟩
    have ri := ri.push nL8 c2
    try dsimp only
    generalize upd Hc Ls (.lst ([c2].map V.bl ++ [V.bl c2])) = Hd at ri ⊢
    -- with itself
    refine ⟨_, rfl, .inl ⟨rfl, _, SqL.of ri.l⟩, _, rfl, _, rfl, _, rfl, _, rfl, tk9, Fg, x1, x1, z, b, facts, f0, f0, rfl, ri.k, hz, ri.fa, ri.h1, ri.h1, argOk _ _ ⟨ok1, by omega⟩ ⟨ok1, by omega⟩ (by omega), fun c3 He se hc3 => ?_⟩
    obtain rfl : c3 = true := hc3.mpr alike_self
    have ri := ri.same se
    refine ⟨Ls, _, _, rfl, rfl, ri.l, Nat.le_of_ble_eq_true rfl, ?_⟩
    have ri := ri.push nL8 true
    try dsimp only
    generalize upd He Ls (.lst (([c2] ++ [c2]).map V.bl ++ [V.bl true])) = Hf at ri ⊢
    obtain ⟨ps, eFg, pFg⟩ := hFg8
    have lps := pFg.length
    refine ⟨_, rfl, Fg, rfl, ⟨_, SqT.of (ri.s _ _ eFg)⟩, ?_⟩
    refine for_it (walk_tup (K := K) (a := Fg) (xs := ps.map V.ref)) (fun i σ' G => ∃ x15 x16 : Option V, σ' = [some (.ref p), some (.ref rk), some (.ref L), some (.ref Fk), some vl, some vr, some (.ref Lp), some (.ref Mk), some (.int (g0 out (ixE lp f0) : Nat)), some (.bl c2), some (.ref tk9), some (.ref Fg), some (.ref x1), some (.ref x2), some (.ref Ls), x15, x16, none] ∧ RI C FC H8 z b facts f0 gq tk9 Fg x1 x2 Ls ([c2, c2, true] ++ List.replicate i true) G) ⟨_, _, rfl, ri⟩ (fun i σ' G _ h => by obtain ⟨_, _, _, r⟩ := h; exact SqT.of (r.s _ _ eFg)) ?_ ?_
    · rintro i x σ' G G' hi ⟨x15, x16, rfl, ri⟩ ⟨rfl, hx⟩
      rw [List.length_map] at hi
      have e1 : ps[i]? = some ps[i] := List.getElem?_eq_getElem hi
      have e2 : facts[i]? = some (facts[i]'(by omega)) := List.getElem?_eq_getElem (by omega)
      generalize ps[i] = p0 at e1
      generalize (facts[i]'(by omega)) = e0 at e2
      rw [List.getElem?_map, e1] at hx
      obtain rfl := Option.some.inj hx
      obtain ⟨l, r, ep, hl, hr9⟩ := paired_get2 pFg i _ _ e1 e2
      have me := List.mem_of_getElem? e2
      obtain ⟨⟨a1, a2⟩, a3, a4⟩ := okf e0 me
      refine ⟨p0, _, rfl, SqT.of (ri.s _ _ ep), rfl, _, _, rfl, _, _, rfl, rfl, ?_⟩
      try dsimp only
      refine sig_go (σ' := [some (.ref p), some (.ref rk), some (.ref L), some (.ref Fk), some vl, some vr, some (.ref Lp), some (.ref Mk), some (.int (g0 out (ixE lp f0) : Nat)), some (.bl c2), some (.ref tk9), some (.ref Fg), some (.ref x1), some (.ref x2), some (.ref Ls), some (.ref l), some (.ref r), none]) rfl ?_
      refine ⟨_, rfl, .inl ⟨rfl, _, SqL.of ri.l⟩, _, rfl, _, rfl, _, rfl, _, rfl, tk9, Fg, r, l, z, b, facts, e0.2, e0.1, rfl, ri.k, hz, ri.fa, hr9.same ri.s, hl.same ri.s, argOk _ _ ⟨a3, by omega⟩ ⟨a1, by omega⟩ (by omega), fun c4 He se hc4 => ?_⟩
      obtain rfl : c4 = true := hc4.mpr (alike_fact me)
      have ri := ri.same se
      refine ⟨Ls, _, _, rfl, rfl, ri.l, by rw [List.length_map, List.length_append, List.length_replicate, sizeLine_eq]; simp only [List.length_cons, List.length_nil]; omega, _, _, rfl, ?_⟩
      have ri := ri.push nL8 true
      rw [List.append_assoc, ← List.replicate_succ'] at ri
      exact ri
    · rintro σ' G ⟨x15, x16, rfl, ri⟩
      rw [List.length_map] at ri
      refine ⟨_, rfl, rep_bools ri.l (by rw [List.length_append, List.length_replicate]; simp only [List.length_cons, List.length_nil]; omega) ?_⟩
      refine ⟨_, rfl, _, rfl, Nat.le_of_ble_eq_true rfl, fun La nLa => ?_⟩
      have sa9 := same_new (o := .lst [V.bl c2, V.bl c2, V.bl true]) nLa
      have ea9 : (upd G La (.lst [V.bl c2, V.bl c2, V.bl true])) La = some (.lst [V.bl c2, V.bl c2, V.bl true]) := upd_same
      generalize upd G La (.lst [V.bl c2, V.bl c2, V.bl true]) = Ga at sa9 ea9 ⊢
      have eFa := sa9 _ _ (ri.s _ _ eFg)
      refine ⟨_, rfl, Fg, rfl, ⟨_, SqT.of eFa⟩, fun D nD => ?_⟩
      refine lc_it (walk_tup (K := K) (a := Fg) (xs := ps.map V.ref)) (fun i X => Same Ga X ∧ X D = some (.lst ((List.replicate i true).map V.bl))) ⟨same_new nD, upd_same⟩ (fun i X _ h => SqT.of (h.1 _ _ eFa)) ?_ ?_
      · rintro i x X X' hi ⟨sX, eX⟩ ⟨rfl, hx⟩
        rw [List.length_map] at hi
        refine ⟨rfl, ?_⟩
        unfold tYes
        dsimp only
        rw [if_pos rfl]
        refine ⟨_, eX, by rw [List.length_map, List.length_replicate, sizeLine_eq]; omega, same_pt nD sX, ?_⟩
        rw [upd_same, List.replicate_succ', List.map_append]
        rfl
      · rintro X ⟨sX, eX⟩
        rw [List.length_map] at eX
        refine ⟨La, D, _, _, rfl, rfl, sX _ _ ea9, eX, by rw [List.length_map, List.length_replicate, sizeLine_eq]; simp only [List.length_cons, List.length_nil]; omega, fun L3 n3 => ?_⟩
        have s3 := same_new (o := .lst ([V.bl c2, V.bl c2, V.bl true] ++ (List.replicate ps.length true).map V.bl)) n3
        have e3 : (upd X L3 (.lst ([V.bl c2, V.bl c2, V.bl true] ++ (List.replicate ps.length true).map V.bl))) L3 = some (.lst (([c2, c2, true] ++ List.replicate ps.length true).map V.bl)) := by rw [upd_same, List.map_append]; rfl
        refine rep_bools e3 (by rw [List.length_append, List.length_replicate]; simp only [List.length_cons, List.length_nil]; omega) ⟨rfl, ?_⟩
        rw [decide_eq_true rfl]
        exact q _ (b05.trans (.of (s58.trans (ri.s.trans (sa9.trans (sX.trans s3))))))
end
end L2.K19
set_option Elab.async false
set_option linter.all false
set_option maxRecDepth 100000
set_option maxHeartbeats 8000000
namespace L2.K19
open PySem PySem.Spec PyProof.Rows L2.Tb
open SX (S)
abbrev s_law : Stmt := top 77
abbrev N_law : List Str := ["_law_script", "_law_spot"]
theorem sc_law : FnScope N_law ["_law_script"] (defScope s_law) := ⟨rfl, rfl, rfl, by decide +kernel, rfl, by decide +kernel, by decide +kernel⟩
def spLaw (K : PySem.W.Frag) : Sp := fun vs H Q _ => ∃ (a : Addr) (ns : List Int), vs = [.ref a] ∧ SqL K H a (ns.map V.int) ∧ (∀ z ∈ ns, iBits z ≤ 1048576) ∧ ns.length ≤ 63 ∧ ∀ H' : Hp, Q (.bl true) H'
section
variable {P : Program} {w : World} {K : PySem.W.Frag} {mg : Str → Option Value} {base : Heap} {f : Addr} {fd : FuncData} {A : Around}
theorem r_law (T : Bt mg) (F : FnP K "law" s_law f fd) (hroom : Room 24 A) (hg : A.guards = some []) (k_purse : Cal P w K mg base 1 "_law_purse" (spPurse K)) (g_right : CalG P w K mg base 22 "_law_right" spRight) : RunsAt P w K mg base f fd ["_law_script"] (spLaw K) A := by
  have hnd := sc_law.nd
  refine runs_body F sc_law hroom fun cdv outer s H vs Q E hr h => ?_
  have free : (A.deeper (envOfC "law" (defScope s_law) s.heap.objs.size f cdv)).guards = some [] := hg
  obtain ⟨a, ns, rfl, hs, hb, hl, q⟩ := h
  refine ⟨_, PSs.nox (pss_one (ps_ret (pe_callB (cr_all (by rfl)) (by rfl) T.m_all (by decide +kernel) (pa_cons (pe_lc (own := [("_law_spot", 1)]) (tt := tYes) (by rfl) hnd (pi_range1 (by rfl) T.m_range (pa_cons (pe_callB (call_max2 (by rfl)) (by rfl) T.m_max (by decide +kernel) (pa_cons pe_int (pa_cons (pe_callB (call_min2 (by rfl)) (by rfl) T.m_min (by decide +kernel) (pa_cons (pe_callB call_len_seq (by rfl) T.m_len (by decide +kernel) (pa_cons (pv 0) pa_nil)) (pa_cons pe_int pa_nil))) pa_nil))) pa_nil)) (blkOk_by (own := [("_law_spot", 1)]) (N := N_law) (sc := defScope s_law) (by decide +kernel)) (fun _ _ _ _ _ => (pg_name (i := 1) hnd rfl (by first | exact Or.inl rfl | exact Or.inr rfl))) (fun _ _ _ _ _ => pts_nil) (fun _ _ _ _ _ => (pe_calG g_right hr (by omega) free (by rfl) (pa_cons (pe_cal k_purse hr (by omega) (by rfl) (pa_cons (pv 0) (pa_cons (pv 1) pa_nil))) pa_nil)))) pa_nil)))), ?_⟩
  refine ret_go (cb_one ?_)
  refine ⟨_, rfl, a, _, rfl, .inl hs, _, _, rfl, _, _, rfl, _, rfl, ?_⟩
  have hb0 : ∀ z : Int, 0 ≤ (if (if 4 < z then 4 else z) > 2 then if 4 < z then 4 else z else 2) ∧ (if (if 4 < z then 4 else z) > 2 then if 4 < z then 4 else z else 2) ≤ 4 := fun z => by
    by_cases h1 : 4 < z
    · rw [if_pos h1, if_pos (by decide)]
      decide
    · rw [if_neg h1]
      by_cases h2 : z > 2
      · rw [if_pos h2]
        omega
      · rw [if_neg h2]
        decide
  have hm := hb0 ((ns.map V.int).length : Nat)
  generalize (if (if 4 < (((ns.map V.int).length : Nat) : Int) then 4 else (((ns.map V.int).length : Nat) : Int)) > 2 then if 4 < (((ns.map V.int).length : Nat) : Int) then 4 else (((ns.map V.int).length : Nat) : Int) else 2) = m at hm ⊢
  refine ⟨by omega, by omega, fun D nD => ?_⟩
  refine lc_range (n := m.toNat) (fun n H' => Same H H' ∧ H' D = some (.lst (List.replicate n (.bl true)))) ⟨same_new nD, upd_same⟩ ?_ ?_
  · rintro j G1 hj ⟨x1, e1⟩
    refine gname_go ⟨rfl, ?_⟩
    unfold tYes
    dsimp only
    rw [if_pos rfl]
    rw [Int.zero_add]
    refine ⟨_, rfl, _, rfl, a, ns, j, rfl, SqX.same (b := false) hs x1, by omega, by omega, fun p G2 s2 np pk => ?_⟩
    refine ⟨p, rfl, pk, fun G3 s3 => ?_⟩
    have s13 : Same G1 G3 := fun b o e => s3 _ _ (fun z => by rw [z, np] at e; cases e) (s2 _ _ e)
    refine ⟨_, s13 _ _ e1, by rw [List.length_replicate, sizeLine_eq]; omega, same_put nD (x1.trans s13), ?_⟩
    rw [upd_same, show List.replicate j (V.bl true) ++ [.bl true] = List.replicate (j + 1) (V.bl true) from (List.replicate_succ').symm]
  · rintro G1 ⟨x1, e1⟩
    refine ⟨D, List.replicate m.toNat true, rfl, SqL.of (by rw [e1, List.map_replicate]), ?_⟩
    rw [show (List.replicate m.toNat true).all id = true from List.all_eq_true.mpr fun b hb => by rw [List.eq_of_mem_replicate hb]; rfl]
    exact q G1
end
end L2.K19
set_option Elab.async false
set_option linter.all false
set_option maxRecDepth 100000
set_option maxHeartbeats 0
namespace L2.K19
open PySem PySem.Spec PyProof.Rows L2.Tb
open SX (S)
section
variable {P : Program} {w : World} {K : PySem.W.Frag} {mg : Str → Option Value} {h : Heap}
theorem ends {f : Addr} (G : h.Ns mainGlobals mg) (hfa : mg ("law" : Str) = some (.ref f)) (c : SaysH factB fnA tabL cdL w h K) :
    ∃ (fd : FuncData), (∀ (s : Shared) (v : Value), BindsTo s fd ⟨[v], []⟩ [("_law_script", v)]) ∧ 
      ∀ base : Heap, K.In base → base.Ns mainGlobals mg → RunsAt P w K mg base f fd ["_law_script"] (spLaw K) callerA := by
  have X := c.kin
  obtain ⟨f1, z⟩ := He.ba (show factB K = true from c.fb)
  obtain ⟨f2, z⟩ := He.ba z
  obtain ⟨fErr, z⟩ := He.ba z
  obtain ⟨fCalm, z⟩ := He.ba z
  obtain ⟨fKind, z⟩ := He.ba z
  obtain ⟨fLots, z⟩ := He.ba z
  obtain ⟨fOth, z⟩ := He.ba z
  obtain ⟨fIx0, z⟩ := He.ba z
  obtain ⟨fMany, z⟩ := He.ba z
  obtain ⟨fL, z⟩ := He.ba z
  obtain ⟨fD, z⟩ := He.ba z
  obtain ⟨fM, z⟩ := He.ba z
  obtain ⟨fMo8, z⟩ := He.ba z
  obtain ⟨fMf, z⟩ := He.ba z
  obtain ⟨c_cls, z⟩ := He.ba z
  obtain ⟨c_n1, z⟩ := He.ba z
  obtain ⟨c_n2, z⟩ := He.ba z
  obtain ⟨c_n3, z⟩ := He.ba z
  obtain ⟨c_n4, z⟩ := He.ba z
  obtain ⟨c_n5, z⟩ := He.ba z
  obtain ⟨c_n6, z⟩ := He.ba z
  obtain ⟨c_n7, z⟩ := He.ba z
  obtain ⟨c_mkr, z⟩ := He.ba z
  obtain ⟨c_ins, z⟩ := He.ba z
  obtain ⟨c_self, z⟩ := He.ba z
  obtain ⟨c_fmt, z⟩ := He.ba z
  obtain ⟨c_m___mul__, z⟩ := He.ba z
  obtain ⟨c_m___floordiv__, z⟩ := He.ba z
  obtain ⟨c_m___rshift__, z⟩ := He.ba z
  obtain ⟨c_m___len__, z⟩ := He.ba z
  obtain ⟨c_m___str__, z⟩ := He.ba z
  obtain ⟨c_p_sign, z⟩ := He.ba z
  obtain ⟨c_p_name, z⟩ := He.ba z
  obtain ⟨c_p_left, z⟩ := He.ba z
  obtain ⟨c_p_right, z⟩ := He.ba z
  obtain ⟨c_p_parts, z⟩ := He.ba z
  obtain ⟨c_sf, z⟩ := He.ba z
  obtain ⟨c_r_Mult, z⟩ := He.ba z
  obtain ⟨c_r_FloorDiv, z⟩ := He.ba z
  obtain ⟨c_r_RShift, z⟩ := He.ba z
  obtain ⟨t_cls, z⟩ := He.ba z
  obtain ⟨t_n1, z⟩ := He.ba z
  obtain ⟨t_n2, z⟩ := He.ba z
  obtain ⟨t_n3, z⟩ := He.ba z
  obtain ⟨t_n4, z⟩ := He.ba z
  obtain ⟨t_n5, z⟩ := He.ba z
  obtain ⟨t_n6, z⟩ := He.ba z
  obtain ⟨t_mkr, z⟩ := He.ba z
  obtain ⟨t_m_thing, z⟩ := He.ba z
  have t_m_alike := z
  have T : Bt mg := ⟨He.free_ok X G (all_get f2 0), He.free_ok X G (all_get f2 1), He.free_ok X G (all_get f2 2), He.free_ok X G (all_get f2 3), He.free_ok X G (all_get f2 4), He.free_ok X G (all_get f2 5), He.free_ok X G (all_get f2 6), He.free_ok X G (all_get f2 7), He.free_ok X G (all_get f2 8), He.free_ok X G (all_get f2 9), He.free_ok X G (all_get f2 10), He.free_ok X G (all_get f2 11), He.free_ok X G (all_get f2 12), He.free_ok X G (all_get f2 13), He.free_ok X G (all_get f2 14), He.free_ok X G (all_get f2 15), He.free_ok X G (all_get f2 16), He.free_ok X G (all_get f2 17), He.free_ok X G (all_get f2 18)⟩
  have mstr : mg "str" = none := He.free_ok X G (all_get f2 19)
  obtain ⟨fd_is_integer, F_is_integer⟩ := c.nth (d := dTop "is_integer" 17) 0
  have g_is_integer := He.glo_ok X G (all_get f1 12)
  obtain ⟨fd_is_triple, F_is_triple⟩ := c.nth (d := dTop "is_triple" 18) 1
  have g_is_triple := He.glo_ok X G (all_get f1 13)
  obtain ⟨fd_is_name, F_is_name⟩ := c.nth (d := dTop "is_name" 19) 2
  have g_is_name := He.glo_ok X G (all_get f1 14)
  obtain ⟨fd_letter, F_letter⟩ := c.nth (d := dTop "letter" 24) 3
  have g_letter := He.glo_ok X G (all_get f1 15)
  obtain ⟨fd_signed_triple, F_signed_triple⟩ := c.nth (d := dTop "signed_triple" 26) 4
  have g_signed_triple := He.glo_ok X G (all_get f1 16)
  obtain ⟨fd_check_formula, F_check_formula⟩ := c.nth (d := dTop "check_formula" 27) 5
  have g_check_formula := He.glo_ok X G (all_get f1 17)
  obtain ⟨fd_check_facts, F_check_facts⟩ := c.nth (d := dTop "check_facts" 28) 6
  have g_check_facts := He.glo_ok X G (all_get f1 18)
  obtain ⟨fd__is_fact, F__is_fact⟩ := c.nth (d := dTop "_is_fact" 29) 7
  have g__is_fact := He.glo_ok X G (all_get f1 19)
  obtain ⟨fd__signed, F__signed⟩ := c.nth (d := dTop "_signed" 30) 8
  have g__signed := He.glo_ok X G (all_get f1 20)
  obtain ⟨fd__replaced, F__replaced⟩ := c.nth (d := dTop "_replaced" 31) 9
  have g__replaced := He.glo_ok X G (all_get f1 21)
  obtain ⟨fd__in_order, F__in_order⟩ := c.nth (d := dTop "_in_order" 32) 10
  have g__in_order := He.glo_ok X G (all_get f1 22)
  obtain ⟨fd_check_kind, F_check_kind⟩ := c.nth (d := dTop "check_kind" 40) 11
  have g_check_kind := He.glo_ok X G (all_get f1 23)
  obtain ⟨fd_all_parts, F_all_parts⟩ := c.nth (d := dTop "all_parts" 45) 12
  have g_all_parts := He.glo_ok X G (all_get f1 24)
  obtain ⟨fd_part_numbers, F_part_numbers⟩ := c.nth (d := dTop "part_numbers" 46) 13
  have g_part_numbers := He.glo_ok X G (all_get f1 25)
  obtain ⟨fd_operation_triples, F_operation_triples⟩ := c.nth (d := dTop "operation_triples" 47) 14
  have g_operation_triples := He.glo_ok X G (all_get f1 26)
  obtain ⟨fd_turned, F_turned⟩ := c.nth (d := dTop "turned" 48) 15
  have g_turned := He.glo_ok X G (all_get f1 27)
  obtain ⟨fd_in_classes, F_in_classes⟩ := c.nth (d := dTop "in_classes" 49) 16
  have g_in_classes := He.glo_ok X G (all_get f1 28)
  obtain ⟨fd_closed, F_closed⟩ := c.nth (d := dTop "closed" 50) 17
  have g_closed := He.glo_ok X G (all_get f1 29)
  obtain ⟨fd_merged, F_merged⟩ := c.nth (d := dTop "merged" 51) 18
  have g_merged := He.glo_ok X G (all_get f1 30)
  obtain ⟨fd__merged_once, F__merged_once⟩ := c.nth (d := dTop "_merged_once" 52) 19
  have g__merged_once := He.glo_ok X G (all_get f1 31)
  obtain ⟨fd_follows, F_follows⟩ := c.nth (d := dTop "follows" 54) 20
  have g_follows := He.glo_ok X G (all_get f1 32)
  obtain ⟨fd__pair_table, F__pair_table⟩ := c.nth (d := dTop "_pair_table" 55) 21
  have g__pair_table := He.glo_ok X G (all_get f1 33)
  obtain ⟨fd_purse, F_purse⟩ := c.nth (d := dTop "_law_purse" 57) 22
  have g_purse := He.glo_ok X G (all_get f1 34)
  obtain ⟨fd_pick, F_pick⟩ := c.nth (d := dTop "_law_pick" 58) 23
  have g_pick := He.glo_ok X G (all_get f1 35)
  obtain ⟨fd_kind, F_kind⟩ := c.nth (d := dTop "_law_kind" 59) 24
  have g_kind := He.glo_ok X G (all_get f1 36)
  obtain ⟨fd_turns, F_turns⟩ := c.nth (d := dTop "_law_turns" 60) 25
  have g_turns := He.glo_ok X G (all_get f1 37)
  obtain ⟨fd_images, F_images⟩ := c.nth (d := dTop "_law_images" 61) 26
  have g_images := He.glo_ok X G (all_get f1 38)
  obtain ⟨fd_names, F_names⟩ := c.nth (d := dTop "_law_names" 62) 27
  have g_names := He.glo_ok X G (all_get f1 39)
  obtain ⟨fd_form, F_form⟩ := c.nth (d := dTop "_law_form" 63) 28
  have g_form := He.glo_ok X G (all_get f1 40)
  obtain ⟨fd_made, F_made⟩ := c.nth (d := dTop "_law_made" 64) 29
  have g_made := He.glo_ok X G (all_get f1 41)
  obtain ⟨fd_parts, F_parts⟩ := c.nth (d := dTop "_law_parts" 65) 30
  have g_parts := He.glo_ok X G (all_get f1 42)
  obtain ⟨fd_triple, F_triple⟩ := c.nth (d := dTop "_law_triple" 66) 31
  have g_triple := He.glo_ok X G (all_get f1 43)
  obtain ⟨fd_rows, F_rows⟩ := c.nth (d := dTop "_law_rows" 67) 32
  have g_rows := He.glo_ok X G (all_get f1 44)
  obtain ⟨fd_joined, F_joined⟩ := c.nth (d := dTop "_law_joined" 68) 33
  have g_joined := He.glo_ok X G (all_get f1 45)
  obtain ⟨fd_marks, F_marks⟩ := c.nth (d := dTop "_law_marks" 69) 34
  have g_marks := He.glo_ok X G (all_get f1 46)
  obtain ⟨fd_facts, F_facts⟩ := c.nth (d := dTop "_law_facts" 70) 35
  have g_facts := He.glo_ok X G (all_get f1 47)
  obtain ⟨fd_wider, F_wider⟩ := c.nth (d := dTop "_law_wider" 71) 36
  have g_wider := He.glo_ok X G (all_get f1 48)
  obtain ⟨fd_pair, F_pair⟩ := c.nth (d := dTop "_law_pair" 72) 37
  have g_pair := He.glo_ok X G (all_get f1 49)
  obtain ⟨fd_size, F_size⟩ := c.nth (d := dTop "_law_size" 73) 38
  have g_size := He.glo_ok X G (all_get f1 50)
  obtain ⟨fd_sides, F_sides⟩ := c.nth (d := dTop "_law_sides" 74) 39
  have g_sides := He.glo_ok X G (all_get f1 51)
  obtain ⟨fd_told_facts, F_told_facts⟩ := c.nth (d := dTop "_law_told_facts" 75) 40
  have g_told_facts := He.glo_ok X G (all_get f1 52)
  obtain ⟨fd_right, F_right⟩ := c.nth (d := dTop "_law_right" 76) 41
  have g_right := He.glo_ok X G (all_get f1 53)
  obtain ⟨fd_law, F_law⟩ := c.nth (d := dTop "law" 77) 42
  have g_law := He.glo_ok X G (all_get f1 54)
  have e := hfa.symm.trans g_law
  cases e
  obtain ⟨er1, er2⟩ := errsB_ok fErr
  obtain ⟨k1, fKind⟩ := He.ba fKind
  obtain ⟨k2, fKind⟩ := He.ba fKind
  obtain ⟨k3, fKind⟩ := He.ba fKind
  obtain ⟨k4, fKind⟩ := He.ba fKind
  obtain ⟨k5, fKind⟩ := He.ba fKind
  obtain ⟨k6, fKind⟩ := He.ba fKind
  obtain ⟨k7, fKind⟩ := He.ba fKind
  have k8 := fKind
  obtain ⟨es, n, D⟩ := c.tb (fun K => He.ga K "LOTS", wordsD) List.mem_cons_self
  obtain ⟨inL, lots⟩ := lotsB_ok fLots D
  refine ⟨_, fun s v => FunD.bindsA (ps := ["_law_script"]) F_law (fun _ _ _ _ _ _ us hl => match us, hl with | [_], _ => rfl) s [v] rfl, fun base _ _ => ?_⟩
  have e_InvalidTurns : ErC P w K mg base "InvalidTurns" "given" bVE (He.ga K "InvalidTurns") := erc_of (st := inClass (top 6) 0) X G (er1 "InvalidTurns" (by decide)).1 bVE_ok (c.nth (d := dIn (fun K => He.ma K (He.ga K "InvalidTurns") "__init__") "__init__" "InvalidTurns.__init__" (inClass (top 6) 0) []) 43) rfl ⟨rfl, rfl, rfl, by decide +kernel, rfl, by decide +kernel, by decide +kernel⟩ rfl rfl (by decide) (by decide) (fun _ _ _ _ _ _ us hl => match us, hl with | [_, _], _ => rfl) (fun _ _ _ _ _ _ _ _ => rfl)
  have e_InvalidFlag : ErC P w K mg base "InvalidFlag" "given" bVE (He.ga K "InvalidFlag") := erc_of (st := inClass (top 5) 0) X G (er1 "InvalidFlag" (by decide)).1 bVE_ok (c.nth (d := dIn (fun K => He.ma K (He.ga K "InvalidFlag") "__init__") "__init__" "InvalidFlag.__init__" (inClass (top 5) 0) []) 44) rfl ⟨rfl, rfl, rfl, by decide +kernel, rfl, by decide +kernel, by decide +kernel⟩ rfl rfl (by decide) (by decide) (fun _ _ _ _ _ _ us hl => match us, hl with | [_, _], _ => rfl) (fun _ _ _ _ _ _ _ _ => rfl)
  have e_NotAKind : ErC P w K mg base "NotAKind" "given" bVE (He.ga K "NotAKind") := erc_of (st := inClass (top 8) 0) X G (er1 "NotAKind" (by decide)).1 bVE_ok (c.nth (d := dIn (fun K => He.ma K (He.ga K "NotAKind") "__init__") "__init__" "NotAKind.__init__" (inClass (top 8) 0) []) 45) rfl ⟨rfl, rfl, rfl, by decide +kernel, rfl, by decide +kernel, by decide +kernel⟩ rfl rfl (by decide) (by decide) (fun _ _ _ _ _ _ us hl => match us, hl with | [_, _], _ => rfl) (fun _ _ _ _ _ _ _ _ => rfl)
  have e_InvalidName : ErC P w K mg base "InvalidName" "given" bVE (He.ga K "InvalidName") := erc_of (st := inClass (top 3) 0) X G (er1 "InvalidName" (by decide)).1 bVE_ok (c.nth (d := dIn (fun K => He.ma K (He.ga K "InvalidName") "__init__") "__init__" "InvalidName.__init__" (inClass (top 3) 0) []) 46) rfl ⟨rfl, rfl, rfl, by decide +kernel, rfl, by decide +kernel, by decide +kernel⟩ rfl rfl (by decide) (by decide) (fun _ _ _ _ _ _ us hl => match us, hl with | [_, _], _ => rfl) (fun _ _ _ _ _ _ _ _ => rfl)
  have e_NotAFormula : ErC P w K mg base "NotAFormula" "given" bVE (He.ga K "NotAFormula") := erc_of (st := inClass (top 9) 0) X G (er1 "NotAFormula" (by decide)).1 bVE_ok (c.nth (d := dIn (fun K => He.ma K (He.ga K "NotAFormula") "__init__") "__init__" "NotAFormula.__init__" (inClass (top 9) 0) []) 47) rfl ⟨rfl, rfl, rfl, by decide +kernel, rfl, by decide +kernel, by decide +kernel⟩ rfl rfl (by decide) (by decide) (fun _ _ _ _ _ _ us hl => match us, hl with | [_, _], _ => rfl) (fun _ _ _ _ _ _ _ _ => rfl)
  have e_InvalidFacts : ErC P w K mg base "InvalidFacts" "index" bVE (He.ga K "InvalidFacts") := erc_of (st := inClass (top 10) 0) X G (He.ba fIx0).1 bVE_ok (c.nth (d := dIn (fun K => He.ma K (He.ga K "InvalidFacts") "__init__") "__init__" "InvalidFacts.__init__" (inClass (top 10) 0) []) 48) rfl ⟨rfl, rfl, rfl, by decide +kernel, rfl, by decide +kernel, by decide +kernel⟩ rfl rfl (by decide) (by decide) (fun _ _ _ _ _ _ us hl => match us, hl with | [_, _], _ => rfl) (fun _ _ _ _ _ _ _ _ => rfl)
  have t_InvalidFacts := of_decide_eq_true (He.ba fIx0).2
  have eM : ErC P w K mg base "TooMany" "limit" bAE (He.ga K "TooMany") := erc_of (st := inClass (top 12) 0) X G (He.ba fMany).1 bAE_ok (c.nth (d := dIn (fun K => He.ma K (He.ga K "TooMany") "__init__") "__init__" "TooMany.__init__" (inClass (top 12) 0) []) 49) rfl ⟨rfl, rfl, rfl, by decide +kernel, rfl, by decide +kernel, by decide +kernel⟩ rfl rfl (by decide) (by decide) (fun _ _ _ _ _ _ us hl => match us, hl with | [_, _], _ => rfl) (fun _ _ _ _ _ _ _ _ => rfl)
  have KF : KiF P w K mg base (He.ga K "Kind") (He.ga K "LOTS") (He.ga K "InvalidTurns") (He.ga K "InvalidFlag") es n := ⟨He.glo_ok X G (all_get f1 7), He.cls_ok k1, He.noat_ok k2, He.noat_ok k3, He.glo_ok X G (all_get f1 8), D, inL, e_InvalidTurns, e_InvalidFlag, (er1 "InvalidTurns" (by decide)).2.1, (er1 "InvalidFlag" (by decide)).2.1⟩
  have KG : KiG K w mg (He.ga K "Kind") (He.ga K "LOTS") := ⟨He.str_ok X G fCalm, lots, insB_ok k5, of_decide_eq_true k8⟩
  have KM := He.mkr_ok k4
  obtain ⟨fdKi, Ki⟩ := c.nth (d := dIn (fun K => He.ma K (He.ga K "Kind") "__init__") "__init__" "Kind.__init__" (inClass (top 39) 0) [("calm", .bl false)]) 50
  obtain ⟨fdKc, Kc⟩ := c.nth (d := dIn (fun K => pAd K (He.ga K "Kind") "calm") "calm" "Kind.calm" (inClass (top 39) 3) []) 51
  obtain ⟨fdKl, Kl⟩ := c.nth (d := dIn (fun K => pAd K (He.ga K "Kind") "lot") "lot" "Kind.lot" (inClass (top 39) 4) []) 52
  obtain ⟨fdFi, Fi⟩ := c.nth (d := dIn (fun K => He.ma K (He.ga K "Formula") "__init__") "__init__" "Formula.__init__" (inClass (top 25) 0) []) 53
  obtain ⟨fdTi, Ti⟩ := c.nth (d := dIn (fun K => He.ma K (He.ga K "Table") "__init__") "__init__" "Table.__init__" (inClass (top 44) 0) []) 64
  obtain ⟨fdTt, Tt⟩ := c.nth (d := dIn (fun K => He.ma K (He.ga K "Table") "thing") "thing" "Table.thing" (inClass (top 44) 1) []) 65
  obtain ⟨fdTa, Ta⟩ := c.nth (d := dIn (fun K => He.ma K (He.ga K "Table") "alike") "alike" "Table.alike" (inClass (top 44) 2) []) 66
  obtain ⟨fdF_mul_, F_mul_⟩ := c.nth (d := dIn (fun K => He.ma K (He.ga K "Formula") "__mul__") "__mul__" "Formula.__mul__" (inClass (top 25) 9) []) 54
  obtain ⟨fdF_floordiv_, F_floordiv_⟩ := c.nth (d := dIn (fun K => He.ma K (He.ga K "Formula") "__floordiv__") "__floordiv__" "Formula.__floordiv__" (inClass (top 25) 10) []) 55
  obtain ⟨fdF_rshift_, F_rshift_⟩ := c.nth (d := dIn (fun K => He.ma K (He.ga K "Formula") "__rshift__") "__rshift__" "Formula.__rshift__" (inClass (top 25) 11) []) 56
  obtain ⟨fdF_len_, F_len_⟩ := c.nth (d := dIn (fun K => He.ma K (He.ga K "Formula") "__len__") "__len__" "Formula.__len__" (inClass (top 25) 13) []) 57
  obtain ⟨fdF_str_, F_str_⟩ := c.nth (d := dIn (fun K => He.ma K (He.ga K "Formula") "__str__") "__str__" "Formula.__str__" (inClass (top 25) 16) []) 58
  obtain ⟨fdP_sign_, P_sign_⟩ := c.nth (d := dIn (fun K => pAd K (He.ga K "Formula") "sign") "sign" "Formula.sign" (inClass (top 25) 2) []) 59
  obtain ⟨fdP_name_, P_name_⟩ := c.nth (d := dIn (fun K => pAd K (He.ga K "Formula") "name") "name" "Formula.name" (inClass (top 25) 3) []) 60
  obtain ⟨fdP_left_, P_left_⟩ := c.nth (d := dIn (fun K => pAd K (He.ga K "Formula") "left") "left" "Formula.left" (inClass (top 25) 4) []) 61
  obtain ⟨fdP_right_, P_right_⟩ := c.nth (d := dIn (fun K => pAd K (He.ga K "Formula") "right") "right" "Formula.right" (inClass (top 25) 5) []) 62
  obtain ⟨fdP_parts_, P_parts_⟩ := c.nth (d := dIn (fun K => pAd K (He.ga K "Formula") "parts") "parts" "Formula.parts" (inClass (top 25) 7) []) 63
  have mset : mg "set" = none := He.free_ok X G (all_get f2 20)
  have c_i := c_kinit T mstr KF Ki
  obtain ⟨B1k, _⟩ := kinit_binds Ki
  have PC : PrpM P w K mg base (He.ga K "Kind") "calm" 1 (spKcalm (He.ga K "Kind")) := ⟨_, _, fdKc, propB_ok k6, c_kcalm KF Kc, Kc.bindsN (fun _ _ _ _ _ _ us hl => match us, hl with | [_], _ => rfl)⟩
  have PL : PrpM P w K mg base (He.ga K "Kind") "lot" 1 (spKlot K (He.ga K "Kind")) := ⟨_, _, fdKl, propB_ok k7, c_klot KF KG Kl, Kl.bindsN (fun _ _ _ _ _ _ us hl => match us, hl with | [_], _ => rfl)⟩
  obtain ⟨o0, o1, o2, oA, oB, oC, oD⟩ := othB_ok fOth
  have BO : OthK K mg := ⟨_, o0, o1, o2, He.glo_ok X G (all_get f1 9), oA, oB, oC, oD⟩
  have CF : ChF mg := ⟨He.str_ok X G fL, He.str_ok X G fD, He.int_ok X G fM⟩
  have FF : FoF K mg (He.ga K "Formula") := ⟨He.glo_ok X G (all_get f1 10), He.cls_ok c_cls, He.noat_ok c_n1, He.noat_ok c_n2, He.noat_ok c_n3, He.noat_ok c_n4, He.noat_ok c_n5, He.noat_ok c_n6, He.noat_ok c_n7, insB_ok c_ins, of_decide_eq_true c_self⟩
  have FM := He.mkr_ok c_mkr
  have TF : TaF K mg (He.ga K "Table") := ⟨He.glo_ok X G (all_get f1 11), He.cls_ok t_cls, He.noat_ok t_n1, He.noat_ok t_n2, He.noat_ok t_n3, He.noat_ok t_n4, He.noat_ok t_n5, He.noat_ok t_n6⟩
  have TM := He.mkr_ok t_mkr
  have Q_sign : PrpM P w K mg base (He.ga K "Formula") "sign" 1 (spFsign (He.ga K "Formula")) := ⟨_, _, fdP_sign_, propB_ok c_p_sign, c_fsign FF P_sign_, P_sign_.bindsN (fun _ _ _ _ _ _ us hl => match us, hl with | [_], _ => rfl)⟩
  have Q_name : PrpM P w K mg base (He.ga K "Formula") "name" 1 (spFname (He.ga K "Formula")) := ⟨_, _, fdP_name_, propB_ok c_p_name, c_fname FF P_name_, P_name_.bindsN (fun _ _ _ _ _ _ us hl => match us, hl with | [_], _ => rfl)⟩
  have Q_left : PrpM P w K mg base (He.ga K "Formula") "left" 1 (spFleft (He.ga K "Formula")) := ⟨_, _, fdP_left_, propB_ok c_p_left, c_fleft FF P_left_, P_left_.bindsN (fun _ _ _ _ _ _ us hl => match us, hl with | [_], _ => rfl)⟩
  have Q_right : PrpM P w K mg base (He.ga K "Formula") "right" 1 (spFright (He.ga K "Formula")) := ⟨_, _, fdP_right_, propB_ok c_p_right, c_fright FF P_right_, P_right_.bindsN (fun _ _ _ _ _ _ us hl => match us, hl with | [_], _ => rfl)⟩
  have Q_parts : PrpM P w K mg base (He.ga K "Formula") "parts" 1 (spFparts (He.ga K "Formula")) := ⟨_, _, fdP_parts_, propB_ok c_p_parts, c_fparts FF P_parts_, P_parts_.bindsN (fun _ _ _ _ _ _ us hl => match us, hl with | [_], _ => rfl)⟩
  have S_str : SpcM P w K mg base L2.CX0 (He.ga K "Formula") "__str__" ["self"] 1 (spFstr (He.ga K "Formula")) := ⟨_, fdF_str_, (He.meth_ok c_m___str__).at_, (He.meth_ok c_m___str__).fn, c_fstr mstr FF F_str_, F_str_.bindsN (fun _ _ _ _ _ _ us hl => match us, hl with | [_], _ => rfl)⟩
  have S_len : SpcM P w K mg base L2.CX0 (He.ga K "Formula") "__len__" ["self"] 1 (spFlen (He.ga K "Formula")) := ⟨_, fdF_len_, (He.meth_ok c_m___len__).at_, (He.meth_ok c_m___len__).fn, c_flen T FF F_len_, F_len_.bindsN (fun _ _ _ _ _ _ us hl => match us, hl with | [_], _ => rfl)⟩
  have k_is_name := c_is_name (P := P) (w := w) (base := base) T mstr CF F_is_name g_is_name
  have k_in_order := c_in_order T mstr FF S_str S_len F__in_order g__in_order
  have c_fi := c_finit T FF (He.eqO_ok c_fmt) S_str Q_parts k_in_order Fi
  have BiF : Binds K fdFi ["self", "sign", "name", "left", "right"] [] := Fi.bindsN (fun _ _ _ _ _ _ us hl => match us, hl with | [_, _, _, _, _], _ => rfl)
  have x_letter := c_letter T FF k_is_name FM c_fi BiF e_InvalidName (er1 "InvalidName" (by decide)).2.1 F_letter g_letter
  have x_cf := c_check_formula T FF e_NotAFormula (er1 "NotAFormula" (by decide)).2.1 F_check_formula g_check_formula
  have x_signed := c_signed T FF (He.int_ok X G fMo8) S_len FM c_fi BiF x_cf eM (of_decide_eq_true (He.ba fMany).2) F__signed g__signed
  have B_fmul : BinM P w K mg base (He.ga K "Formula") (He.ga K "NotAFormula") (He.ga K "TooMany") .Mult 0 := ⟨_, fdF_mul_, (He.meth_ok c_m___mul__).at_, (He.meth_ok c_m___mul__).fn, He.eqO_ok c_r_Mult, c_fmul x_signed F_mul_, F_mul_.bindsN (fun _ _ _ _ _ _ us hl => match us, hl with | [_, _], _ => rfl)⟩
  have B_ffdiv : BinM P w K mg base (He.ga K "Formula") (He.ga K "NotAFormula") (He.ga K "TooMany") .FloorDiv 1 := ⟨_, fdF_floordiv_, (He.meth_ok c_m___floordiv__).at_, (He.meth_ok c_m___floordiv__).fn, He.eqO_ok c_r_FloorDiv, c_ffdiv x_signed F_floordiv_, F_floordiv_.bindsN (fun _ _ _ _ _ _ us hl => match us, hl with | [_, _], _ => rfl)⟩
  have B_frsh : BinM P w K mg base (He.ga K "Formula") (He.ga K "NotAFormula") (He.ga K "TooMany") .RShift 2 := ⟨_, fdF_rshift_, (He.meth_ok c_m___rshift__).at_, (He.meth_ok c_m___rshift__).fn, He.eqO_ok c_r_RShift, c_frsh x_signed F_rshift_, F_rshift_.bindsN (fun _ _ _ _ _ _ us hl => match us, hl with | [_, _], _ => rfl)⟩
  have x_ck := calX_of (st := s_check_kind) F_check_kind g_check_kind (fun _ _ _ _ _ _ us hl => match us, hl with | [_], _ => rfl) (c_check T KF KG e_NotAKind (er1 "NotAKind" (by decide)).2.1 F_check_kind)
  have k_striple := c_striple (P := P) (w := w) (base := base) F_signed_triple g_signed_triple
  have k_all_parts := c_all_parts T mstr FF Q_parts S_str S_len F_all_parts g_all_parts
  have k_part_numbers := c_part_numbers T mstr FF S_str F_part_numbers g_part_numbers
  have k_op_triples := c_op_triples T mstr FF Q_name Q_sign Q_left Q_right S_str k_striple k_part_numbers F_operation_triples g_operation_triples
  have k_turned := c_turned (P := P) (w := w) (base := base) F_turned g_turned
  have k_in_classes := c_in_classes (P := P) (w := w) (base := base) F_in_classes g_in_classes
  have k_merged := c_merged (P := P) (w := w) (base := base) F_merged g_merged
  have k_merged_once := c_merged_once T BO k_merged F__merged_once g__merged_once
  have k_tclosed := c_tclosed T mset KF PC PL k_merged k_turned k_merged_once F_closed g_closed
  have c_ti := c_tinit T mstr mset FF TF KF Q_name S_str k_all_parts k_part_numbers k_op_triples k_tclosed k_in_classes Ti
  have BiT : Binds K fdTi ["self", "kind", "facts", "formulas"] [] := Ti.bindsN (fun _ _ _ _ _ _ us hl => match us, hl with | [_, _, _, _], _ => rfl)
  have c_tt := c_tthing mstr FF TF S_str Tt
  have c_ta := c_talike TF (He.meth_ok t_m_thing) c_tt (Tt.bindsN (fun _ _ _ _ _ _ us hl => match us, hl with | [_, _], _ => rfl)) Ta
  have k_is_fact := c_is_fact (P := P) (w := w) (base := base) T FF F__is_fact g__is_fact
  have x_cfs := c_check_facts (P := P) (w := w) (base := base) T (He.int_ok X G fMf) k_is_fact e_InvalidFacts t_InvalidFacts F_check_facts g_check_facts
  have x_pt := c_pair_table T TF TM c_ti BiT x_ck x_cfs x_cf F__pair_table g__pair_table
  have x_fo := c_follows TF (He.meth_ok t_m_alike) c_ta (Ta.bindsN (fun _ _ _ _ _ _ us hl => match us, hl with | [_, _, _], _ => rfl)) x_pt F_follows g_follows
  have x_foK := c_followsK TF (He.meth_ok t_m_alike) c_ta (Ta.bindsN (fun _ _ _ _ _ _ us hl => match us, hl with | [_, _, _], _ => rfl)) x_pt F_follows g_follows
  have room : Room 24 callerA := ⟨rfl, by decide, by decide⟩
  have k_purse := c_purse (P := P) (w := w) (base := base) T F_purse g_purse
  have k_pick := c_pick (P := P) (w := w) (base := base) T F_pick g_pick
  have k_lkind := c_lkind T k_pick F_kind g_kind
  have k_lturns := c_lturns (P := P) (w := w) (base := base) F_turns g_turns
  have k_limages := c_limages T k_lturns F_images g_images
  have k_lnames := c_lnames T mstr k_pick F_names g_names
  have k_lform := c_lform T k_pick F_form g_form 8
  have k_lmade := c_lmade T FF c_sf B_fmul B_ffdiv B_frsh x_letter F_made g_made 8
  have k_lparts := c_lparts (P := P) (w := w) (base := base) F_parts g_parts 8
  have k_ltriple := c_ltriple (P := P) (w := w) (base := base) F_triple g_triple
  have k_lsize := c_lsize (P := P) (w := w) (base := base) F_size g_size 8
  have k_ljoined := c_ljoined (P := P) (w := w) (base := base) F_joined g_joined
  have k_lrows := c_lrows T k_limages k_ltriple F_rows g_rows
  have k_lmarks := c_lmarks T k_ljoined k_lrows F_marks g_marks
  have k_lsides := c_lsides (P := P) (w := w) (base := base) F_sides g_sides
  have k_ltold := c_ltold_facts T k_lmade F_told_facts g_told_facts
  have k_lfacts := c_lfacts T k_pick k_lform F_facts g_facts
  have k_lwider := c_lwider T k_pick F_wider g_wider
  have k_lpair := c_lpair T k_pick k_lkind k_lform k_lwider k_lsize F_pair g_pair
  have k_right := c_right T KF ⟨_, fdKi, KM, c_i, B1k⟩ k_pick k_lkind k_lnames k_lfacts k_lpair k_lparts k_lsides k_lmarks k_ltold k_lmade x_fo x_foK F_right g_right
  exact r_law T F_law room rfl k_purse k_right
end
end L2.K19
open PySem PySem.W PySem.Calls PyProof.Rows
theorem PySem.Challenge.cw_thirdback_k19_whole_alike_by_own_closing_holds : PySem.Challenge.rw_thirdback_k19_whole_alike_by_own_closing.Holds := by
  w_on; o_law
  refine HandSHeadRun.head_any (r := OpenLaw.row PySem.Challenge.rw_thirdback_k19_whole_alike_by_own_closing) (q := view (OpenLaw.row PySem.Challenge.rw_thirdback_k19_whole_alike_by_own_closing).prog [77]) (H := L2.K19.hookX) (ob := L2.K19.ob) (M := 20000) (loose := L2.K19.looseN) (d := HandSHeadRun.topDef (OpenLaw.row PySem.Challenge.rw_thirdback_k19_whole_alike_by_own_closing).prog 77) (kwd := []) L2.K19.ob_eq
    (by kernel_rfl) (fun s => by kernel_rfl) L2.K19.run (by kernel_rfl) (by kernel_rfl) (by kernel_rfl) (by rfl) (by first | assumption | decide +kernel) (by decide +kernel) ⟨rfl, rfl, rfl, rfl, rfl, by decide +kernel⟩ ?hw ?hc
  case hw => w_witness2
  case hc =>
    refine L2.Tb.walk_at (l := PySem.Challenge.rw_thirdback_k19_whole_alike_by_own_closing) (n := 63) (x := "_law_script") rfl (by decide) (by kernel_rfl) ?F
    intro w mg fa h Y G hmg0
    obtain ⟨K, c⟩ := Y
    have hmg : mg ("law" : PySem.Str) = some (.ref fa) := by
      have e : (HandSHeadRun.topDef (OpenLaw.row PySem.Challenge.rw_thirdback_k19_whole_alike_by_own_closing).prog 77).name = ("law" : PySem.Str) := by kernel_rfl
      rw [← e]
      exact hmg0
    obtain ⟨fd, hb, hF⟩ := L2.K19.ends (P := (PySem.Challenge.rw_thirdback_k19_whole_alike_by_own_closing).prog) (w := w) G hmg c
    exact ⟨K, fd, L2.K19.spLaw K, c.kin, hb, fun H a ns hl hbits hS => ⟨a, ns, rfl, hS, hbits, hl, fun _ => rfl⟩, hF⟩
